import PyProof.Rows.All
import Wide.All
import OpenK.AllK
import Wide.FinOn
import Lean
import PyProof.EqAt
import PyProof.EqKinds
import PyProof.TupleCall
import PyProof.NeData
import PyProof.DictItems
import PyProof.JoinWalk
import PyProof.CallStr
import OpenK.KOwn
import KE.KTryMore
import PyProof.EnumMake
import KE.KLam
import KE.KNestM
import KE.KEqDict
import PySem.Challenge.RW_lastwaltz_k35_a_plan_is_taken
set_option Elab.async false
set_option linter.all false
set_option maxRecDepth 100000
set_option maxHeartbeats 4000000
theorem Me:type_of% @List.length_map:=@List.length_map
theorem Mf:type_of% @PySem.wpAny_bind:=@PySem.wpAny_bind
theorem Mg:type_of% @if_neg:=@if_neg
theorem Mh:type_of% @List.mem_cons_of_mem:=@List.mem_cons_of_mem
theorem Mi:type_of% @if_pos:=@if_pos
theorem Mj:type_of% @List.length_append:=@List.length_append
theorem Ml:type_of% @List.mem_append:=@List.mem_append
theorem Mm:type_of% @List.mem_cons_self:=@List.mem_cons_self
theorem Mn:type_of% @Nat.le_refl:=@Nat.le_refl
theorem Mo:type_of% @PySem.Paired.length:=@PySem.Paired.length
theorem Mp:type_of% @decide_eq_true:=@decide_eq_true
theorem Mq:type_of% @PySem.wpAny_pure:=@PySem.wpAny_pure
theorem Mr:type_of% @List.map_append:=@List.map_append
theorem Ms:type_of% @List.mem_cons:=@List.mem_cons
theorem Mt:type_of% @Bool.false_ne_true:=@Bool.false_ne_true
theorem Mu:type_of% @Option.some.inj:=@Option.some.inj
theorem Mv:type_of% @List.mem_singleton:=@List.mem_singleton
theorem Mw:type_of% @PySem.Heap.lt_size:=@PySem.Heap.lt_size
theorem Mx:type_of% @decide_eq_false:=@decide_eq_false
theorem My:type_of% @List.size_toArray:=@List.size_toArray
theorem Mz:type_of% @List.length_take:=@List.length_take
theorem MA:type_of% @List.mem_of_getElem?:=@List.mem_of_getElem?
theorem MB:type_of% @Nat.ne_of_lt:=@Nat.ne_of_lt
theorem MC:type_of% @List.mem_append_right:=@List.mem_append_right
theorem MD:type_of% @Nat.zero_le:=@Nat.zero_le
theorem ME:type_of% @Ne.symm:=@Ne.symm
theorem MF:type_of% @List.mem_map:=@List.mem_map
theorem MG:type_of% @List.take_add_one:=@List.take_add_one
theorem MI:type_of% @List.take_length:=@List.take_length
theorem MJ:type_of% @List.flatten_cons:=@List.flatten_cons
theorem ML:type_of% @Option.toList_some:=@Option.toList_some
theorem MM:type_of% @PySem.F.plainAttrs_list:=@PySem.F.plainAttrs_list
theorem MN:type_of% @List.nodup_cons:=@List.nodup_cons
theorem MO:type_of% @List.mem_flatten:=@List.mem_flatten
theorem MP:type_of% @PySem.wpAny_mono:=@PySem.wpAny_mono
theorem MQ:type_of% @List.map_cons:=@List.map_cons
theorem MR:type_of% @Nat.lt_of_lt_of_le:=@Nat.lt_of_lt_of_le
theorem MS:type_of% @PySem.F.slot_list_append:=@PySem.F.slot_list_append
theorem MT:type_of% @PySem.F.type_list_append:=@PySem.F.type_list_append
theorem MU:type_of% @List.length_singleton:=@List.length_singleton
theorem MV:type_of% @PySem.W.mg_none_of:=@PySem.W.mg_none_of
theorem MW:type_of% @List.nodup_append:=@List.nodup_append
theorem MX:type_of% @List.length_cons:=@List.length_cons
theorem MY:type_of% @Option.isSome_iff_exists:=@Option.isSome_iff_exists
theorem MZ:type_of% @Nat.le_trans:=@Nat.le_trans
theorem M0:type_of% @List.foldl_append:=@List.foldl_append
theorem M5:type_of% @List.filter_append:=@List.filter_append
theorem M7:type_of% @List.length_drop:=@List.length_drop
theorem M8:type_of% @List.map_map:=@List.map_map
theorem M9:type_of% @PySem.PassesOwn.never:=@PySem.PassesOwn.never
theorem Na:type_of% @List.mem_of_mem_take:=@List.mem_of_mem_take
theorem Nb:type_of% @List.take_of_length_le:=@List.take_of_length_le
theorem Nd:type_of% @List.mem_range:=@List.mem_range
theorem Nf:type_of% @List.append_assoc:=@List.append_assoc
theorem Ng:type_of% @congrArg:=@congrArg
theorem Nh:type_of% @List.mem_filter:=@List.mem_filter
theorem Ni:type_of% @PySem.wpAny_newObj_type:=@PySem.wpAny_newObj_type
theorem Nj:type_of% @List.nodup_nil:=@List.nodup_nil
theorem Nk:type_of% @List.mem_append_left:=@List.mem_append_left
theorem Nl:type_of% @of_decide_eq_true:=@of_decide_eq_true
theorem Nm:type_of% @PySem.boot_len:=@PySem.boot_len
theorem Nn:type_of% @PySem.wpAny_Call_Name_kw:=@PySem.wpAny_Call_Name_kw
theorem No:type_of% @Int.emod_nonneg:=@Int.emod_nonneg
theorem Np:type_of% @Int.emod_lt_of_pos:=@Int.emod_lt_of_pos
theorem Nq:type_of% @List.lookup_cons:=@List.lookup_cons
theorem Nr:type_of% @List.range_succ_eq_map:=@List.range_succ_eq_map
theorem Nt:type_of% @List.getLastD_eq_getLast?:=@List.getLastD_eq_getLast?
theorem Nu:type_of% @List.map_take:=@List.map_take
theorem Nv:type_of% @PySem.W.mg_of:=@PySem.W.mg_of
theorem Nw:type_of% @PyProof.Rows.boot_sorted:=@PyProof.Rows.boot_sorted
theorem Ny:type_of% @PySem.W.kia_one:=@PySem.W.kia_one
theorem Nz:type_of% @Nat.le_of_lt:=@Nat.le_of_lt
theorem NA:type_of% @PySem.wpAny_holding:=@PySem.wpAny_holding
theorem NB:type_of% @PySem.wpAny_standAt:=@PySem.wpAny_standAt
theorem NC:type_of% @PyProof.Rows.boot_list:=@PyProof.Rows.boot_list
theorem ND:type_of% @List.length_range:=@List.length_range
theorem NE:type_of% @List.length_filter_le:=@List.length_filter_le
theorem NF:type_of% @PySem.wpAny_typeNameOfWhole_keyiter:=@PySem.wpAny_typeNameOfWhole_keyiter
theorem NH:type_of% @PySem.Calls.spliced_cons:=@PySem.Calls.spliced_cons
theorem NI:type_of% @Nat.lt_of_le_of_lt:=@Nat.lt_of_le_of_lt
theorem NJ:type_of% @PySem.F.slot_dict_keyiterator_next:=@PySem.F.slot_dict_keyiterator_next
theorem NK:type_of% @List.dropLast_concat_getLast:=@List.dropLast_concat_getLast
theorem NL:type_of% @PyProof.Rows.boot_isinstance:=@PyProof.Rows.boot_isinstance
theorem NM:type_of% @Nat.lt_succ_of_lt:=@Nat.lt_succ_of_lt
theorem NN:type_of% @List.flatMap_cons:=@List.flatMap_cons
theorem NO:type_of% @List.reverse_perm:=@List.reverse_perm
theorem NP:type_of% @PyProof.Rows.callWith_type1:=@PyProof.Rows.callWith_type1
theorem NQ:type_of% @List.append_nil:=@List.append_nil
theorem NR:type_of% @List.foldl_cons:=@List.foldl_cons
theorem NS:type_of% @beq_eq_false_iff_ne:=@beq_eq_false_iff_ne
theorem NT:type_of% @List.map_congr_left:=@List.map_congr_left
theorem NU:type_of% @List.filter_sublist:=@List.filter_sublist
theorem NV:type_of% @List.mem_reverse:=@List.mem_reverse
theorem NW:type_of% @PySem.Heap.size_push:=@PySem.Heap.size_push
theorem NX:type_of% @PySem.Calls.evalArgs_plain:=@PySem.Calls.evalArgs_plain
theorem NY:type_of% @PySem.wpAny_typeNameOf_keyiter:=@PySem.wpAny_typeNameOf_keyiter
theorem NZ:type_of% @PySem.wpAny_truthy_bool:=@PySem.wpAny_truthy_bool
theorem N1:type_of% @List.pairwise_map:=@List.pairwise_map
theorem N2:type_of% @List.any_cons:=@List.any_cons
theorem N3:type_of% @Array.length_toList:=@Array.length_toList
theorem N4:type_of% @PySem.mem_of_lookup:=@PySem.mem_of_lookup
theorem N5:type_of% @List.length_reverse:=@List.length_reverse
theorem N6:type_of% @PySem.wpAny_call_entry:=@PySem.wpAny_call_entry
theorem N7:type_of% @Bool.and_eq_true:=@Bool.and_eq_true
theorem N8:type_of% @PySem.sizeLine_eq:=@PySem.sizeLine_eq
theorem N9:type_of% @PySem.Calls.callWith_builtin:=@PySem.Calls.callWith_builtin
theorem Oa:type_of% @PySem.codeAny_mono:=@PySem.codeAny_mono
theorem Ob:type_of% @PySem.wpAny_execs_nil:=@PySem.wpAny_execs_nil
theorem Oc:type_of% @PySem.wpAny_passesOwn:=@PySem.wpAny_passesOwn
theorem Od:type_of% @List.pairwise_flatten:=@List.pairwise_flatten
theorem Oe:type_of% @PySem.F.excBase_ValueError:=@PySem.F.excBase_ValueError
theorem Og:type_of% @PySem.Calls.spliced_nil:=@PySem.Calls.spliced_nil
theorem Oh:type_of% @Option.isSome_map:=@Option.isSome_map
theorem Oi:type_of% @List.pairwise_iff_getElem:=@List.pairwise_iff_getElem
theorem Oj:type_of% @List.mem_of_mem_drop:=@List.mem_of_mem_drop
theorem Ol:type_of% @List.length_tail:=@List.length_tail
theorem Om:type_of% @List.mergeSort_perm:=@List.mergeSort_perm
theorem On:type_of% @Int.toNat_of_nonneg:=@Int.toNat_of_nonneg
theorem Oo:type_of% @List.flatMap_append:=@List.flatMap_append
theorem Oq:type_of% @beq_iff_eq:=@beq_iff_eq
theorem Os:type_of% @PySem.W.callWith_K:=@PySem.W.callWith_K
theorem Ot:type_of% @PySem.tupleKind_room_in1:=@PySem.tupleKind_room_in1
theorem Ou:type_of% @PySem.wpAny_ite_split:=@PySem.wpAny_ite_split
theorem Ov:type_of% @Bool.false_eq_true:=@Bool.false_eq_true
theorem Ow:type_of% @PySem.Obj.data_mapFields:=@PySem.Obj.data_mapFields
theorem Ox:type_of% @PySem.wpAny_field:=@PySem.wpAny_field
theorem Oy:type_of% @PySem.wpAny_loadPart_at:=@PySem.wpAny_loadPart_at
theorem Oz:type_of% @PySem.wpAny_setField:=@PySem.wpAny_setField
theorem OA:type_of% @if_false:=@if_false
namespace L2
open PySem PySem.Spec PyProof.Rows
abbrev cf:=Sum Int Str
def xQ:cf->Value->Bool
 | .inl k,v=>Value.isInt k v
 | .inr x,v=>Value.isStrOf x v
def Le (w:World):cf->Int
 | .inl k=>hashInt k
 | .inr x=>hashStr w x
theorem bU:∀ {k:cf}{v:Value},xQ k v=true->(∃ i t,k=Sum.inl i/\v=Value.int i t)\/(∃ x t,k=Sum.inr x/\v=Value.str x t)
 | .inl i,v,h=>by
  obtain⟨t,e⟩:=Value.isInt_shape (k:=i) (v:=v) h;exact .inl ⟨i,t,rfl,e⟩
 | .inr x,v,h=>by
  obtain⟨t,e⟩:=Value.isStrOf_shape (x:=x) (v:=v) h;exact .inr ⟨x,t,rfl,e⟩
theorem DR (i:Int)(t:Tok):xQ (.inl i) (.int i t)=true:=by simp[xQ,Value.isInt]
theorem DS (x:Str)(t:Tok):xQ (.inr x) (.str x t)=true:=by simp[xQ,Value.isStrOf]
theorem IM (a b:Int):decide ((Sum.inl a:cf)=Sum.inl b)=(a == b):=by
 by_cases e:a=b
 ·subst e;simp
 ·have h:¬ (Sum.inl a:cf)=Sum.inl b:=fun q=>e (Sum.inl.inj q)
  rw[Mx h];exact (NS.mpr e).symm
theorem IQ (a b:Str):decide ((Sum.inr a:cf)=Sum.inr b)=decide (a=b):=by
 by_cases e:a=b
 ·subst e;simp
 ·have h:¬ (Sum.inr a:cf)=Sum.inr b:=fun q=>e (Sum.inr.inj q)
  rw[Mx h,Mx e]
theorem IN (a:Int)(b:Str):decide ((Sum.inl a:cf)=Sum.inr b)=false:=Mx (fun q=>nomatch q)
theorem IP (a:Str)(b:Int):decide ((Sum.inr a:cf)=Sum.inl b)=false:=Mx (fun q=>nomatch q)
def bz (prog:Program)(w:World):PySem.KeyKind prog w cf where
 is:=xQ
 hash:=Le w
 inj:=fun v a b ha hb=>by
  rcases bU ha with ⟨i,t,rfl,rfl⟩ | ⟨x,t,rfl,rfl⟩
  ·rcases bU hb with ⟨j,u,rfl,e⟩ | ⟨y,u,rfl,e⟩
   ·injection e with e1 _;rw[e1]
   ·exact nomatch e
  ·rcases bU hb with ⟨j,u,rfl,e⟩ | ⟨y,u,rfl,e⟩
   ·exact nomatch e
   ·injection e with e1 _;rw[e1]
 byValue:=fun k v h=>by
  rcases bU h with ⟨i,t,rfl,rfl⟩ | ⟨x,t,rfl,rfl⟩<;>rfl
 pyHash:=fun hv h=>by
  rcases bU hv with ⟨i,t,rfl,rfl⟩ | ⟨x,t,rfl,rfl⟩
  ·exact wpAny_pyHash_int h
  ·exact wpAny_pyHash_str h
 eqBool:=fun hu hv h=>by
  rcases bU hu with ⟨i,t,rfl,rfl⟩ | ⟨x,t,rfl,rfl⟩
  ·rcases bU hv with ⟨j,u,rfl,rfl⟩ | ⟨y,u,rfl,rfl⟩
   ·rw[IM]at h;exact wpAny_eqBool_int h
   ·rw[IN]at h;exact SeqAt.EqAt.int_str i t y u _ _ _ _ h
  ·rcases bU hv with ⟨j,u,rfl,rfl⟩ | ⟨y,u,rfl,rfl⟩
   ·rw[IP]at h;exact SeqAt.EqAt.str_int x t j u _ _ _ _ h
   ·rw[IQ]at h;exact wpAny_eqBool_str h
 «strs»:=fun k x t v h=>by
  rcases bU h with ⟨i,u,rfl,e⟩ | ⟨y,u,rfl,e⟩
  ·exact nomatch e
  ·injection e with e1 _
   subst e1;cases v<;>rfl
theorem Aj (prog:Program)(w:World)(i:Int)(t:Tok):(bz prog w).is (.inl i) (.int i t)=true:=DR i t
theorem Ak (prog:Program)(w:World)(x:Str)(t:Tok):(bz prog w).is (.inr x) (.str x t)=true:=DS x t
inductive V where
 | non | bl (b:Bool) | int (i:Int) | str (x:Str) | byt (b:Array UInt8) | flt (b:UInt64) | ref (a:Addr) | ty (n:String)
 deriving DecidableEq
def bu:V->Value->Prop
 | .non,u=>u=Value.none
 | .bl b,u=>u=Value.bool b
 | .int i,u=>∃ t,u=Value.int i t
 | .str x,u=>∃ t,u=Value.str x t
 | .byt b,u=>∃ t,u=Value.bytes b t
 | .flt b,u=>∃ t,u=Value.float b t
 | .ref a,u=>u=Value.ref a
 | .ty n,u=>u=Value.type n
abbrev bw:List V->List Value->Prop:=Paired bu
theorem bw.length {xs:List V}{us:List Value}(r:bw xs us):xs.length=us.length:=Mo r
theorem bw.get:∀ {xs:List V}{us:List Value}{i:Nat}{x:V},bw xs us->xs[i]? = some x->∃ u,us[i]? = some u/\bu x u
 | _,_,_,_,.nil,e=>by simp at e
 | _,_,0,_,.cons r _,e=>by simp at e;subst e;exact⟨_,rfl,r⟩
 | _,_,i+1,x,.cons _ t,e=>by
  obtain⟨u,h1,h2⟩:=bw.get (i:=i) (x:=x) t (by simpa using e);exact⟨u,by simpa using h1,h2⟩
theorem bw.append:∀ {xs ys:List V}{us ws:List Value},bw xs us->bw ys ws->bw (xs++ys) (us++ws)
 | _,_,_,_,.nil,s=>s
 | _,_,_,_,.cons r t,s=>.cons r (bw.append t s)
theorem bw.take:∀ {xs:List V}{us:List Value}(n:Nat),bw xs us->bw (xs.take n) (us.take n)
 | _,_,0,_=>.nil
 | _,_,_+1,.nil=>.nil
 | _,_,n+1,.cons r t=>.cons r (bw.take n t)
theorem bw.drop:∀ {xs:List V}{us:List Value}(n:Nat),bw xs us->bw (xs.drop n) (us.drop n)
 | _,_,0,r=>r
 | _,_,_+1,.nil=>.nil
 | _,_,n+1,.cons _ t=>bw.drop n t
def jx:Option V->Option Value->Prop
 | some v,some u=>bu v u
 | none,none=>True
 | _,_=>False
def KV {κ:Type}:List (κ×V)->List (κ×Value)->Prop:=Paired fun (p:κ×V)(q:κ×Value)=>p.1=q.1/\bu p.2 q.2
def kV:cf->V
 | .inl i=>.int i
 | .inr x=>.str x
inductive HO where
 | lst (xs:List V)
 | tup (xs:List V)
 | dK (kvs:List (cf×V)) | dT (kvs:List (List cf×V))
 | set (S:Int->Bool) (n:Nat)
 | ins (C dx:Addr) (fs:List (Str×V))
 | own (x:Addr)
 | xd (fs:List (Str×V))
 | met (f x:Addr)
 | rng (lo hi:Int)
 | frz (o:Obj) (u:HO)
 | tbl (ps:Array Value)
 | ext (φ:Heap->Prop)
abbrev Hp:=Addr->Option HO
def upd (H:Hp)(a:Addr)(o:HO):Hp:=fun b=>if b=a then some o else H b
theorem ac {H:Hp}{a:Addr}{o:HO}:upd H a o a=some o:=by unfold upd;rw[Mi rfl]
theorem af {H:Hp}{a b:Addr}{o:HO}(h:b≠a):upd H a o b=H b:=by unfold upd;rw[Mg h]
theorem fR {H:Hp}{a:Addr}{o u:HO}:upd (upd H a o) a u=upd H a u:=by
 funext b;unfold upd;split<;>rfl
theorem bE {H:Hp}{a b:Addr}{o u:HO}(h:H a=some o)(h':H b=some u)(d:o≠u):a≠b:=by
 intro e;subst e;rw[h]at h';exact d (Mu h')
theorem aj {H:Hp}{a b:Addr}{o:HO}(h:H a=some o)(h':H b=none):a≠b:=by
 intro e;subst e;rw[h]at h';cases h'
section
variable (P:Program)(w:World)
def bD (H:Hp)(h:Heap)(a:Addr):HO->Prop
 | .lst xs=>xs.length<=sizeLine/\∃ (its:List Value)(n:Nat),bw xs its/\h.get? a=some { cls:=.type "list",data:=.seq its.toArray n }
 | .tup xs=>xs.length<=sizeLine/\∃ its:List Value,bw xs its/\IsTup h a its.toArray
 | .dK kvs=>kvs.length<=sizeLine/\(a == sysModules)=false/\∃ vs,KV kvs vs/\h.DictOf (bz P w) a vs
 | .dT kvs=>kvs.length<=sizeLine/\(a == sysModules)=false/\∃ xs:List (List cf×Addr×Value),
   Paired (fun (p:List cf×V)(q:List cf×Addr×Value)=>p.1=q.1/\H q.2.1=some (.tup (p.1.map kV))/\bu p.2 q.2.2) kvs xs /\
   ∃ o es ep,h.get? a=some o/\o.ExactDict/\o.data=.dict es ep/\es.toList=xs.map (entryOfKey (tupleKind (bz P w)))/\(xs.map (·.1)).Nodup
 | .set S n=>h.SetOf (intKind P w) a S n
 | .ins C dx fs=>H dx=some (.own a)/\fs.length<=1000/\dx≠a/\h.get? a=some (PySem.W.instObj C dx) /\
   ∃ mA,h.Ns1 dx mA/\(∀ f,jx (fs.lookup f) (mA f))/\PySem.Within mA (fs.map (·.1))
 | .own _=>∃ o,h.get? a=some o
 | .xd fs=>∃ mA,h.Ns1 a mA/\∀ f,jx (fs.lookup f) (mA f)
 | .rng lo hi=>∃ t u v,h.get? a=some { cls:=.type "range",data:=.fields #[.int lo t,.int hi u,.int 1 v] }
 | .frz o u=>h.get? a=some o/\bD H h a u
 | .tbl ps=>h.get? a=some { cls:=.none,data:=.fields ps }
 | .met f x=>h.get? a=some (PySem.W.methodObj (.ref f) (.ref x))
 | .ext φ=>φ h/\(∃ o,h.get? a=some o)/\∀ h1 h2:Heap,φ h1->(∀ o,h1.get? a=some o->h2.get? a=some o)->φ h2
def kS (H:Hp)(h:Heap):Prop:=∀ a o,H a=some o->bD P w H h a o
end
section
variable {P:Program}{w:World}{H H':Hp}{h h':Heap}{a:Addr}{o:HO}
theorem bD.lt (x:bD P w H h a o):a<h.objs.size:=by
 cases o with
 | lst xs=>obtain⟨_,_,_,_,e⟩:=x;exact Mw e
 | tup xs=>obtain⟨_,_,_,p⟩:=x;exact p.lt
 | dK kvs=>obtain⟨_,_,_,_,o,_,_,e,_⟩:=x;exact Mw e
 | dT kvs=>obtain⟨_,_,_,_,o,_,_,e,_⟩:=x;exact Mw e
 | set S n=>obtain⟨o,_,_,_,e,_⟩:=x;exact Mw e
 | ins C dx fs=>obtain⟨_,_,_,e,_⟩:=x;exact Mw e
 | own y=>obtain⟨_,e⟩:=x;exact Mw e
 | xd fs=>obtain⟨_,⟨_,_,_,e,_⟩,_⟩:=x;exact Mw e
 | rng lo hi=>obtain⟨_,_,_,e⟩:=x;exact Mw e
 | frz ob u=>obtain⟨e,_⟩:=x;exact Mw e
 | tbl ps=>exact Mw (show h.get? a=some _ from x)
 | met f y=>exact Mw (show h.get? a=some _ from x)
 | ext φ=>obtain⟨_,⟨_,e⟩,_⟩:=x;exact Mw e
theorem Paired.mapP {α β:Type}{F G:α->β->Prop}:∀ {l₁:List α}{l₂:List β},Paired F l₁ l₂->(∀ a b,F a b->G a b)->Paired G l₁ l₂
 | _,_,.nil,_=>.nil
 | _,_,.cons r t,f=>.cons (f _ _ r) (Paired.mapP t f)
theorem bD.stay (x:bD P w H h a o)(k:∀ b u,(b=a\/H b=some (.own a))->h.get? b=some u->h'.get? b=some u)
  (ho:∀ b,H b=some (.own a)->H' b=some (.own a)) (ht:∀ b xs,H b=some (.tup xs)->H' b=some (.tup xs)):bD P w H' h' a o:=by
 induction o with
 | lst xs=>obtain⟨z,its,n,r,e⟩:=x;exact⟨z,its,n,r,k _ _ (.inl rfl) e⟩
 | tup xs=>obtain⟨z,its,r,ob,e,c⟩:=x;exact⟨z,its,r,ob,k _ _ (.inl rfl) e,c⟩
 | dK kvs=>obtain⟨z,y,vs,r,ob,es,ep,e,c⟩:=x;exact⟨z,y,vs,r,ob,es,ep,k _ _ (.inl rfl) e,c⟩
 | dT kvs =>
  obtain⟨z,y,xs,r,ob,es,ep,e,c⟩:=x;exact⟨z,y,xs,Paired.mapP r fun p q z=>⟨z.1,ht _ _ z.2.1,z.2.2⟩,ob,es,ep,k _ _ (.inl rfl) e,c⟩
 | set S n=>obtain⟨ob,es,ep,t,e,c⟩:=x;exact⟨ob,es,ep,t,k _ _ (.inl rfl) e,c⟩
 | ins C dx fs =>
  obtain⟨d,z,ne,e,mA,⟨od,es,ep,e2,c⟩,r⟩:=x;exact⟨ho _ d,z,ne,k _ _ (.inl rfl) e,mA,⟨od,es,ep,k _ _ (.inr d) e2,c⟩,r⟩
 | own y=>obtain⟨ob,e⟩:=x;exact⟨ob,k _ _ (.inl rfl) e⟩
 | xd fs=>obtain⟨mA,⟨od,es,ep,e,c⟩,r⟩:=x;exact⟨mA,⟨od,es,ep,k _ _ (.inl rfl) e,c⟩,r⟩
 | rng lo hi=>obtain⟨t,u,v,e⟩:=x;exact⟨t,u,v,k _ _ (.inl rfl) e⟩
 | frz ob u ih=>obtain⟨e,q⟩:=x;exact⟨k _ _ (.inl rfl) e,ih q⟩
 | tbl ps =>
  have e:h.get? a=some { cls:=.none,data:=.fields ps }:=x
  show h'.get? a=some { cls:=.none,data:=.fields ps }
  exact k a _ (.inl rfl) e
 | met f y =>
  have e:h.get? a=some (PySem.W.methodObj (.ref f) (.ref y)):=x
  show h'.get? a=some (PySem.W.methodObj (.ref f) (.ref y))
  exact k a _ (.inl rfl) e
 | ext φ=>obtain⟨p,⟨o,e⟩,st⟩:=x;exact⟨st _ _ p fun o q=>k _ _ (.inl rfl) q,⟨o,k _ _ (.inl rfl) e⟩,st⟩
theorem kS.lt (x:kS P w H h)(e:H a=some o):a<h.objs.size:=(x a o e).lt
theorem kS.fresh (x:kS P w H h)(e:h.objs.size<=a):H a=none:=by
 cases q:H a with
 | none=>rfl
 | some u=>exact absurd (MR (x.lt q) e) (Nat.lt_irrefl _)
theorem kS.kept (x:kS P w H h)(k:∀ b u,h.get? b=some u->h'.get? b=some u):kS P w H h':=fun a o e =>
 (x a o e).stay (fun b u _ q=>k b u q) (fun _ q=>q) fun _ _ q=>q
theorem kS.laid (x:kS P w H h)(k:∀ b u,h.get? b=some u->h'.get? b=some u)(hp:h.objs.size<=a)(new:bD P w (upd H a o) h' a o):kS P w (upd H a o) h':=fun b u e=>by
 have hn:=x.fresh hp
 by_cases hb:b=a
 ·subst hb;rw[ac]at e;cases e;exact new
 ·rw[af hb]at e
  exact (x b u e).stay (fun c v _ q=>k c v q) (fun c q=>by rw[af (aj q hn)];exact q) fun c xs q=>by rw[af (aj q hn)];exact q
end
def Rd (H:Hp)(a:Addr)(u:HO):Prop:=H a=some u\/∃ o,H a=some (.frz o u)
theorem Rd.of {H:Hp}{a:Addr}{u:HO}(h:H a=some u):Rd H a u:=.inl h
theorem Rd.ok {P:Program}{w:World}{H:Hp}{h:Heap}{a:Addr}{u:HO}(r:Rd H a u)(x:kS P w H h):bD P w H h a u:=by
 rcases r with r | ⟨o,r⟩
 ·exact x a u r
 ·obtain⟨_,q⟩:=x a _ r
  exact q
def JO:Option HO->Prop
 | some (.lst _)=>True
 | some (.dK _)=>True
 | some (.dT _)=>True
 | some (.set _ _)=>True
 | some (.ins _ _ _)=>True
 | some (.ext _)=>True
 | _=>False
section
variable {P:Program}{w:World}{H:Hp}{h h':Heap}{x e:Addr}{o':HO}
theorem kS.write (ok:kS P w H h)(mu:JO (H x))(he:e=x\/H e=some (.own x))(k:∀ b u,b≠e->h.get? b=some u->h'.get? b=some u)(heo:∃ u,h'.get? e=some u)
  (new:bD P w (upd H x o') h' x o'):kS P w (upd H x o') h':=fun b u q=>by
 have nown:∀ c y,H c=some (.own y)->c≠x:=fun c y r z=>by subst z;rw[r]at mu;exact mu
 have ntup:∀ c xs,H c=some (.tup xs)->c≠x:=fun c xs r z=>by subst z;rw[r]at mu;exact mu
 by_cases hb:b=x
 ·subst hb;rw[ac]at q;cases q;exact new
 ·rw[af hb]at q
  by_cases hbe:b=e
  ·have q':H b=some (.own x):=by
    rcases he with z | z
    ·exact absurd (hbe.trans z) hb
    ·rw[hbe];exact z
   rw[q]at q';cases q';obtain⟨v,hv⟩:=heo;exact⟨v,by rw[hbe];exact hv⟩
  ·refine (ok b u q).stay (fun c v hc r=>k c v ?_ r) (fun c r=>by rw[af (nown c b r)];exact r) fun c xs r=>by rw[af (ntup c xs r)];exact r
   rcases hc with rfl | hc
   ·exact hbe
   ·rintro rfl
    rcases he with z | z
    ·exact nown c b hc z
    ·rw[hc]at z;cases z;exact hb rfl
end
structure Un (fs ex:List Addr)(H H':Hp)(h h':Heap):Prop where
 keep:∀ b o,h.get? b=some o->H b=none->b∉fs->b∉ex->h'.get? b=some o
 slot:∀ b o,h.get? b=some o->H b=none->b∈fs->b∉ex->∃ sl,h'.get? b=some { o with slots:=sl }
 free:∀ b o,h.get? b=some o->H b=none->b∉ex->H' b=none
 there:∀ b o,h.get? b=some o->b∉ex->∃ o',h'.get? b=some o'
 tups:∀ b xs,H b=some (.tup xs)->H' b=some (.tup xs)
 frzs:∀ b o u,H b=some (.frz o u)->H' b=some (.frz o u)
 tbls:∀ b ps,H b=some (.tbl ps)->∃ more,H' b=some (.tbl (ps++more))
section
variable {fs fs' ex ex':List Addr}{H H1 H2:Hp}{h h1 h2 h':Heap}{a x e:Addr}{o:HO}
theorem Un.any (u:Un fs ex H H1 h h1){b:Addr}{ob:Obj}(q:h.get? b=some ob)(n:H b=none)(hx:b∉ex):∃ sl,h1.get? b=some { ob with slots:=sl }:=by
 by_cases hb:b∈fs
 ·exact u.slot b ob q n hb hx
 ·exact⟨ob.slots,u.keep b ob q n hb hx⟩
theorem Un.kept (k:∀ b u,h.get? b=some u->h'.get? b=some u):Un fs ex H H h h' :=
 ⟨fun b ob q _ _ _=>k b ob q,fun b ob q _ _ _=>⟨ob.slots,k b ob q⟩,fun _ _ _ n _=>n,fun b ob q _=>⟨ob,k b ob q⟩,fun _ _ q=>q,fun _ _ _ q=>q,fun _ ps q=>⟨#[],by rw[q];simp⟩⟩
theorem Un.refl:Un fs ex H H h h:=Un.kept fun _ _ q=>q
theorem Un.laid (k:∀ b u,h.get? b=some u->h'.get? b=some u)(hp:h.objs.size<=a)(hn:H a=none):Un fs ex H (upd H a o) h h' where
 keep:=fun b u q _ _ _=>k b u q
 slot:=fun b u q _ _ _=>⟨u.slots,k b u q⟩
 free:=fun b u q n _=>by rw[af (MB (MR (Mw q) hp))];exact n
 there:=fun b u q _=>⟨u,k b u q⟩
 tups:=fun b xs q=>by rw[af (aj q hn)];exact q
 frzs:=fun b u xs q=>by rw[af (aj q hn)];exact q
 tbls:=fun b ps q=>⟨#[],by rw[af (aj q hn),q];simp⟩
theorem Un.write (mu:JO (H x))(he:e=x\/H e=some (.own x))(k:∀ b u,b≠e->h.get? b=some u->h'.get? b=some u)(heo:∃ u,h'.get? e=some u):Un fs ex H (upd H x o) h h':=by
 have hx:∀ b,H b=none->b≠x:=fun b n z=>by subst z;rw[n]at mu;exact mu
 have hb:∀ b,H b=none->b≠e:=fun b n z=>by
  subst z;rcases he with r | r
  ·exact hx b n r
  ·rw[n]at r;cases r
 have hm:∀ b u,H b=some u->¬ JO (some u)->b≠x:=fun b u q nm z=>by subst z;rw[q]at mu;exact nm mu
 refine⟨fun b u q n _ _=>k b u (hb b n) q,fun b u q n _ _=>⟨u.slots,k b u (hb b n) q⟩,fun b u q n _=>by rw[af (hx b n)];exact n,fun b u q _=>?_,
  fun b xs q=>by rw[af (hm b _ q fun z=>z)];exact q,fun b u xs q=>by rw[af (hm b _ q fun z=>z)];exact q,fun b ps q=>⟨#[],by rw[af (hm b _ q fun z=>z),q];simp⟩⟩
 by_cases hbe:b=e
 ·subst hbe;exact heo
 ·exact⟨u,k b u hbe q⟩
end
def KH (h:Heap)(H:Hp):List Addr:=(List.range h.objs.size).filter fun a=>(H a).isSome
def yq (h:Heap)(H:Hp):Heap:=PySem.W.hideAll h (KH h H)
theorem DM (h:Heap)(H:Hp):(yq h H).objs.size=h.objs.size:=PySem.W.hideAll_size _ _
theorem Fj {h:Heap}{H:Hp}{b:Addr}{o:Obj}(e:h.get? b=some o)(n:H b=none):(yq h H).get? b=some o :=
 PySem.W.hideAll_get _ e fun hm=>by
  have q:(H b).isSome=true:=(Nh.mp hm).2;rw[n]at q;simp at q
theorem Hi {h:Heap}{H:Hp}{b:Addr}{o:Obj}(e:(yq h H).get? b=some o):h.get? b=some o/\H b=none:=by
 have e':h.get? b=some o:=PySem.W.of_hideAll (KH h H) e;refine⟨e',?_⟩
 cases q:H b with
 | none=>rfl
 | some x =>
  have hm:b∈KH h H:=Nh.mpr ⟨Nd.mpr (Mw e'),by simp[q]⟩;have z:(yq h H).get? b=none:=PySem.W.hideAll_none (KH h H) hm;rw[z]at e;cases e
structure Mod (K:PySem.W.Frag)(mg:Str->Option Value)(base:Heap):Prop where
 kin:K.In base
 glob:base.Ns mainGlobals mg
 blt:∃ mb,base.Ns builtinsNs mb/\∀ x:Str,x≠"__name__"->mb x=bootBuiltins x
 nolimit:base.NoLimit
structure Cx where
 prog:Program
 w:World
 K:PySem.W.Frag
 mg:Str->Option Value
 base:Heap
 A:Around
 N:List Str
 s₀:Shared
 H₀:Hp
 env:Env
 outer:List Env
 stack:List Env
 ex:List Addr
 fn:Str->Bool
 calm:Bool
 pn:List (Addr×Obj)
 xe:Value->Shared->Prop
def jU (l:List Env):List Addr:=l.filterMap (·.frame)
abbrev Cx.fs (X:Cx):List Addr:=jU X.outer
def K0 (sc:Scope)(x:Str):Prop:=sc.names.lookup x=some .local\/sc.names.lookup x=some .cell\/sc.names.lookup x=some .free
def HN (sc:Scope)(x:Str):Prop:=sc.names.lookup x=some .local\/sc.names.lookup x=some .cell
def KQ (env:Env)(h:Heap)(m:Str->Option Value)(x:Str)(u:Value):Prop :=
 (env.kindOf x=some .local/\m x=some u)\/((env.kindOf x=some .cell\/env.kindOf x=some .free)/\∃ c,env.cells.lookup x=some c/\h.IsCell c (some u))
structure Cx.Ok (X:Cx):Prop where
 mod:Mod X.K X.mg X.base
 kind:X.env.scope.kind=.function
 glob:X.env.globals=mainGlobals
 blt:X.env.builtins=builtinsNs
 above:X.s₀.heap.objs.size<=X.env.locals
 inj:∀ x y c,X.env.cells.lookup x=some c->X.env.cells.lookup y=some c->x=y
 has:∀ x,(X.env.kindOf x=some .cell\/X.env.kindOf x=some .free)->∃ c,X.env.cells.lookup x=some c
 cab:∀ x c,X.fn x=true->X.env.cells.lookup x=some c->X.s₀.heap.objs.size<=c
 hd:X.calm=true->X.A.handled=none
 frames:X.A.frames=some X.stack
 stk:X.stack=X.outer\/(X.stack=X.env::X.outer/\X.env.frame=some X.env.locals)
 exf:∀ b∈X.ex,b≠X.env.locals/\∀ x c,X.env.cells.lookup x=some c->c≠b
 bs:∀ b o,X.base.get? b=some o->X.s₀.heap.get? b=some o/\X.H₀ b=none
 bsz:X.base.objs.size<=X.s₀.heap.objs.size
 noex:∀ b o,X.base.get? b=some o->b∉X.ex
 exfs:∀ b∈X.ex,b∉X.fs
 funs:X.s₀.heap.FunFrames X.base X.outer
 frf:∀ b∈X.fs,X.H₀ b=none
structure aK (X:Cx)(pins:List (Addr×Obj))(σ:List (Option V))(H:Hp)(s:Shared):Prop where
 ok:X.Ok
 os:s.os=X.s₀.os
 bare:AllBare s.gens
 base:Un X.fs X.ex X.H₀ H X.s₀.heap s.heap
 loc:∃ m,s.heap.Ns X.env.locals m/\∀ (i:Nat)(x:Str)(v:V),X.N[i]? = some x->σ[i]? = some (some v)->K0 X.env.scope x->∃ u,bu v u/\KQ X.env s.heap m x u
 cell:∀ x c,X.env.cells.lookup x=some c->∃ v,s.heap.IsCell c v
 free:H X.env.locals=none
 freeC:∀ x c,X.env.cells.lookup x=some c->H c=none
 pin:∀ p∈X.pn++pins,s.heap.get? p.1=some p.2/\H p.1=none/\p.1≠X.env.locals/\p.1∉X.fs/\∀ v,p.2.data≠.cell v
 hok:kS X.prog X.w H s.heap
 len:σ.length=X.N.length
section
variable {X:Cx}{pins:List (Addr×Obj)}{σ:List (Option V)}{H H':Hp}{s:Shared}{h':Heap}
theorem Cx.Ok.nofr (ok:X.Ok){b:Addr}{o:Obj}(e:X.base.get? b=some o):b∉X.fs:=fun hb=>by
 have:=(ok.funs.mem hb).1;rw[e]at this;cases this
theorem aK.bs (I:aK X pins σ H s):∀ b o,X.base.get? b=some o->s.heap.get? b=some o/\H b=none:=fun b o e =>
 ⟨I.base.keep b o (I.ok.bs b o e).1 (I.ok.bs b o e).2 (I.ok.nofr e) (I.ok.noex b o e),I.base.free b o (I.ok.bs b o e).1 (I.ok.bs b o e).2 (I.ok.noex b o e)⟩
theorem aK.bk (I:aK X pins σ H s):∀ b o,X.base.get? b=some o->s.heap.get? b=some o:=fun b o e=>(I.bs b o e).1
theorem aK.mod (I:aK X pins σ H s):Mod X.K X.mg X.base:=I.ok.mod
theorem aK.kIn (I:aK X pins σ H s):X.K.In s.heap:=I.ok.mod.kin.keeps I.bk
theorem aK.lt (I:aK X pins σ H s):X.env.locals<s.heap.objs.size:=let ⟨_,hn,_⟩:=I.loc;hn.lt
theorem aK.sz (I:aK X pins σ H s):X.s₀.heap.objs.size<=s.heap.objs.size:=MZ I.ok.above (Nz I.lt)
theorem aK.nofs (I:aK X pins σ H s){a:Addr}(h:s.heap.objs.size<=a):a∉X.fs:=fun hb=>by
 obtain⟨_,o,ho,_⟩:=I.ok.funs.mem hb;exact absurd (MR (Mw ho) (MZ I.sz h)) (Nat.lt_irrefl _)
theorem aK.cne (I:aK X pins σ H s):∀ x c,X.env.cells.lookup x=some c->c≠X.env.locals:=fun x c e z=>by
 obtain⟨v,o,ho,hd⟩:=I.cell x c e;obtain⟨m,⟨o',es,ep,ho',hd',_⟩,_⟩:=I.loc;rw[z,ho']at ho;cases ho;rw[hd']at hd;cases hd
theorem aK.funs (I:aK X pins σ H s):s.heap.FunFrames X.base X.outer:=by
 have all:∀ (l:List Env),(∀ b∈jU l,b∈X.fs)->X.s₀.heap.FunFrames X.base l->s.heap.FunFrames X.base l:=by
  intro l
  induction l with
  | nil=>intro _ _;trivial
  | cons env r ih =>
   intro hs hl;obtain⟨hk,⟨L,o,hf,hn,ho,hd⟩,hr⟩:=hl;have hL:L∈X.fs:=hs L (by unfold jU;rw[List.filterMap_cons,hf];exact Mm);obtain⟨sl,e⟩:=I.base.slot L o ho (I.ok.frf L hL) hL fun z=>I.ok.exfs L z hL;exact⟨hk,⟨L,_,hf,hn,e,hd⟩,ih (fun b hb=>hs b (by unfold jU;rw[List.filterMap_cons,hf];exact Mh _ hb)) hr⟩
 exact all X.outer (fun _ hb=>hb) I.ok.funs
theorem aK.stack (I:aK X pins σ H s):s.heap.FunFrames X.base X.stack:=by
 rcases I.ok.stk with e | ⟨e,hf⟩
 ·rw[e];exact I.funs
 ·rw[e]
  obtain⟨m,hn,_⟩:=I.loc;refine .cons (by rw[I.ok.kind];decide) hf hn ?_ I.funs;exact Heap.get?_none_of_le (MZ I.ok.bsz I.ok.above)
theorem aK.stkSub (I:aK X pins σ H s):∀ b∈jU X.stack,b∈X.env.locals::X.fs:=fun b hb=>by
 rcases I.ok.stk with e | ⟨e,hf⟩
 ·rw[e]at hb;exact Mh _ hb
 ·rw[e]at hb
  unfold jU at hb;rw[List.filterMap_cons,hf]at hb;exact hb
theorem aK.stkFree (I:aK X pins σ H s):∀ b∈jU X.stack,H b=none:=fun b hb=>by
 rcases Ms.mp (I.stkSub b hb) with e | hb
 ·rw[e];exact I.free
 ·obtain⟨_,o,ho,_⟩:=I.ok.funs.mem hb
  exact I.base.free b o ho (I.ok.frf b hb) fun z=>I.ok.exfs b z hb
theorem aK.step {g':Array GenState}{t':Nat}{d':Drawn}{ch:List Addr}(I:aK X pins σ H s)
  (hch:∀ b∈ch,(b∈X.ex\/X.s₀.heap.objs.size<=b)/\b≠X.env.locals/\(∀ x c,X.env.cells.lookup x=some c->c≠b)/\∀ p∈X.pn++pins,p.1≠b)
  (keep:∀ b o,b≠X.env.locals->b∉X.fs->b∉ch->s.heap.get? b=some o->H b=none->h'.get? b=some o)
  (slot:∀ b o,b≠X.env.locals->b∈X.fs->b∉ch->s.heap.get? b=some o->H b=none->∃ sl,h'.get? b=some { o with slots:=sl }) (free:∀ b o,b∉ch->s.heap.get? b=some o->H b=none->H' b=none)
  (there:∀ b o,b∉ch->s.heap.get? b=some o->∃ o',h'.get? b=some o')
  (tups:∀ b xs,H b=some (.tup xs)->H' b=some (.tup xs)) (frzs:∀ b o u,H b=some (.frz o u)->H' b=some (.frz o u)) (tbls:∀ b ps,H b=some (.tbl ps)->∃ more,H' b=some (.tbl (ps++more)))
  (ns:∀ m,s.heap.Ns X.env.locals m->h'.Ns X.env.locals m) (hok:kS X.prog X.w H' h') (hg:AllBare g') :
  aK X pins σ H' { s with heap:=h',gens:=g',drawn:=d',toks:=t' }:=by
 have neL:∀ b o,X.s₀.heap.get? b=some o->b≠X.env.locals:=fun b o e=>MB (MR (Mw e) I.ok.above)
 have neC:∀ b o,X.s₀.heap.get? b=some o->b∉X.ex->b∉ch:=fun b o e hx hb=>by
  rcases (hch b hb).1 with z | z
  ·exact hx z
  ·exact absurd (MR (Mw e) z) (Nat.lt_irrefl _)
 have cellK:∀ x c,X.env.cells.lookup x=some c->∀ v,s.heap.IsCell c v->h'.IsCell c v:=fun x c e v ⟨o,ho,hd⟩=>by
  have nch:c∉ch:=fun z=>(hch c z).2.2.1 x c e rfl
  by_cases hc:c∈X.fs
  ·obtain⟨sl,q⟩:=slot c o (I.cne x c e) hc nch ho (I.freeC x c e)
   exact⟨_,q,hd⟩
  ·exact⟨o,keep c o (I.cne x c e) hc nch ho (I.freeC x c e),hd⟩
 refine⟨I.ok,I.os,hg,⟨fun b o e n hb hx=>?_,fun b o e n hb hx=>?_,fun b o e n hx=>?_,fun b o e hx=>?_,fun b xs e=>tups b xs (I.base.tups b xs e),fun b o xs e=>frzs b o xs (I.base.frzs b o xs e),fun b ps e=>?_⟩,?_,fun x c e=>?_,?_,fun x c e=>?_,fun p hp=>?_,hok,I.len⟩
 ·exact keep b o (neL b o e) hb (neC b o e hx) (I.base.keep b o e n hb hx) (I.base.free b o e n hx)
 ·obtain⟨sl,e1⟩:=I.base.slot b o e n hb hx
  obtain⟨sl',e2⟩:=slot b _ (neL b o e) hb (neC b o e hx) e1 (I.base.free b o e n hx);exact⟨sl',e2⟩
 ·obtain⟨o',e1⟩:=I.base.there b o e hx
  exact free b o' (neC b o e hx) e1 (I.base.free b o e n hx)
 ·obtain⟨o',e1⟩:=I.base.there b o e hx
  exact there b o' (neC b o e hx) e1
 ·obtain⟨m1,e1⟩:=I.base.tbls b ps e
  obtain⟨m2,e2⟩:=tbls b _ e1;exact⟨m1++m2,by rw[e2,Array.append_assoc]⟩
 ·obtain⟨m,hn,hl⟩:=I.loc
  refine⟨m,ns m hn,fun i x v e1 e2 e3=>?_⟩;obtain⟨u,r,l⟩:=hl i x v e1 e2 e3;refine⟨u,r,?_⟩;rcases l with l | ⟨k,c,e,z⟩
  ·exact .inl l
  ·exact .inr ⟨k,c,e,cellK x c e _ z⟩
 ·obtain⟨v,z⟩:=I.cell x c e
  exact⟨v,cellK x c e v z⟩
 ·obtain⟨m,⟨o,_,_,ho,_⟩,_⟩:=I.loc
  exact free _ o (fun z=>(hch _ z).2.1 rfl) ho I.free
 ·obtain⟨v,o,ho,hd⟩:=I.cell x c e
  exact free c o (fun z=>(hch c z).2.2.1 x c e rfl) ho (I.freeC x c e)
 ·obtain⟨e,n,ne,nf,d⟩:=I.pin p hp
  have nch:p.1∉ch:=fun z=>(hch p.1 z).2.2.2 p hp rfl;exact⟨keep p.1 p.2 ne nf nch e n,free p.1 p.2 nch e n,ne,nf,d⟩
theorem aK.un {t':Nat}(I:aK X pins σ H s)(u:Un X.fs [] H H' s.heap h')(hok:kS X.prog X.w H' h'):aK X pins σ H' { s with heap:=h',toks:=t' }:=by
 obtain⟨m,⟨o,es,ep,ho,r⟩,_⟩:=id I.loc;obtain⟨sl,hL⟩:=u.any ho I.free (by simp)
 exact I.step (g':=s.gens) (d':=s.drawn) (ch:=[]) (fun _ z=>nomatch z) (fun b o _ hb _ e n=>u.keep b o e n hb (by simp)) (fun b o _ hb _ e n=>u.slot b o e n hb (by simp)) (fun b o _ e n=>u.free b o e n (by simp)) (fun b o _ e=>u.there b o e (by simp)) u.tups u.frzs u.tbls (fun m' hm=>by
  obtain⟨o',es',ep',ho',r'⟩:=hm;rw[ho]at ho';cases ho'
  exact⟨_,es',ep',hL,r'⟩) hok I.bare
theorem aK.call {g':Array GenState}{t':Nat}{d':Drawn}{ch:List Addr}(I:aK X pins σ H s)(u:Un (jU X.stack) ch H H' s.heap h')(hok:kS X.prog X.w H' h')(hg:AllBare g')
  (hch:∀ b∈ch,(b∈X.ex\/X.s₀.heap.objs.size<=b)/\b≠X.env.locals/\(∀ x c,X.env.cells.lookup x=some c->c≠b)/\∀ p∈X.pn++pins,p.1≠b) :
  aK X pins σ H' { s with heap:=h',gens:=g',drawn:=d',toks:=t' }:=by
 obtain⟨m,⟨o,es,ep,ho,r⟩,_⟩:=id I.loc;obtain⟨sl,hL⟩:=u.any ho I.free fun z=>(hch _ z).2.1 rfl
 exact I.step (ch:=ch) hch (fun b o hL hb hc e n=>u.keep b o e n (fun z=>(Ms.mp (I.stkSub b z)).elim hL hb) hc) (fun b o _ _ hc e n=>u.any e n hc) (fun b o hc e n=>u.free b o e n hc) (fun b o hc e=>u.there b o e hc) u.tups u.frzs u.tbls (fun m' hm=>by
  obtain⟨o',es',ep',ho',r'⟩:=hm;rw[ho]at ho';cases ho'
  exact⟨_,es',ep',hL,r'⟩) hok hg
theorem aK.turned {t':Nat}{it:Addr}(I:aK X pins σ H s)(k:∀ b o,b≠it->s.heap.get? b=some o->h'.get? b=some o)(hn:H it=none)(hL:it≠X.env.locals)
  (h1:it∈X.ex\/X.s₀.heap.objs.size<=it) (h2:∀ x c,X.env.cells.lookup x=some c->c≠it) (h3:∀ p∈X.pn++pins,p.1≠it):aK X pins σ H { s with heap:=h',toks:=t' }:=by
 have nit:∀ b u,H b=some u->b≠it:=fun b u e z=>by rw[z,hn]at e;cases e
 refine I.step (g':=s.gens) (d':=s.drawn) (ch:=[it]) (fun b hb=>?_) (fun b o _ _ hc e _=>k b o (fun z=>hc (by simp[z])) e) (fun b o _ _ hc e _=>⟨o.slots,k b o (fun z=>hc (by simp[z])) e⟩) (fun _ _ _ _ n=>n)
  (fun b o hc e=>⟨o,k b o (fun z=>hc (by simp[z])) e⟩) (fun _ _ e=>e) (fun _ _ _ e=>e) (fun b ps e=>⟨#[],by rw[e];simp⟩) (fun m hm=>?_) (fun b u e=>?_) I.bare
 ·have e:b=it:=by simpa using hb
  subst e;exact⟨h1,hL,h2,h3⟩
 ·obtain⟨o,es,ep,ho,r⟩:=hm
  exact⟨o,es,ep,k _ o (ME hL) ho,r⟩
 ·refine (I.hok b u e).stay (fun c v hc q=>k c v ?_ q) (fun _ q=>q) fun _ _ q=>q
  rcases hc with z | z
  ·rw[z];exact nit b u e
  ·exact nit c _ z
theorem aK.tok (I:aK X pins σ H s)(t:Nat):aK X pins σ H { s with toks:=t }:=I.un (h':=s.heap) (t':=t) Un.refl I.hok
theorem aK.kept {t':Nat}(I:aK X pins σ H s)(k:∀ b u,s.heap.get? b=some u->h'.get? b=some u):aK X pins σ H { s with heap:=h',toks:=t' }:=I.un (Un.kept k) (I.hok.kept k)
theorem aK.laid {a:Addr}{o:HO}{t':Nat}(I:aK X pins σ H s)(k:∀ b u,s.heap.get? b=some u->h'.get? b=some u)(hp:s.heap.objs.size<=a)(new:bD X.prog X.w (upd H a o) h' a o) :
  aK X pins σ (upd H a o) { s with heap:=h',toks:=t' }:=I.un (Un.laid k hp (I.hok.fresh hp)) (I.hok.laid k hp new)
theorem aK.write {x e:Addr}{o:HO}{t':Nat}(I:aK X pins σ H s)(mu:JO (H x))(he:e=x\/H e=some (.own x))(k:∀ b u,b≠e->s.heap.get? b=some u->h'.get? b=some u)(heo:∃ u,h'.get? e=some u)
  (new:bD X.prog X.w (upd H x o) h' x o):aK X pins σ (upd H x o) { s with heap:=h',toks:=t' }:=I.un (Un.write mu he k heo) (I.hok.write mu he k heo new)
theorem aK.pins_of {pins':List (Addr×Obj)}(I:aK X pins σ H s)(h:∀ p∈pins',s.heap.get? p.1=some p.2/\H p.1=none/\p.1≠X.env.locals/\p.1∉X.fs/\∀ v,p.2.data≠.cell v):aK X pins' σ H s :=
 ⟨I.ok,I.os,I.bare,I.base,I.loc,I.cell,I.free,I.freeC,fun p hp=>(Ml.mp hp).elim (fun z=>I.pin p (Nk _ z)) (h p),I.hok,I.len⟩
theorem AC {N:List Str}(hN:N.Nodup){i j:Nat}{x:Str}(a:N[i]? = some x)(b:N[j]? = some x):i=j:=by
 obtain⟨h1,e1⟩:=List.getElem?_eq_some_iff.mp a;obtain⟨h2,e2⟩:=List.getElem?_eq_some_iff.mp b;exact (List.getElem_inj hN).mp (e1.trans e2.symm)
theorem x9 {M:Model}{A:Around}{E:Value->Shared->Prop}{i:Nat}{x:Str}{v:V}{u:Value}{Q:Unit->Shared->Prop}(I:aK X pins σ H s)(hN:X.N.Nodup)(hi:X.N[i]? = some x)(hx:HN X.env.scope x)(r:bu v u)
  (h:∀ s',aK X pins (σ.set i (some v)) H s'->(∃ a,Heap.SameBut a s.heap s'.heap/\(a=X.env.locals\/X.env.cells.lookup x=some a))->Q () s') (hf:X.fn x=true\/X.env.scope.names.lookup x=some .local:=by first | exact .inl rfl | exact .inr rfl | assumption):wpAny M A (storeName X.env x u) Q E s:=by
 obtain⟨m,hn,hl⟩:=id I.loc
 have hcls:(X.env.scope.kind == .class||(X.env.scope.kind == .module&&X.env.locals != X.env.globals))=false:=by rw[I.ok.kind];rfl
 have hiσ:i<σ.length:=by rw[I.len];exact (List.getElem?_eq_some_iff.mp hi).1
 have cne:=I.cne
 have tracked:∀ {a:Addr}{h':Heap},(∃ o,s.heap.get? a=some o/\H a=none)->Heap.SameBut a s.heap h'->kS X.prog X.w H h':=fun {a h'} ha hs b ob e=>by
  obtain⟨_,_,hfree⟩:=ha;refine (I.hok b ob e).stay (fun c w' hc q=>(hs.2 c ?_).trans q) (fun _ q=>q) fun _ _ q=>q;rintro rfl;rcases hc with rfl | hc
  ·rw[hfree]at e;cases e
  ·rw[hfree]at hc;cases hc
 rcases hx with hk | hk
 ·refine wpAny_storeName_local hk hn (fun h' hn' hs=>?_) hcls
  obtain⟨oL,_,_,hoL,_⟩:=id hn;refine h _ ⟨I.ok,I.os,I.bare,⟨fun b o e n hb hx=>?_,fun b o e n hb hx=>?_,I.base.free,fun b o e hx=>?_,I.base.tups,I.base.frzs,I.base.tbls⟩,⟨_,hn',fun j y v' e1 e2 e3=>?_⟩,fun y c e=>?_,I.free,I.freeC,fun p hp=>?_,tracked ⟨oL,hoL,I.free⟩ hs,by simpa using I.len⟩ ⟨_,hs,.inl rfl⟩
  ·exact (hs.2 b (MB (MR (Mw e) I.ok.above))).trans (I.base.keep b o e n hb hx)
  ·obtain⟨sl,e1⟩:=I.base.slot b o e n hb hx
   exact⟨sl,(hs.2 b (MB (MR (Mw e) I.ok.above))).trans e1⟩
  ·obtain⟨o',e1⟩:=I.base.there b o e hx
   exact⟨o',(hs.2 b (MB (MR (Mw e) I.ok.above))).trans e1⟩
  ·by_cases hj:j=i
   ·subst hj
    rw[hi]at e1;cases e1;rw[List.getElem?_set_self hiσ]at e2;cases e2;exact⟨u,r,.inl ⟨hk,by simp⟩⟩
   ·rw[List.getElem?_set_ne (ME hj)]at e2
    obtain⟨u',r',q⟩:=hl j y v' e1 e2 e3;refine⟨u',r',?_⟩;rcases q with ⟨k,e⟩ | ⟨k,c,e,z⟩
    ·refine .inl ⟨k,?_⟩
     have:y≠x:=fun e=>hj (AC hN e1 (e▸hi));simp[this,e]
    ·exact .inr ⟨k,c,e,z.sameBut hs (cne y c e)⟩
  ·obtain⟨w',z⟩:=I.cell y c e
   exact⟨w',z.sameBut hs (cne y c e)⟩
  ·obtain⟨e,n,ne,nf,d⟩:=I.pin p hp
   exact⟨(hs.2 p.1 ne).trans e,n,ne,nf,d⟩
 ·have hfn:X.fn x=true:=by
   rcases hf with z | z
   ·exact z
   ·rw[z]at hk;cases hk
  obtain⟨c,hc⟩:=I.ok.has x (.inl hk);obtain⟨w',z⟩:=I.cell x c hc;refine wpAny_storeName_cell I.ok.kind hk hc z (fun h' hc' hs=>?_);obtain⟨oc,hoc,hocd⟩:=id z;refine h { s with heap:=h' } ⟨I.ok,I.os,I.bare,⟨fun b o e n hb hx=>?_,fun b o e n hb hx=>?_,I.base.free,fun b o e hx=>?_,I.base.tups,I.base.frzs,I.base.tbls⟩,⟨m,hn.sameBut hs (ME (cne x c hc)),fun j y v' e1 e2 e3=>?_⟩,fun y c' e=>?_,I.free,I.freeC,fun p hp=>?_,tracked ⟨oc,hoc,I.freeC x c hc⟩ hs,by simpa using I.len⟩ ⟨c,hs,.inr hc⟩
  ·exact (hs.2 b (MB (MR (Mw e) (I.ok.cab x c hfn hc)))).trans (I.base.keep b o e n hb hx)
  ·obtain⟨sl,e1⟩:=I.base.slot b o e n hb hx
   exact⟨sl,(hs.2 b (MB (MR (Mw e) (I.ok.cab x c hfn hc)))).trans e1⟩
  ·obtain⟨o',e1⟩:=I.base.there b o e hx
   exact⟨o',(hs.2 b (MB (MR (Mw e) (I.ok.cab x c hfn hc)))).trans e1⟩
  ·by_cases hj:j=i
   ·subst hj
    rw[hi]at e1;cases e1;rw[List.getElem?_set_self hiσ]at e2;cases e2;exact⟨u,r,.inr ⟨.inl hk,c,hc,hc'⟩⟩
   ·rw[List.getElem?_set_ne (ME hj)]at e2
    obtain⟨u',r',q⟩:=hl j y v' e1 e2 e3;refine⟨u',r',?_⟩;rcases q with q | ⟨k,c',e,z'⟩
    ·exact .inl q
    ·refine .inr ⟨k,c',e,z'.sameBut hs ?_⟩
     rintro rfl;exact hj (AC hN e1 (I.ok.inj _ _ _ e hc▸hi))
  ·by_cases hcc:c'=c
   ·subst hcc;exact⟨_,hc'⟩
   ·obtain⟨w2,z2⟩:=I.cell y c' e
    exact⟨w2,z2.sameBut hs hcc⟩
  ·obtain⟨e,n,ne,nf,d⟩:=I.pin p hp
   refine⟨(hs.2 p.1 ?_).trans e,n,ne,nf,d⟩;intro q;rw[q,hoc]at e;have q':oc=p.2:=Mu e;exact d w' (by rw[<-q'];exact hocd)
theorem wt {M:Model}{A:Around}{E:Value->Shared->Prop}{i:Nat}{x:Str}{v:V}{u:Value}{Q:Unit->Shared->Prop}(I:aK X pins σ H s)(hN:X.N.Nodup)(hi:X.N[i]? = some x)(hx:HN X.env.scope x)(r:bu v u)
  (h:∀ s',aK X pins (σ.set i (some v)) H s'->Q () s') (hf:X.fn x=true\/X.env.scope.names.lookup x=some .local:=by first | exact .inl rfl | exact .inr rfl | assumption):wpAny M A (storeName X.env x u) Q E s :=
 x9 I hN hi hx r (fun s' I' _=>h s' I') hf
theorem aK.call' {s':Shared}{ch:List Addr}(I:aK X pins σ H s)(ho:s'.os=s.os)(u:Un (jU X.stack) ch H H' s.heap s'.heap)(hok:kS X.prog X.w H' s'.heap)(hg:AllBare s'.gens)
  (hch:∀ b∈ch,(b∈X.ex\/X.s₀.heap.objs.size<=b)/\b≠X.env.locals/\(∀ x c,X.env.cells.lookup x=some c->c≠b)/\∀ p∈X.pn++pins,p.1≠b):aK X pins σ H' s':=by
 obtain⟨h',g',d',t',o'⟩:=s';have e:o'=s.os:=ho;subst e;exact I.call (g':=g') (t':=t') (d':=d') u hok hg hch
end
abbrev XK:=Value->Option Addr->Hp->Prop
abbrev St:=List (Option V)
abbrev VK:=V->Hp->Prop
abbrev TE:=St->Hp->VK->Prop
abbrev TT:=St->Hp->(Bool->Hp->Prop)->Prop
abbrev TA:=St->Hp->(List V->Hp->Prop)->Prop
structure kY where
 nx:St->Hp->Prop
 rt:VK
 bk:St->Hp->Prop:=fun _ _=>False
 ct:St->Hp->Prop:=fun _ _=>False
abbrev TS:=kY->St->Hp->Prop
def EP (X:Cx)(pins:List (Addr×Obj))(σ:St)(Q:VK)(u:Value)(s':Shared):Prop:=∃ v H',aK X pins σ H' s'/\bu v u/\Q v H'
def TP (X:Cx)(pins:List (Addr×Obj))(σ:St)(Q:Bool->Hp->Prop)(b:Bool)(s':Shared):Prop:=∃ H',aK X pins σ H' s'/\Q b H'
def AP (X:Cx)(pins:List (Addr×Obj))(σ:St)(Q:List V->Hp->Prop)(us:List Value)(s':Shared):Prop:=∃ vs H',aK X pins σ H' s'/\bw vs us/\Q vs H'
def SP (X:Cx)(pins:List (Addr×Obj))(D:kY)(f:Flow)(s':Shared):Prop :=
 match f with
 | .next=>∃ σ' H',aK X pins σ' H' s'/\D.nx σ' H'
 | .brk=>∃ σ' H',aK X pins σ' H' s'/\D.bk σ' H'
 | .cont=>∃ σ' H',aK X pins σ' H' s'/\D.ct σ' H'
 | .ret u=>∃ v σ' H',aK X pins σ' H' s'/\bu v u/\D.rt v H'
def PE (X:Cx)(e:Expr)(t:TE):Prop :=
 ∀ (pins:List (Addr×Obj))(s:Shared)(σ:St)(H:Hp)(Q:VK),aK X pins σ H s->t σ H Q->wpAny (model X.prog X.w) X.A (eval e X.env) (EP X pins σ Q) X.xe s
def PT (X:Cx)(e:Expr)(t:TT):Prop :=
 ∀ (pins:List (Addr×Obj))(s:Shared)(σ:St)(H:Hp)(Q:Bool->Hp->Prop),aK X pins σ H s->t σ H Q->wpAny (model X.prog X.w) X.A (isTrue e X.env (eval e X.env)) (TP X pins σ Q) X.xe s
def PW (X:Cx)(e:Expr)(t:TT):Prop :=
 ∀ (whole:Sem Value)(pins:List (Addr×Obj))(s:Shared)(σ:St)(H:Hp)(Q:Bool->Hp->Prop),aK X pins σ H s->t σ H Q->wpAny (model X.prog X.w) X.A (isTrue e X.env whole) (TP X pins σ Q) X.xe s
theorem PW.pt {X:Cx}{e:Expr}{t:TT}(h:PW X e t):PT X e t:=h _
def PA (X:Cx)(es:List Expr)(t:TA):Prop :=
 ∀ (pos:Pos)(pins:List (Addr×Obj))(s:Shared)(σ:St)(H:Hp)(Q:List V->Hp->Prop),aK X pins σ H s->t σ H Q->wpAny (model X.prog X.w) X.A (spliced (backTo pos (starEach es X.env))) (AP X pins σ Q) X.xe s
def PS (X:Cx)(st:Stmt)(t:TS):Prop :=
 ∀ (pins:List (Addr×Obj))(s:Shared)(σ:St)(H:Hp)(D:kY),aK X pins σ H s->t D σ H->wpAny (model X.prog X.w) X.A (exec st X.env) (SP X pins D) X.xe s
def zK (X:Cx)(st:List Stmt)(t:TS):Prop :=
 ∀ (pins:List (Addr×Obj))(s:Shared)(σ:St)(H:Hp)(D:kY),aK X pins σ H s->t D σ H->wpAny (model X.prog X.w) X.A (execs st X.env) (SP X pins D) X.xe s
theorem bH {α:Type}{t:Sem α}{Q Q':α->Shared->Prop}{M:Model}{A:Around}{E:Value->Shared->Prop}{s:Shared}(h:wpAny M A t Q E s)(hQ:∀ a s,Q a s->Q' a s):wpAny M A t Q' E s:=MP h hQ fun _ _ x=>x
section
variable {X:Cx}
inductive TV (i:Nat) (σ:St) (H:Hp) (Q:VK):Prop
 | mk (v:V) (e:σ[i]? = some (some v)) (h:Q v H):TV i σ H Q
def Gs (i:Nat):TE:=fun σ H Q=>TV i σ H Q
def tC (v:V):TE:=fun _ H Q=>Q v H
theorem I0 {i:Nat}{x:Str}{pos:Pos}(hN:X.N[i]? = some x)(hv:K0 X.env.scope x)(hd:(x == ("__debug__" : Str))=false:=by decide)(hcd:(x == ("__classdict__" : Str))=false:=by decide):PE X (.Name x pos) (Gs i):=by
 intro pins s σ H Q I h;obtain⟨v,e,h⟩:=h;obtain⟨m,hn,hl⟩:=I.loc;obtain⟨u,r,l⟩:=hl i x v hN e hv;have fin:EP X pins σ Q u s:=⟨v,H,I,r,h⟩;rcases l with ⟨hk,hm⟩ | ⟨hk,c,hc,hcell⟩
 ·exact wpAny_Name (wpAny_loadName_local I.ok.kind hk hn hm fin) hd
 ·rcases hk with hk | hk
  ·exact wpAny_Name (wpAny_loadName_cell I.ok.kind hk hc hcell fin) hd
  ·exact wpAny_Name (wpAny_loadName_free I.ok.kind hk hc hcell fin hcd) hd
theorem am {i j pos}:PE X (.Constant (.int i) j pos) (tC (.int i)):=fun _ _ _ H _ I h=>wpAny_Constant_int ⟨.int i,H,I.tok _,⟨_,rfl⟩,h⟩
theorem d9 {b j pos}:PE X (.Constant (.bool b) j pos) (tC (.bl b)):=fun _ _ _ H _ I h=>Constant_bool ⟨.bl b,H,I,rfl,h⟩
theorem fG {j pos}:PE X (.Constant .none j pos) (tC .non):=fun _ _ _ H _ I h=>Constant_none ⟨.non,H,I,rfl,h⟩
theorem bh {x j pos}:PE X (.Constant (.str x) j pos) (tC (.str x)):=fun _ _ _ H _ I h=>Calls.Constant_str ⟨.str x,H,I.tok _,⟨_,rfl⟩,h⟩
def Gl (X:Cx)(x:Str):Prop:=X.env.kindOf x=some .globalImplicit
theorem fC {E:Value->Shared->Prop}{pins:List (Addr×Obj)}{s:Shared}{σ:St}{H:Hp}{x:Str}{u:Value}{pos:Pos}{Q:Value->Shared->Prop}(I:aK X pins σ H s)(hg:Gl X x)(hm:X.mg x=some u)(h:Q u s)
  (hd:(x == ("__debug__" : Str))=false:=by decide):wpAny (model X.prog X.w) X.A (eval (.Name x pos) X.env) Q E s :=
 Calls.Name_function_global I.ok.kind hg (Calls.loadGlobal_global (by rw[I.ok.glob];exact I.mod.glob.keeps I.bk) hm h) hd
theorem lW {E:Value->Shared->Prop}{pins:List (Addr×Obj)}{s:Shared}{σ:St}{H:Hp}{x:Str}{u:Value}{pos:Pos}{Q:Value->Shared->Prop}(I:aK X pins σ H s)(hg:Gl X x)(hm:X.mg x=none)(hv:bootBuiltins x=some u)(h:Q u s)
  (hn:x≠"__name__":=by decide) (hd:(x == ("__debug__" : Str))=false:=by decide):wpAny (model X.prog X.w) X.A (eval (.Name x pos) X.env) Q E s:=by
 obtain⟨mb,h1,h2⟩:=I.mod.blt;exact Calls.Name_function_global I.ok.kind hg (Calls.loadGlobal_builtin (by rw[I.ok.glob];exact I.mod.glob.keeps I.bk) hm (by rw[I.ok.blt];exact h1.keeps I.bk) ((h2 x hn).trans hv) h) hd
theorem qj {x:Str}{v:V}{u:Value}{pos:Pos}(hg:Gl X x)(hm:X.mg x=none)(hv:bootBuiltins x=some u)(r:bu v u)(hn:x≠"__name__":=by decide)(hd:(x == ("__debug__" : Str))=false:=by decide):PE X (.Name x pos) (tC v) :=
 fun _ _ _ H _ I h=>lW I hg hm hv ⟨v,H,I,r,h⟩ hn hd
variable {a b:Expr}{ta tb:TE}{pos:Pos}
def PC (X:Cx)(op:CmpOp)(a b:Expr)(t:TE):Prop :=
 ∀ (pins:List (Addr×Obj))(s:Shared)(σ:St)(H:Hp)(Q:VK),aK X pins σ H s->t σ H Q ->
  wpAny (model X.prog X.w) X.A (eval a X.env) (fun v s₁=>wpAny (model X.prog X.w) X.A (eval b X.env) (fun u s₂=>wpAny (model X.prog X.w) X.A (compareOp op v u) (EP X pins σ Q) X.xe s₂) X.xe s₁) X.xe s
theorem AB (b:Expr){op:CmpOp}(h:op≠.In)(h2:op≠.NotIn):behindInMarks op b=false:=by
 have e1:(op == CmpOp.In)=false:=by cases op<;>first | rfl | exact absurd rfl h
 have e2:(op == CmpOp.NotIn)=false:=by cases op<;>first | rfl | exact absurd rfl h2
 cases b<;>simp[behindInMarks,e1,e2]
def Ly (ta:TE):TE:=fun σ H Q=>ta σ H fun x H1=>Q (.bl (decide (x=.non))) H1
def Ko (ta:TE):TE:=fun σ H Q=>ta σ H fun x H1=>Q (.bl (!decide (x=.non))) H1
theorem bu.none_iff {x:V}{v:Value}(r:bu x v):(v == Value.none)=decide (x=.non):=by
 cases x with
 | non=>cases r;rfl
 | bl _=>cases r;rfl
 | int _=>obtain⟨t,rfl⟩:=r;rfl
 | str _=>obtain⟨t,rfl⟩:=r;rfl
 | byt _=>obtain⟨t,rfl⟩:=r;rfl
 | flt _=>obtain⟨t,rfl⟩:=r;rfl
 | ref _=>cases r;rfl
 | ty _=>cases r;rfl
theorem y4 {j pos'}(ha:PE X a ta):PC X .Is a (.Constant .none j pos') (Ly ta):=by
 intro pins s σ H Q I h;refine bH (ha pins s σ H _ I h) fun v s1 ⟨x,H1,I1,r1,q1⟩=>?_;exact Constant_none (is_none_gen ⟨.bl _,H1,I1,by rw[r1.none_iff];rfl,q1⟩)
theorem y6 {j pos'}(ha:PE X a ta):PC X .IsNot a (.Constant .none j pos') (Ko ta):=by
 intro pins s σ H Q I h;refine bH (ha pins s σ H _ I h) fun v s1 ⟨x,H1,I1,r1,q1⟩=>?_;exact Constant_none (isnot_none_gen ⟨.bl _,H1,I1,by rw[r1.none_iff];rfl,q1⟩)
inductive KW (Q:Bool->Hp->Prop) (x:V) (H:Hp):Prop
 | mk (c:Bool) (e:x=.bl c) (h:Q c H):KW Q x H
def tB (t:TE):TT:=fun σ H Q=>t σ H fun x H1=>KW Q x H1
theorem vN {op:CmpOp}{t:TE}(h:PC X op a b t)(h1:behindInMarks op b=false:=by first | exact AB _ (by decide) (by decide) | rfl):PE X (.Compare a [op] [b] pos) t:=fun pins s σ H Q I hw=>wpAny_Compare1 (h pins s σ H Q I hw) h1
theorem eI {op:CmpOp}{t:TE}(h:PC X op a b t)(h1:behindInMarks op b=false:=by first | exact AB _ (by decide) (by decide) | rfl):PT X (.Compare a [op] [b] pos) (tB t):=by
 intro pins s σ H Q I hw;refine wpAny_isTrue_Compare1 (bH (h pins s σ H _ I hw) fun v s1 h1=>bH h1 fun u s2 h2=>bH h2 fun c s3 ⟨x,H1,I1,r1,q1⟩=>?_) h1;obtain⟨d,rfl,q⟩:=q1;cases r1;exact NZ ⟨H1,I1,q⟩
theorem eJ {e:Expr}{t:TE}(h:PE X e t)(he:∀ whole,isTrue e X.env whole=(do let v <-whole;standAt e.pos;holding [v] (truthy v)):=by intro _;rfl):PT X e (tB t):=by
 intro pins s σ H Q I hw;refine isTrue_plain (bH (h pins s σ H _ I hw) fun v s1 ⟨x,H1,I1,r1,q1⟩=>?_) (he _);obtain⟨d,rfl,q⟩:=q1;cases r1;exact NZ ⟨H1,I1,q⟩
variable {tA tB':TT}{rest:List Expr}
def Lr (t u:TT):TT:=fun σ H Q=>t σ H fun c H1=>if c=true then u σ H1 Q else Q false H1
def L7 (t u:TT):TT:=fun σ H Q=>t σ H fun c H1=>if c=true then Q true H1 else u σ H1 Q
def LA (t:TT):TT:=fun σ H Q=>t σ H fun c H1=>Q (!c) H1
theorem nJ (ha:PT X a tA):PW X (.BoolOp .And [a] pos) tA:=by
 intro wh pins s σ H Q I h;refine isTrue_and (bH (ha pins s σ H Q I h) fun c s1 e=>?_)
 cases c with
 | true=>exact isTrue_and_nil e
 | false=>exact e
theorem j6 (ha:PT X a tA):PW X (.BoolOp .Or [a] pos) tA:=by
 intro wh pins s σ H Q I h;refine isTrue_or (bH (ha pins s σ H Q I h) fun c s1 e=>?_)
 cases c with
 | false=>exact isTrue_or_nil e
 | true=>exact e
theorem ph (ha:PT X a tA)(hb:PW X (.BoolOp .And (b::rest) pos) tB'):PW X (.BoolOp .And (a::b::rest) pos) (Lr tA tB'):=by
 intro wh pins s σ H Q I h;refine isTrue_and (bH (ha pins s σ H _ I h) fun c s1 ⟨H1,I1,q1⟩=>?_)
 cases c with
 | true=>exact hb wh pins s1 σ H1 Q I1 q1
 | false=>exact⟨H1,I1,q1⟩
theorem jE (ha:PT X a tA)(hb:PW X (.BoolOp .Or (b::rest) pos) tB'):PW X (.BoolOp .Or (a::b::rest) pos) (L7 tA tB'):=by
 intro wh pins s σ H Q I h;refine isTrue_or (bH (ha pins s σ H _ I h) fun c s1 ⟨H1,I1,q1⟩=>?_)
 cases c with
 | true=>exact⟨H1,I1,q1⟩
 | false=>exact hb wh pins s1 σ H1 Q I1 q1
theorem fH (ha:PT X a tA):PT X (.UnaryOp .Not a pos) (LA tA):=by
 intro pins s σ H Q I h;exact isTrue_not (ha pins s σ H (fun c H1=>Q (!c) H1) I h)
def Kj (ta tb:TE):TE:=fun σ H Q=>ta σ H fun x H1=>∃ c,x=.bl c/\if c=true then tb σ H1 Q else Q (.bl false) H1
def Kq (ta:TE):TE:=fun σ H Q=>ta σ H fun x H1=>∃ c,x=.bl c/\Q (.bl (!c)) H1
theorem vP {op}{t:TE}(h:PE X a t):PE X (.BoolOp op [a] pos) t:=fun pins s σ H Q I hw=>BoolOp_one (h pins s σ H Q I hw)
theorem vM (ha:PE X a ta)(hb:PE X (.BoolOp .And (b::rest) pos) tb):PE X (.BoolOp .And (a::b::rest) pos) (Kj ta tb):=by
 intro pins s σ H Q I h;refine BoolOp_and (bH (ha pins s σ H _ I h) fun v s1 ⟨x,H1,I1,r1,q1⟩=>?_);obtain⟨c,rfl,q1⟩:=q1;cases r1;refine NZ ?_
 cases c with
 | true=>exact hb pins s1 σ H1 Q I1 q1
 | false=>exact⟨.bl false,H1,I1,rfl,q1⟩
theorem FW (ha:PE X a ta):PE X (.UnaryOp .Not a pos) (Kq ta):=by
 intro pins s σ H Q I h;refine UnaryOp_ (bH (ha pins s σ H _ I h) fun v s1 ⟨x,H1,I1,r1,q1⟩=>?_);obtain⟨c,rfl,q1⟩:=q1;cases r1;exact not_of (NZ ⟨.bl (!c),H1,I1,rfl,q1⟩)
end
def aW (K:PySem.W.Frag)(H:Hp)(a:Addr)(xs:List V):Prop :=
 Rd H a (.lst xs) \/
  ∃ (o:Obj)(its:Array Value)(n:Nat),K.lookup a=some o/\o.cls=.type "list"/\o.dict=none/\o.data=.seq its n/\its.size<=sizeLine/\bw xs its.toList
def eZ (K:PySem.W.Frag)(H:Hp)(a:Addr)(xs:List V):Prop :=
 Rd H a (.tup xs) \/
  ∃ (o:Obj)(its:Array Value)(n:Nat),K.lookup a=some o/\o.cls=.type "tuple"/\o.data=.seq its n/\its.size<=sizeLine/\bw xs its.toList
def K4:Value->Option V
 | .none=>some .non
 | .bool b=>some (.bl b)
 | .int i _=>some (.int i)
 | .str x _=>some (.str x)
 | .bytes b _=>some (.byt b)
 | .float b _=>some (.flt b)
 | .ref a=>some (.ref a)
 | .type n=>some (.ty n)
 | _=>none
theorem bu.abs {x:V}{u:Value}(r:bu x u):K4 u=some x:=by
 cases x with
 | non=>cases r;rfl
 | bl _=>cases r;rfl
 | int _=>obtain⟨t,rfl⟩:=r;rfl
 | str _=>obtain⟨t,rfl⟩:=r;rfl
 | byt _=>obtain⟨t,rfl⟩:=r;rfl
 | flt _=>obtain⟨t,rfl⟩:=r;rfl
 | ref _=>cases r;rfl
 | ty _=>cases r;rfl
theorem bu.inj {x y:V}{u:Value}(r:bu x u)(q:bu y u):x=y:=Mu (r.abs.symm.trans q.abs)
theorem bw.inj:∀ {xs ys:List V}{us:List Value},bw xs us->bw ys us->xs=ys
 | _,_,_,.nil,.nil=>rfl
 | _,_,_,.cons r t,.cons r' t'=>by rw[r.inj r',bw.inj t t']
section
variable {X:Cx}{pins:List (Addr×Obj)}{σ:St}{H:Hp}{s:Shared}{a:Addr}{xs ys:List V}
theorem aW.of {K:PySem.W.Frag}(h:H a=some (.lst xs)):aW K H a xs:=.inl (.inl h)
theorem eZ.of {K:PySem.W.Frag}(h:H a=some (.tup xs)):eZ K H a xs:=.inl (.inl h)
theorem aK.list (I:aK X pins σ H s)(h:aW X.K H a xs):∃ its:List Value,bw xs its/\PlainL s.heap a its.toArray/\xs.length<=sizeLine:=by
 rcases h with h | ⟨o,its,n,hk,hc,hd,hs,hz,r⟩
 ·obtain⟨z,its,n,r,e⟩:=h.ok I.hok
  exact⟨its,r,⟨_,n,e,rfl,rfl,rfl⟩,z⟩
 ·refine⟨its.toList,r,⟨o,n,I.kIn a o hk,hc,hd,by simpa using hs⟩,?_⟩
  have e:=r.length;simp only[N3]at e;omega
theorem aK.tuple (I:aK X pins σ H s)(h:eZ X.K H a xs):∃ its:List Value,bw xs its/\IsTup s.heap a its.toArray/\xs.length<=sizeLine:=by
 rcases h with h | ⟨o,its,n,hk,hc,hs,hz,r⟩
 ·obtain⟨z,its,r,p⟩:=h.ok I.hok
  exact⟨its,r,p,z⟩
 ·refine⟨its.toList,r,⟨o,I.kIn a o hk,hc,n,by simpa using hs⟩,?_⟩
  have e:=r.length;simp only[N3]at e;omega
theorem aK.list_inj (I:aK X pins σ H s)(h:aW X.K H a xs)(h':aW X.K H a ys):xs=ys:=by
 obtain⟨its,r,⟨o,n,e,_,_,d⟩,_⟩:=I.list h;obtain⟨its',r',⟨o',n',e',_,_,d'⟩,_⟩:=I.list h';rw[e]at e';cases e';rw[d]at d';injection d' with d1 _
 have:its=its':=by simpa using Ng Array.toList d1
 subst this;exact r.inj r'
theorem aK.tuple_inj (I:aK X pins σ H s)(h:eZ X.K H a xs)(h':eZ X.K H a ys):xs=ys:=by
 obtain⟨its,r,⟨o,e,_,n,d⟩,_⟩:=I.tuple h;obtain⟨its',r',⟨o',e',_,n',d'⟩,_⟩:=I.tuple h';rw[e]at e';cases e';rw[d]at d';injection d' with d1 _
 have:its=its':=by simpa using Ng Array.toList d1
 subst this;exact r.inj r'
end
abbrev Cx.wish (X:Cx)(E:Value->Shared->Prop):Cx:={ X with xe:=E }
abbrev Cx.nox (X:Cx):Cx:=X.wish fun _ _=>False
theorem Cx.Ok.wish {X:Cx}(ok:X.Ok)(E:Value->Shared->Prop):(X.wish E).Ok :=
 ⟨ok.mod,ok.kind,ok.glob,ok.blt,ok.above,ok.inj,ok.has,ok.cab,ok.hd,ok.frames,ok.stk,ok.exf,ok.bs,ok.bsz,ok.noex,ok.exfs,ok.funs,ok.frf⟩
theorem Cx.Ok.unwish {X:Cx}{E:Value->Shared->Prop}(ok:(X.wish E).Ok):X.Ok :=
 ⟨ok.mod,ok.kind,ok.glob,ok.blt,ok.above,ok.inj,ok.has,ok.cab,ok.hd,ok.frames,ok.stk,ok.exf,ok.bs,ok.bsz,ok.noex,ok.exfs,ok.funs,ok.frf⟩
section
variable {X:Cx}{pins:List (Addr×Obj)}{σ:St}{H:Hp}{s:Shared}{E:Value->Shared->Prop}
theorem aK.wish (I:aK X pins σ H s)(E:Value->Shared->Prop):aK (X.wish E) pins σ H s:=⟨I.ok.wish E,I.os,I.bare,I.base,I.loc,I.cell,I.free,I.freeC,I.pin,I.hok,I.len⟩
theorem aK.unwish (I:aK (X.wish E) pins σ H s):aK X pins σ H s:=⟨I.ok.unwish,I.os,I.bare,I.base,I.loc,I.cell,I.free,I.freeC,I.pin,I.hok,I.len⟩
theorem SP.unwish {D:kY}{f:Flow}{s':Shared}(h:SP (X.wish E) pins D f s'):SP X pins D f s':=by
 cases f with
 | next=>obtain⟨σ',H',I,q⟩:=h;exact⟨σ',H',I.unwish,q⟩
 | brk=>obtain⟨σ',H',I,q⟩:=h;exact⟨σ',H',I.unwish,q⟩
 | cont=>obtain⟨σ',H',I,q⟩:=h;exact⟨σ',H',I.unwish,q⟩
 | ret u=>obtain⟨v,σ',H',I,r,q⟩:=h;exact⟨v,σ',H',I.unwish,r,q⟩
theorem zK.nox {st:List Stmt}{t:TS}(h:zK X.nox st t):zK X st t:=fun pins s σ H D I hw =>
 MP (h pins s σ H D (I.wish _) hw) (fun _ _ q=>q.unwish) fun _ _ z=>False.elim z
end
section
variable {X:Cx}{st:Stmt}{rest:List Stmt}{t u:TS}{e:Expr}{te:TE}{pos:Pos}
def Kn:TS:=fun D σ H=>D.nx σ H
def LC (t u:TS):TS:=fun D σ H=>t { D with nx:=u D } σ H
theorem ay:zK X [] Kn:=fun _ _ σ H _ I h=>Ob ⟨σ,H,I,h⟩
theorem ae (h1:PS X st t)(h2:zK X rest u):zK X (st::rest) (LC t u):=by
 intro pins s σ H D I h;refine wpAny_execs_cons (bH (h1 pins s σ H { D with nx:=u D } I h) fun f s1 q=>?_)
 cases f with
 | next =>
  obtain⟨σ',H',I',q⟩:=q;exact h2 pins s1 σ' H' D I' q
 | ret v=>exact q
 | brk=>exact q
 | cont=>exact q
theorem ah (h1:PS X st t):zK X [st] t:=by
 intro pins s σ H D I h;refine wpAny_execs_cons (bH (h1 pins s σ H D I h) fun f s1 q=>?_)
 cases f with
 | next=>exact Ob q
 | ret v=>exact q
 | brk=>exact q
 | cont=>exact q
theorem aK.quiet {pins:List (Addr×Obj)}{σ:St}{H:Hp}{s:Shared}(I:aK X pins σ H s):interactive X.env=false:=by simp[interactive,I.ok.kind]
def Km (te:TE):TS:=fun D σ H=>te σ H fun _ H1=>D.nx σ H1
theorem a6 (he:PE X e te)(hs:swapsWith e none pos.line X.env=pure false:=by rfl):PS X (.Expr e pos) (Km te):=by
 intro pins s σ H D I h;exact wpAny_Expr_any (bH (he pins s σ H _ I h) fun v s1 ⟨x,H1,I1,r1,q1⟩=>⟨σ,H1,I1,q1⟩) I.quiet hs
def LB (te:TE):TS:=fun D σ H=>te σ H D.rt
theorem au (he:PE X e te):PS X (.Return (some e) pos) (LB te):=by
 intro pins s σ H D I h;exact wpAny_Return_some (bH (he pins s σ H _ I h) fun v s1 ⟨x,H1,I1,r1,q1⟩=>⟨x,σ,H1,I1,r1,q1⟩)
def Lx (c:TT)(t u:TS):TS:=fun D σ H=>c σ H fun b H1=>if b=true then t D σ H1 else u D σ H1
theorem a7 {c:Expr}{a b:List Stmt}{tc:TT}(hc:PT X c tc)(ha:zK X a t)(hb:zK X b u):PS X (.If c a b pos) (Lx tc t u):=by
 intro pins s σ H D I h;refine wpAny_If (bH (hc pins s σ H _ I h) fun d s1 ⟨H1,I1,q1⟩=>?_)
 cases d with
 | true=>exact ha pins s1 σ H1 D I1 q1
 | false=>exact hb pins s1 σ H1 D I1 q1
def Jw:TS:=fun _ _ _=>False
theorem AV:PS X st Jw:=fun _ _ _ _ _ _ h=>h.elim
end
abbrev TG:=V->St->Hp->(St->Hp->Prop)->Prop
abbrev GG:=List V->St->Hp->(St->Hp->Prop)->Prop
def PG (X:Cx)(target:Expr)(t:TG):Prop :=
 ∀ (pins:List (Addr×Obj))(s:Shared)(σ:St)(H:Hp)(v:V)(u:Value)(Q:St->Hp->Prop),aK X pins σ H s->bu v u->t v σ H Q ->
  wpAny (model X.prog X.w) X.A (assign target X.env u) (fun _ s'=>∃ σ' H',aK X pins σ' H' s'/\Q σ' H') X.xe s
def JQ (X:Cx)(ts:List Expr)(t:GG):Prop :=
 ∀ (pins:List (Addr×Obj))(s:Shared)(σ:St)(H:Hp)(vs:List V)(us:List Value)(Q:St->Hp->Prop),aK X pins σ H s->bw vs us->t vs σ H Q ->
  wpAny (model X.prog X.w) X.A (assignInOrder ((assignEach ts X.env).map (·.2)) us) (fun _ s'=>∃ σ' H',aK X pins σ' H' s'/\Q σ' H') X.xe s
section
variable {X:Cx}{pos:Pos}
def jA (i:Nat):TG:=fun v σ H Q=>Q (σ.set i (some v)) H
theorem hX {i:Nat}{x:Str}(hN:X.N.Nodup)(hi:X.N[i]? = some x)(hx:HN X.env.scope x)(hf:X.fn x=true\/X.env.scope.names.lookup x=some .local:=by first | exact .inl rfl | exact .inr rfl | assumption):PG X (.Name x pos) (jA i):=by
 intro pins s σ H v u Q I r h;exact wpAny_assign_Name (wt I hN hi hx r (fun s' I'=>⟨_,H,I',h⟩) hf)
def La:GG:=fun vs σ H Q=>vs=[]/\Q σ H
inductive GC (t:TG) (u:GG) (vs:List V) (σ:St) (H:Hp) (Q:St->Hp->Prop):Prop
 | mk (v:V) (r:List V) (e:vs=v::r) (h:t v σ H fun σ' H'=>u r σ' H' Q):GC t u vs σ H Q
def JW (t:TG)(u:GG):GG:=fun vs σ H Q=>GC t u vs σ H Q
theorem nE:JQ X [] La:=by
 intro pins s σ H vs us Q I r h;obtain⟨e,h⟩:=h;subst e;cases r;exact assignInOrder_nil ⟨σ,H,I,h⟩
theorem cD {e:Expr}{es:List Expr}{t:TG}{u:GG}(h1:PG X e t)(h2:JQ X es u)
  (hs:(assignEach (e::es) X.env).map (·.2)=assign e X.env::(assignEach es X.env).map (·.2):=by rfl):JQ X (e::es) (JW t u):=by
 intro pins s σ H vs us Q I r h;obtain⟨v,vr,e1,h⟩:=h;subst e1
 cases r with
 | cons r rr =>
  rw[hs];refine assignInOrder_cons (bH (h1 pins s σ H _ _ _ I r h) fun _ s1 ⟨σ1,H1,I1,q1⟩=>?_);exact h2 pins s1 σ1 H1 _ _ Q I1 rr q1
inductive GT (K:PySem.W.Frag) (n:Nat) (t:GG) (v:V) (σ:St) (H:Hp) (Q:St->Hp->Prop):Prop
 | mk (a:Addr) (xs:List V) (e:v=.ref a) (q:eZ K H a xs) (l:xs.length=n) (h:t xs σ H Q):GT K n t v σ H Q
def JX (K:PySem.W.Frag)(n:Nat)(t:GG):TG:=fun v σ H Q=>GT K n t v σ H Q
theorem rO {es:List Expr}{k:Nat}{t:GG}{n:Nat}(hc:X.calm=true)(h:JQ X es t)
  (hn:(assignEach es X.env).length=n:=by rfl) (hst:(assignEach es X.env).findIdx? (·.1)=none:=by rfl):PG X (.Tuple es k pos) (JX X.K n t):=by
 intro pins s σ H v u Q I r hw;obtain⟨a,xs,e1,hq,hl,hw⟩:=hw;subst e1;cases r;obtain⟨its,rv,ht,hz⟩:=I.tuple hq;refine assign_Tuple_tuple (I.ok.hd hc) ht (by simp[hn,<-hl,rv.length]) hst fun h' hx=>?_;have I1:aK X pins σ H { s with heap:=h' }:=I.kept (t':=s.toks) fun b o e=>hx b o (MB (Mw e)) e;exact h pins _ σ H xs _ Q I1 (by simpa using rv) hw
def Jn (te:TE)(g:TG):TS:=fun D σ H=>te σ H fun x H1=>g x σ H1 D.nx
theorem F6 {tg e:Expr}{te:TE}{g:TG}(he:PE X e te)(hg:PG X tg g)(hs:swapsWithSole [tg] e pos.line X.env=pure false:=by rfl)(hw:swappedStores [tg] e X.env=pure none:=by rfl)
  (h1:(assignEach [tg] X.env).map (·.2)=[assign tg X.env]:=by rfl):PS X (.Assign [tg] e pos) (Jn te g):=by
 intro pins s σ H D I h;refine wpAny_Assign_stores (bH (he pins s σ H _ I h) fun v s1 ⟨x,H1,I1,r1,q1⟩=>?_) hs hw;rw[h1];exact bH (hg pins s1 σ H1 x v _ I1 r1 q1) fun _ s2 q=>q
theorem dN {i:Nat}{x:Str}{e:Expr}{te:TE}{pos':Pos}(hN:X.N.Nodup)(hi:X.N[i]? = some x)(hx:HN X.env.scope x)(he:PE X e te)(hs:swapsWith e (some (.Name x pos')) pos.line X.env=pure false:=by rfl)(hf:X.fn x=true\/X.env.scope.names.lookup x=some .local:=by first | exact .inl rfl | exact .inr rfl | assumption) :
  PS X (.Assign [.Name x pos'] e pos) (Jn te (jA i)):=by
 intro pins s σ H D I h;refine wpAny_Assign_Name (bH (he pins s σ H _ I h) fun v s1 ⟨y,H1,I1,r1,q1⟩=>?_) hs;exact wt I1 hN hi hx r1 (fun s2 I2=>⟨_,H1,I2,q1⟩) hf
end
section
variable {X:Cx}{pos:Pos}
def Jy (c:TT)(tb:TS):TS:=fun D σ H=>∃ W:Nat->St->Hp->Prop,(∃ m,W m σ H)/\∀ m σ H,W m σ H ->
 c σ H fun b H1=>if b=true then ∃ N:St->Hp->Prop,(∀ σ' H',N σ' H'->∃ m',m'<m/\W m' σ' H')/\tb { D with nx:=N,ct:=N,bk:=D.nx } σ H1 else D.nx σ H1
theorem F8 {c:Expr}{body:List Stmt}{tc:TT}{tb:TS}(hp:PassesOwn (model X.prog X.w) X.A X.env X.xe)(hc:PT X c tc)(hb:zK X body tb):PS X (.While c body [] pos) (Jy tc tb):=by
 intro pins s σ H D I h;obtain⟨W,⟨m0,w0⟩,turn⟩:=h;refine wpAny_While (codeAny_whileLoop (fun n s'=>∃ σ' H',aK X pins σ' H' s'/\W n σ' H') ?_ m0 ⟨σ,H,I,w0⟩);rintro n s1 ⟨σ1,H1,I1,w1⟩;refine Oc hp (bH (hc pins s1 σ1 H1 _ I1 (turn n σ1 H1 w1)) fun b s2 ⟨H2,I2,q2⟩=>?_)
 cases b with
 | true =>
  obtain⟨N,hN,q2⟩:=q2;rw[Mi rfl];refine Oc hp (bH (hb pins s2 σ1 H2 _ I2 q2) fun f s3 q3=>?_)
  cases f with
  | next =>
   obtain⟨σ3,H3,I3,n3⟩:=q3;obtain⟨m',hm,w3⟩:=hN σ3 H3 n3;exact⟨m',hm,σ3,H3,I3,w3⟩
  | cont =>
   obtain⟨σ3,H3,I3,n3⟩:=q3;obtain⟨m',hm,w3⟩:=hN σ3 H3 n3;exact⟨m',hm,σ3,H3,I3,w3⟩
  | brk=>exact q3
  | ret v=>exact q3
 | false =>
  rw[Mg Mt];exact Ob ⟨σ1,H2,I2,q2⟩
end
structure It where
 go:Nat->Hp->Prop
 yld:Nat->Hp->V->Hp->Prop
 stop:Nat->Hp->Prop
def lK (X:Cx)(pins:List (Addr×Obj))(H:Hp)(b:Addr):Prop :=
 H b=none/\b≠X.env.locals/\b∉X.fs/\(b∈X.ex\/X.s₀.heap.objs.size<=b)/\(∀ x c,X.env.cells.lookup x=some c->c≠b)/\∀ p∈X.pn++pins,p.1≠b
theorem aK.fpOk {X:Cx}{pins:List (Addr×Obj)}{σ:St}{H H':Hp}{s:Shared}{b:Addr}(I:aK X pins σ H s)(hb:s.heap.objs.size<=b)(hn:H' b=none):lK X pins H' b:=by
 refine⟨hn,Nat.ne_of_gt (MR I.lt hb),I.nofs hb,.inr (MZ I.sz hb),fun x c e z=>?_,fun p hp z=>?_⟩
 ·obtain⟨v,q⟩:=I.cell x c e
  exact absurd (MR q.lt (by rw[z];exact hb)) (Nat.lt_irrefl _)
 ·exact absurd (MR (Mw (I.pin p hp).1) (by rw[z];exact hb)) (Nat.lt_irrefl _)
structure zO (P:Program)(w:World)(K:PySem.W.Frag)(tg:Expr)(J:It)(fp:List Addr)(it:Addr)(tn:Nat->Heap->Prop):Prop where
 mem:it∈fp
 obj:∀ i h,tn i h->∀ b∈fp,∃ o,h.get? b=some o/\∀ v,o.data≠.cell v
 keep:∀ i h h',tn i h->(∀ b∈fp,∀ o,h.get? b=some o->h'.get? b=some o)->tn i h'
 item:∀ (X:Cx),X.prog=P->X.w=w->X.K=K->X.calm=true->∀ (i:Nat)(pins:List (Addr×Obj))(s:Shared)(σ:St)(H:Hp)(E:Value->Shared->Prop),aK X pins σ H s->(∀ b∈fp,lK X pins H b)->tn i s.heap->J.go i H ->
  wpAny (model P w) X.A (pyNext (.ref it)) (fun r s1=>∃ u,r=some u /\
   wpAny (model P w) X.A (letOwnedTupleGo tg (.ref it) u) (fun _ s2=>∃ x H',aK X pins σ H' s2/\bu x u/\J.yld i H x H'/\tn (i+1) s2.heap/\∀ b∈fp,H' b=none) E s1) E s
 done:∀ (X:Cx),X.prog=P->X.w=w->X.K=K->X.calm=true->∀ (i:Nat)(pins:List (Addr×Obj))(s:Shared)(σ:St)(H:Hp)(E:Value->Shared->Prop),aK X pins σ H s->(∀ b∈fp,lK X pins H b)->tn i s.heap->J.stop i H ->
  wpAny (model P w) X.A (pyNext (.ref it)) (fun r s1=>r=none/\aK X pins σ H s1) E s
 self:∀ (A:Around)(i:Nat)(s:Shared)(Q:Value->Shared->Prop)(E:Value->Shared->Prop),tn i s.heap->Q (.ref it) s->wpAny (model P w) A (pyIter (.ref it)) Q E s
abbrev TI:=St->Hp->(It->Hp->Prop)->Prop
def LG (X:Cx)(pins:List (Addr×Obj))(σ:St)(tg:Expr)(R:It->Hp->Prop)(itv:Value)(s2:Shared):Prop :=
 ∃ (it:Addr)(fp:List Addr)(tn:Nat->Heap->Prop)(J:It)(H':Hp),itv=.ref it/\aK X pins σ H' s2/\zO X.prog X.w X.K tg J fp it tn/\tn 0 s2.heap/\(∀ b∈fp,lK X pins H' b)/\R J H'
def PI (X:Cx)(tg iter:Expr)(wi:TI):Prop :=
 ∀ (pins:List (Addr×Obj))(s:Shared)(σ:St)(H:Hp)(R:It->Hp->Prop),aK X pins σ H s->wi σ H R ->
  wpAny (model X.prog X.w) X.A (eval iter X.env) (fun v s1=>wpAny (model X.prog X.w) X.A (pyIter v) (LG X pins σ tg R) X.xe s1) X.xe s
theorem z5 {M:Model}{A:Around}{E:Value->Shared->Prop}{s:Shared}{tg:Expr}{it:Addr}{u:Value}{o:Obj}{n:String}{vs:Array Value}{Q:Unit->Shared->Prop}(ho:s.heap.get? it=some o)(hc:o.cls=.type n)(hd:o.data=.fields vs)
  (hn:["enumerate","zip","dict_itemiterator","dict_reverseitemiterator","odict_iterator","itertools.zip_longest","itertools.pairwise"].contains n=false) (hQ:Q () s):wpAny M A (letOwnedTupleGo tg (.ref it) u) Q E s:=by
 unfold letOwnedTupleGo
 cases tg<;>first
  | exact Mq hQ
  | (cases u<;>first
    | exact Mq hQ
    | (refine Mf (wpAny_load ho ?_)
       rw[hc,hd]
       show wpAny M A (if (["enumerate","zip","dict_itemiterator","dict_reverseitemiterator","odict_iterator","itertools.zip_longest","itertools.pairwise"].contains n&&vs[0]? == some (rawInt _))=true then _ else _) Q E s
       rw[Mg (by intro h;rw[hn,Bool.false_and]at h;cases h)]
       exact Mq hQ))
def GF (K:PySem.W.Frag)(a:Addr):It :=
 ⟨fun i H=>∃ xs x,aW K H a xs/\xs[i]? = some x,fun i H x H'=>H'=H/\∀ xs,aW K H a xs->xs[i]? = some x,fun i H=>∃ xs,aW K H a xs/\xs.length<=i⟩
def JL (K:PySem.W.Frag)(a:Addr):It :=
 ⟨fun i H=>∃ xs x,eZ K H a xs/\xs[i]? = some x,fun i H x H'=>H'=H/\∀ xs,eZ K H a xs->xs[i]? = some x,fun i H=>∃ xs,eZ K H a xs/\xs.length<=i⟩
def JC (lo:Int)(n:Nat):It:=⟨fun i _=>i<n,fun i H x H'=>H'=H/\x=.int (lo+i),fun i _=>n<=i⟩
theorem EH {P:Program}{w:World}{K:PySem.W.Frag}{tg:Expr}(a it:Addr):zO P w K tg (GF K a) [it] it (fun i h=>h.IsListIter it a i) where
 mem:=by simp
 obj:=fun i h st b hb=>by
  have e:b=it:=by simpa using hb
  subst e;obtain⟨o,e,c,d⟩:=st;exact⟨o,e,fun v z=>by rw[d]at z;cases z⟩
 keep:=fun i h h' st k=>st.at fun o e=>k it (by simp) o e
 item:=by
  intro X hP hw hK hc i pins s σ H E I hf st hg;subst hP hw hK;obtain⟨xs,x,hq,hx⟩:=hg;obtain⟨its,rv,p,hz⟩:=I.list hq;obtain⟨u,hu,ru⟩:=rv.get hx;obtain⟨f0,f1,f2,f3,f4,f5⟩:=hf it (by simp);refine wpAny_pyNext_list_item st p.isList (x:=u) (by simpa using hu) fun h' st' sb=>?_;have I1:aK X pins σ H { s with heap:=h' }:=I.turned (t':=s.toks) (fun b o hb e=>(sb.2 b hb).trans e) f0 f1 f3 f4 f5;obtain⟨o,e,c,d⟩:=id st';exact⟨u,rfl,z5 (s:={ s with heap:=h' }) e c d (by decide) ⟨x,H,I1,ru,⟨rfl,fun ys hy=>by rw[I.list_inj hy hq];exact hx⟩,st',fun b hb=>(hf b hb).1⟩⟩
 done:=by
  intro X hP hw hK hc i pins s σ H E I hf st hg;subst hP hw hK;obtain⟨xs,hq,hx⟩:=hg;obtain⟨its,rv,p,hz⟩:=I.list hq;obtain⟨f0,f1,f2,f3,f4,f5⟩:=hf it (by simp);have hl:=rv.length;exact wpAny_pyNext_list_end (I.ok.hd hc) st p.isList (by simp;omega) fun h' eb=>⟨rfl,I.turned (t':=s.toks) (fun b o hb e=>eb b o hb e) f0 f1 f3 f4 f5⟩
 self:=fun _ _ _ _ _ st h=>wpAny_pyIter_listiter st h
theorem CC {P:Program}{w:World}{K:PySem.W.Frag}{tg:Expr}(a it:Addr):zO P w K tg (JL K a) [it] it (fun i h=>h.IsTupleIter it a i) where
 mem:=by simp
 obj:=fun i h st b hb=>by
  have e:b=it:=by simpa using hb
  subst e;obtain⟨o,e,c,d⟩:=st;exact⟨o,e,fun v z=>by rw[d]at z;cases z⟩
 keep:=fun i h h' st k=>st.at fun o e=>k it (by simp) o e
 item:=by
  intro X hP hw hK hc i pins s σ H E I hf st hg;subst hP hw hK;obtain⟨xs,x,hq,hx⟩:=hg;obtain⟨its,rv,p,hz⟩:=I.tuple hq;obtain⟨u,hu,ru⟩:=rv.get hx;obtain⟨f0,f1,f2,f3,f4,f5⟩:=hf it (by simp);refine wpAny_pyNext_tuple_item st (show s.heap.IsTuple a its.toArray from p) (x:=u) (by simpa using hu) fun h' st' sb=>?_;have I1:aK X pins σ H { s with heap:=h' }:=I.turned (t':=s.toks) (fun b o hb e=>(sb.2 b hb).trans e) f0 f1 f3 f4 f5;obtain⟨o,e,c,d⟩:=id st';exact⟨u,rfl,z5 (s:={ s with heap:=h' }) e c d (by decide) ⟨x,H,I1,ru,⟨rfl,fun ys hy=>by rw[I.tuple_inj hy hq];exact hx⟩,st',fun b hb=>(hf b hb).1⟩⟩
 done:=by
  intro X hP hw hK hc i pins s σ H E I hf st hg;subst hP hw hK;obtain⟨xs,hq,hx⟩:=hg;obtain⟨its,rv,p,hz⟩:=I.tuple hq;obtain⟨f0,f1,f2,f3,f4,f5⟩:=hf it (by simp);have hl:=rv.length;exact wpAny_pyNext_tuple_end (I.ok.hd hc) st (show s.heap.IsTuple a its.toArray from p) (by simp;omega) fun h' eb=>⟨rfl,I.turned (t':=s.toks) (fun b o hb e=>eb b o hb e) f0 f1 f3 f4 f5⟩
 self:=fun _ _ _ _ _ st h=>wpAny_pyIter_tupleiter st h
theorem CB {P:Program}{w:World}{K:PySem.W.Frag}{tg:Expr}(it:Addr)(lo:Int)(n:Nat):zO P w K tg (JC lo n) [it] it (fun i h=>IsRangeIter h it (lo+(i:Nat)*1) ((n:Int)-(i:Nat)) 1) where
 mem:=by simp
 obj:=fun i h st b hb=>by
  have e:b=it:=by simpa using hb
  subst e
  exact⟨_,st,fun v z=>by
   have z':Data.fields _=Data.cell v:=z
   cases z'⟩
 keep:=fun i h h' st k=>k it (by simp) _ st
 item:=by
  intro X hP hw hK hc i pins s σ H E I hf st hg;subst hP hw hK;obtain⟨f0,f1,f2,f3,f4,f5⟩:=hf it (by simp);have W:=Walks.range (prog:=X.prog) (w:=X.w) (I.ok.hd hc) it lo 1 n;refine W.item i s _ _ hg st fun v h' tk hv st' kk=>?_;obtain⟨t,rfl⟩:=hv;have I1:aK X pins σ H { s with heap:=h',toks:=tk }:=I.turned (fun b o hb e=>kk b o (by simpa using hb) e) f0 f1 f3 f4 f5;refine⟨_,rfl,z5 (s:={ s with heap:=h',toks:=tk }) (n:="range_iterator") st' rfl rfl (by decide) ⟨.int (lo+i),H,I1,⟨t,?_⟩,⟨rfl,rfl⟩,st',fun b hb=>(hf b hb).1⟩⟩;rw[Int.mul_one]
 done:=by
  intro X hP hw hK hc i pins s σ H E I hf st hg;subst hP hw hK;obtain⟨f0,f1,f2,f3,f4,f5⟩:=hf it (by simp);exact wpAny_pyNext_range_end (I.ok.hd hc) st (by have:n<=i:=hg;omega) fun h' eb=>⟨rfl,I.turned (t':=s.toks) (fun b o hb e=>eb b o hb e) f0 f1 f3 f4 f5⟩
 self:=fun _ _ _ _ _ st h=>wpAny_pyIter_rangeiter st h
section
variable {X:Cx}{tg:Expr}
inductive LF (K:PySem.W.Frag) (R:It->Hp->Prop) (x:V) (H:Hp):Prop
 | mk (a:Addr) (e:x=.ref a) (q:∃ xs,aW K H a xs) (h:R (GF K a) H):LF K R x H
def HV (K:PySem.W.Frag)(tl:TE):TI:=fun σ H R=>tl σ H fun x H1=>LF K R x H1
def Lc (K:PySem.W.Frag)(tl:TE):TI:=fun σ H R=>tl σ H fun x H1=>∃ a,x=.ref a/\(∃ xs,eZ K H1 a xs)/\R (JL K a) H1
theorem bi {l:Expr}{tl:TE}(hl:PE X l tl):PI X tg l (HV X.K tl):=by
 intro pins s σ H R I h;refine bH (hl pins s σ H _ I h) fun v s1 ⟨x,H1,I1,r1,q1⟩=>?_;obtain⟨a,e,⟨xs,hq⟩,q⟩:=q1;subst e;cases r1;obtain⟨its,rv,p,hz⟩:=I1.list hq;refine wpAny_pyIter_list p.isList ?_;refine⟨s1.heap.objs.size,[s1.heap.objs.size],_,_,H1,rfl,I1.kept (t':=s1.toks) fun b o e=>Heap.get?_push_of_some _ e,EH a _,⟨_,Heap.get?_push_size _ rfl,rfl,rfl⟩,fun b hb=>?_,q⟩
 have e:b=s1.heap.objs.size:=by simpa using hb
 subst e;exact I1.fpOk (Mn _) (I1.hok.fresh (Mn _))
theorem F0 {l:Expr}{tl:TE}(hl:PE X l tl):PI X tg l (Lc X.K tl):=by
 intro pins s σ H R I h;refine bH (hl pins s σ H _ I h) fun v s1 ⟨x,H1,I1,r1,q1⟩=>?_;obtain⟨a,e,⟨xs,hq⟩,q⟩:=q1;subst e;cases r1;obtain⟨its,rv,p,hz⟩:=I1.tuple hq;refine wpAny_pyIter_tuple (show s1.heap.IsTuple a its.toArray from p) ?_;refine⟨s1.heap.objs.size,[s1.heap.objs.size],_,_,H1,rfl,I1.kept (t':=s1.toks) fun b o e=>Heap.get?_push_of_some _ e,CC a _,⟨_,Heap.get?_push_size _ rfl,rfl,rfl⟩,fun b hb=>?_,q⟩
 have e:b=s1.heap.objs.size:=by simpa using hb
 subst e;exact I1.fpOk (Mn _) (I1.hok.fresh (Mn _))
theorem Gb {pins:List (Addr×Obj)}{σ:St}{H:Hp}{s:Shared}{R:It->Hp->Prop}{E:Value->Shared->Prop}{lo hi:Int}{t u v:Tok}{tk:Nat}(I:aK X pins σ H s)(h1 : -(2 ^ 62)<=lo)(h2:lo<2 ^ 62)(h3 : -(2 ^ 62)<=hi)(h4:hi<2 ^ 62)
  (q:R (JC lo (hi-lo).toNat) H):wpAny (model X.prog X.w) X.A (pyIter (.ref s.heap.objs.size)) (LG X pins σ tg R) E { s with heap:=s.heap.push { cls:=.type "range",data:=.fields #[.int lo t,.int hi u,.int 1 v] },toks:=tk }:=by
 refine wpAny_pyIter_range (IsRange.new ..) (small_one h1 h2 h3 h4) ?_;have I1:aK X pins σ H { s with heap:=s.heap.push { cls:=.type "range",data:=.fields #[.int lo t,.int hi u,.int 1 v] },toks:=tk }:=I.kept fun b o e=>Heap.get?_push_of_some _ e
 refine⟨(s.heap.push { cls:=.type "range",data:=.fields #[.int lo t,.int hi u,.int 1 v] }).objs.size,[(s.heap.push { cls:=.type "range",data:=.fields #[.int lo t,.int hi u,.int 1 v] }).objs.size],_,_,H,rfl,
  I1.kept (t':=tk) fun b o e=>Heap.get?_push_of_some _ e,CB _ lo (hi-lo).toNat,?_,fun b hb=>?_,q⟩
 ·have e1:lo+((0:Nat):Int)*1=lo:=by simp
  have e2:(((hi-lo).toNat:Nat):Int)-((0:Nat):Int)=Builtin.Range.rangeSize lo hi 1:=by rw[rangeSize_one];split<;>omega
  show IsRangeIter _ _ (lo+((0:Nat):Int)*1) ((((hi-lo).toNat:Nat):Int)-((0:Nat):Int)) 1
  rw[e1,e2];exact Heap.get?_push_size _ rfl
 ·have e:b=(s.heap.push { cls:=.type "range",data:=.fields #[.int lo t,.int hi u,.int 1 v] }).objs.size:=by simpa using hb
  subst e;exact I1.fpOk (Mn _) (I1.hok.fresh (Mn _))
def J0 (ta:TA):TI:=fun σ H R=>ta σ H fun vs H1=>∃ j:Int,vs=[.int j]/\-(2 ^ 62)<=j/\j<2 ^ 62/\R (JC 0 j.toNat) H1
theorem nF {a:Expr}{ta:TA}{p pos:Pos}(hg:Gl X "range")(hm:X.mg "range" = none)(ha:PA X [a] ta)(hs:starEach [a] X.env=[(false,eval a X.env)]:=by rfl):PI X tg (.Call (.Name "range" p) [a] [] pos) (J0 ta):=by
 intro pins s σ H R I h;refine Call_ (lW I hg hm boot_range (NP (bH (ha pos pins s σ H _ I h) fun us s1 ⟨vs,H1,I1,r1,q1⟩=>?_) hs rfl));obtain⟨j,e,q1,q2,q⟩:=q1;subst e
 cases r1 with
 | cons r rr =>
  cases rr;obtain⟨t,rfl⟩:=r;exact call_range_1 (Gb I1 (by omega) (by omega) q1 q2 (by simpa using q))
def Lw (wi:TI)(g:TG)(tb:TS):TS:=fun D σ H=>wi σ H fun J H1=>∃ W:Nat->Nat->St->Hp->Prop,(∃ m,W 0 m σ H1)/\∀ i m σ H,W i m σ H ->
 (J.stop i H/\D.nx σ H)\/(J.go i H/\∃ N:St->Hp->Prop,(∀ σ' H',N σ' H'->∃ m',m'<m/\W (i+1) m' σ' H')/\∀ x H',J.yld i H x H'->g x σ H' fun σ2 H2=>tb { D with nx:=N,ct:=N,bk:=D.nx } σ2 H2)
def jZ (fp:List Addr)(h:Heap):List (Addr×Obj):=fp.filterMap fun b=>(h.get? b).map fun o=>(b,o)
theorem b9 {fp:List Addr}{h:Heap}{b:Addr}{o:Obj}(hb:b∈fp)(e:h.get? b=some o):(b,o)∈jZ fp h:=List.mem_filterMap.mpr ⟨b,hb,by rw[e];rfl⟩
theorem D6 {fp:List Addr}{h:Heap}{p:Addr×Obj}(hp:p∈jZ fp h):p.1∈fp/\h.get? p.1=some p.2:=by
 obtain⟨b,hb,e⟩:=List.mem_filterMap.mp hp
 cases q:h.get? b with
 | none=>rw[q]at e;cases e
 | some o =>
  rw[q]at e;have e':(b,o)=p:=Mu e;subst e';exact⟨hb,q⟩
theorem aK.pinned {pins:List (Addr×Obj)}{σ:St}{H:Hp}{s:Shared}{fp:List Addr}(I:aK X pins σ H s)(hf:∀ b∈fp,lK X pins H b)(ho:∀ b∈fp,∃ o,s.heap.get? b=some o/\∀ v,o.data≠.cell v):aK X (pins++jZ fp s.heap) σ H s :=
 I.pins_of fun p hp=>(Ml.mp hp).elim (fun z=>I.pin p (MC _ z)) fun z=>by
  obtain⟨hb,e⟩:=D6 z;obtain⟨f0,f1,f2,_⟩:=hf p.1 hb;obtain⟨o,e',d⟩:=ho p.1 hb;rw[e]at e';cases e';exact⟨e,f0,f1,f2,d⟩
theorem aK.unpinned {pins pl:List (Addr×Obj)}{σ:St}{H:Hp}{s:Shared}(I:aK X (pins++pl) σ H s):aK X pins σ H s:=I.pins_of fun p hp=>I.pin p (MC _ (Nk _ hp))
theorem cL {iter:Expr}{body:List Stmt}{wi:TI}{g:TG}{tb:TS}{pos:Pos}(hp:PassesOwn (model X.prog X.w) X.A X.env X.xe)(hc:X.calm=true)(hi:PI X tg iter wi)(hg:PG X tg g)(hb:zK X body tb)
  (hs:∀ x,foldedSetIterable iter X.env x=pure x:=by intro _;rfl):PS X (.For tg iter body [] pos) (Lw wi g tb):=by
 intro pins s σ H D I h;refine wpAny_For (bH (hi pins s σ H _ I h) fun v s1 h1=>bH h1 fun itv s2 h2=>?_) hs;obtain⟨it,fp,tn,J,H2,e,I2,T,st2,f2,W,⟨m0,w0⟩,turn⟩:=h2;subst e;have stat:∀ {H':Hp},(∀ b∈fp,H' b=none)->∀ b∈fp,lK X pins H' b:=fun hn b hb=>⟨hn b hb,(f2 b hb).2⟩;refine codeAny_forLoop_any (fun n s'=>∃ i σ' H',aK X pins σ' H' s'/\tn i s'.heap/\(∀ b∈fp,H' b=none)/\W i n σ' H') ?_ m0 ⟨0,σ,H2,I2,st2,fun b hb=>(f2 b hb).1,w0⟩;rintro n s3 ⟨i,σ3,H3,I3,st3,fr3,w3⟩;rcases turn i n σ3 H3 w3 with ⟨stop,qn⟩ | ⟨go,N,hN,step⟩
 ·refine Oc hp (bH (T.done X rfl rfl rfl hc i pins s3 σ3 H3 X.xe I3 (stat fr3) st3 stop) fun r s4 ⟨hr,I4⟩=>?_)
  subst hr;exact Ob ⟨σ3,H3,I4,qn⟩
 ·refine Oc hp (bH (T.item X rfl rfl rfl hc i pins s3 σ3 H3 X.xe I3 (stat fr3) st3 go) fun r s4 ⟨u,hr,h4⟩=>?_)
  subst hr;refine Oc hp (bH h4 fun _ s5 ⟨x,H5,I5,r5,y5,st5,fr5⟩=>?_);have I5':=I5.pinned (stat fr5) (T.obj _ _ st5);refine Oc hp (bH (hg _ s5 σ3 H5 x u _ I5' r5 (step x H5 y5)) fun _ s6 ⟨σ6,H6,I6,q6⟩=>?_);refine Oc hp (bH (hb _ s6 σ6 H6 _ I6 q6) fun f s7 q7=>?_)
  have again:∀ {σ7:St}{H7:Hp},aK X (pins++jZ fp s5.heap) σ7 H7 s7->N σ7 H7->∃ m,m<n/\∃ i σ' H',aK X pins σ' H' s7/\tn i s7.heap/\(∀ b∈fp,H' b=none)/\W i m σ' H':=fun {σ7 H7} I7 n7=>by
   obtain⟨m',hm,w7⟩:=hN σ7 H7 n7;refine⟨m',hm,i+1,σ7,H7,I7.unpinned,T.keep _ _ _ st5 fun b hb o e=>(I7.pin (b,o) (MC _ (MC _ (b9 hb e)))).1,fun b hb=>?_,w7⟩;obtain⟨o,e,d⟩:=T.obj _ _ st5 b hb;exact (I7.pin (b,o) (MC _ (MC _ (b9 hb e)))).2.1
  cases f with
  | next=>obtain⟨σ7,H7,I7,n7⟩:=q7;exact again I7 n7
  | cont=>obtain⟨σ7,H7,I7,n7⟩:=q7;exact again I7 n7
  | brk=>obtain⟨σ7,H7,I7,q7⟩:=q7;exact⟨σ7,H7,I7.unpinned,q7⟩
  | ret v=>obtain⟨x7,σ7,H7,I7,r7,q7⟩:=q7;exact⟨x7,σ7,H7,I7.unpinned,r7,q7⟩
end
theorem a5 {K:PySem.W.Frag}{a:Addr}{xs:List V}{g:TG}{tb:TS}{D:kY}{σ:St}{H:Hp}(Pv:Nat->St->Hp->Prop)(h0:Pv 0 σ H)(hl:∀ i σ H,i<=xs.length->Pv i σ H->aW K H a xs)
  (hs:∀ i x σ H,xs[i]? = some x->Pv i σ H->g x σ H fun σ2 H2=>tb { D with nx:=Pv (i+1),ct:=Pv (i+1),bk:=D.nx } σ2 H2) (hd:∀ σ H,Pv xs.length σ H->D.nx σ H) :
  ∃ W:Nat->Nat->St->Hp->Prop,(∃ m,W 0 m σ H)/\∀ i m σ H,W i m σ H ->
   ((GF K a).stop i H/\D.nx σ H)\/((GF K a).go i H/\∃ N:St->Hp->Prop,(∀ σ' H',N σ' H'->∃ m',m'<m/\W (i+1) m' σ' H')/\∀ x H',(GF K a).yld i H x H'->g x σ H' fun σ2 H2=>tb { D with nx:=N,ct:=N,bk:=D.nx } σ2 H2):=by
 refine⟨fun i m σ H=>m=xs.length-i/\i<=xs.length/\Pv i σ H,⟨xs.length,by simp,MD _,h0⟩,?_⟩;rintro i m σ H ⟨rfl,hi,p⟩;have q:=hl i σ H hi p
 by_cases hlt:i<xs.length
 ·refine .inr ⟨⟨xs,xs[i],q,by simp[hlt]⟩,Pv (i+1),fun σ' H' p'=>⟨xs.length-(i+1),by omega,rfl,hlt,p'⟩,fun x H' y=>?_⟩
  obtain⟨e,y⟩:=y;subst e;exact hs i x σ _ (y xs q) p
 ·have e:i=xs.length:=by omega
  subst e;exact .inl ⟨⟨xs,q,Mn _⟩,hd σ H p⟩
theorem CQ {K:PySem.W.Frag}{a:Addr}{xs:List V}{g:TG}{tb:TS}{D:kY}{σ:St}{H:Hp}(Pv:Nat->St->Hp->Prop)(h0:Pv 0 σ H)(hl:∀ i σ H,i<=xs.length->Pv i σ H->eZ K H a xs)
  (hs:∀ i x σ H,xs[i]? = some x->Pv i σ H->g x σ H fun σ2 H2=>tb { D with nx:=Pv (i+1),ct:=Pv (i+1),bk:=D.nx } σ2 H2) (hd:∀ σ H,Pv xs.length σ H->D.nx σ H) :
  ∃ W:Nat->Nat->St->Hp->Prop,(∃ m,W 0 m σ H)/\∀ i m σ H,W i m σ H ->
   ((JL K a).stop i H/\D.nx σ H)\/((JL K a).go i H/\∃ N:St->Hp->Prop,(∀ σ' H',N σ' H'->∃ m',m'<m/\W (i+1) m' σ' H')/\∀ x H',(JL K a).yld i H x H'->g x σ H' fun σ2 H2=>tb { D with nx:=N,ct:=N,bk:=D.nx } σ2 H2):=by
 refine⟨fun i m σ H=>m=xs.length-i/\i<=xs.length/\Pv i σ H,⟨xs.length,by simp,MD _,h0⟩,?_⟩;rintro i m σ H ⟨rfl,hi,p⟩;have q:=hl i σ H hi p
 by_cases hlt:i<xs.length
 ·refine .inr ⟨⟨xs,xs[i],q,by simp[hlt]⟩,Pv (i+1),fun σ' H' p'=>⟨xs.length-(i+1),by omega,rfl,hlt,p'⟩,fun x H' y=>?_⟩
  obtain⟨e,y⟩:=y;subst e;exact hs i x σ _ (y xs q) p
 ·have e:i=xs.length:=by omega
  subst e;exact .inl ⟨⟨xs,q,Mn _⟩,hd σ H p⟩
theorem nh {lo:Int}{n:Nat}{g:TG}{tb:TS}{D:kY}{σ:St}{H:Hp}(Pv:Nat->St->Hp->Prop)(h0:Pv 0 σ H)
  (hs:∀ i σ H,i<n->Pv i σ H->g (.int (lo+i)) σ H fun σ2 H2=>tb { D with nx:=Pv (i+1),ct:=Pv (i+1),bk:=D.nx } σ2 H2) (hd:∀ σ H,Pv n σ H->D.nx σ H) :
  ∃ W:Nat->Nat->St->Hp->Prop,(∃ m,W 0 m σ H)/\∀ i m σ H,W i m σ H ->
   ((JC lo n).stop i H/\D.nx σ H)\/((JC lo n).go i H/\∃ N:St->Hp->Prop,(∀ σ' H',N σ' H'->∃ m',m'<m/\W (i+1) m' σ' H')/\∀ x H',(JC lo n).yld i H x H'->g x σ H' fun σ2 H2=>tb { D with nx:=N,ct:=N,bk:=D.nx } σ2 H2):=by
 refine⟨fun i m σ H=>m=n-i/\i<=n/\Pv i σ H,⟨n,by simp,MD _,h0⟩,?_⟩;rintro i m σ H ⟨rfl,hi,p⟩
 by_cases hlt:i<n
 ·refine .inr ⟨hlt,Pv (i+1),fun σ' H' p'=>⟨n-(i+1),by omega,rfl,hlt,p'⟩,fun x H' y=>?_⟩
  obtain⟨e,y⟩:=y;subst e y;exact hs i σ _ hlt p
 ·have e:i=n:=by omega
  subst e;exact .inl ⟨Mn _,hd σ H p⟩
abbrev R2:=V->V->Hp->VK->Prop
def sR (X:Cx)(f:Value->Value->Sem Value)(r:R2):Prop :=
 ∀ (pins:List (Addr×Obj))(s:Shared)(σ:St)(H:Hp)(x y:V)(v u:Value)(Q:VK),aK X pins σ H s->bu x v->bu y u->r x y H Q ->
  wpAny (model X.prog X.w) X.A (f v u) (EP X pins σ Q) X.xe s
def KZ (X:Cx)(f:Value->Sem Value)(r:V->Hp->VK->Prop):Prop :=
 ∀ (pins:List (Addr×Obj))(s:Shared)(σ:St)(H:Hp)(x:V)(v:Value)(Q:VK),aK X pins σ H s->bu x v->r x H Q ->
  wpAny (model X.prog X.w) X.A (f v) (EP X pins σ Q) X.xe s
def kJ (X:Cx)(f:Value)(r:List V->Hp->VK->Prop):Prop :=
 ∀ (pins:List (Addr×Obj))(s:Shared)(σ:St)(H:Hp)(xs:List V)(us:List Value)(Q:VK),aK X pins σ H s->bw xs us->r xs H Q ->
  wpAny (model X.prog X.w) X.A (call f us) (EP X pins σ Q) X.xe s
def KY (X:Cx)(r:V->Hp->(Bool->Hp->Prop)->Prop):Prop :=
 ∀ (pins:List (Addr×Obj))(s:Shared)(σ:St)(H:Hp)(x:V)(v:Value)(Q:Bool->Hp->Prop),aK X pins σ H s->bu x v->r x H Q ->
  wpAny (model X.prog X.w) X.A (truthy v) (TP X pins σ Q) X.xe s
def JG (r:R2)(ta tb:TE):TE:=fun σ H Q=>ta σ H fun x H1=>tb σ H1 fun y H2=>r x y H2 Q
def L9 (r:V->Hp->VK->Prop)(ta:TE):TE:=fun σ H Q=>ta σ H fun x H1=>r x H1 Q
inductive RI (C:Int->Int->Prop) (g:Int->Int->V) (x y:V) (H:Hp) (Q:VK):Prop
 | mk (i j:Int) (e1:x=.int i) (e2:y=.int j) (c:C i j) (h:Q (g i j) H):RI C g x y H Q
def rI (C:Int->Int->Prop)(g:Int->Int->V):R2:=fun x y H Q=>RI C g x y H Q
inductive LI (g:Int->Int->V) (x y:V) (H:Hp) (Q:VK):Prop
 | mk (i j:Int) (e1:x=.int i) (e2:y=.int j) (h:Q (g i j) H):LI g x y H Q
def Jj (g:Int->Int->V):R2:=fun x y H Q=>LI g x y H Q
def rU (g:Int->V):V->Hp->VK->Prop:=fun x H Q=>∃ i,x=.int i/\Q (g i) H
section
variable {X:Cx}{a b c:Expr}{ta tb tc:TE}{pos:Pos}
theorem ID (ha:PE X a ta)(hb:PE X b tb){pins:List (Addr×Obj)}{s:Shared}{σ:St}{H:Hp}{R:V->V->Hp->Prop}(I:aK X pins σ H s)
  (h:ta σ H fun x H1=>tb σ H1 fun y H2=>R x y H2) {Q:Value->Shared->Prop} {f:Value->Value->Sem Value}
  (hf:∀ v u s2 x y H2,aK X pins σ H2 s2->bu x v->bu y u->R x y H2->wpAny (model X.prog X.w) X.A (f v u) Q X.xe s2) :
  wpAny (model X.prog X.w) X.A (eval a X.env) (fun v s₁=>wpAny (model X.prog X.w) X.A (eval b X.env) (fun u s₂=>wpAny (model X.prog X.w) X.A (f v u) Q X.xe s₂) X.xe s₁) X.xe s:=by
 refine bH (ha pins s σ H _ I h) fun v s1 ⟨x,H1,I1,r1,q1⟩=>?_;refine bH (hb pins s1 σ H1 _ I1 q1) fun u s2 ⟨y,H2,I2,r2,q2⟩=>?_;exact hf v u s2 x y H2 I2 r1 r2 q2
theorem aP {op:Operator}{r:R2}(ho:sR X (binaryOp op) r)(ha:PE X a ta)(hb:PE X b tb):PE X (.BinOp a op b pos) (JG r ta tb):=by
 intro pins s σ H Q I h;exact wpAny_BinOp (ID ha hb I h fun v u s2 x y H2 I2 rx ry q=>ho pins s2 σ H2 x y v u Q I2 rx ry q)
theorem vQ {op:UnaryOp}{r:V->Hp->VK->Prop}(ho:KZ X (unaryOp op) r)(ha:PE X a ta):PE X (.UnaryOp op a pos) (L9 r ta):=by
 intro pins s σ H Q I h;exact UnaryOp_ (bH (ha pins s σ H _ I h) fun v s1 ⟨x,H1,I1,r1,q1⟩=>ho pins s1 σ H1 x v Q I1 r1 q1)
theorem J6 {f:Value->Value->Sem Value}{C:Int->Int->Prop}{g:Int->Int->Int}
  (rule:∀ (i j:Int)(t u:Tok)(s:Shared)(Q:Value->Shared->Prop)(E:Value->Shared->Prop),C i j->Q (.int (g i j) s.toks) { s with toks:=s.toks+1 }->wpAny (model X.prog X.w) X.A (f (.int i t) (.int j u)) Q E s) :
  sR X f (rI C fun i j=>.int (g i j)):=by
 intro pins s σ H x y v u Q I rx ry h;obtain⟨i,j,rfl,rfl,hc,q⟩:=h;obtain⟨t,rfl⟩:=rx;obtain⟨t',rfl⟩:=ry;exact rule i j t t' s _ _ hc ⟨.int (g i j),H,I.tok _,⟨_,rfl⟩,q⟩
theorem J8 {f:Value->Value->Sem Value}{g:Int->Int->Int}
  (rule:∀ (i j:Int)(t u:Tok)(s:Shared)(Q:Value->Shared->Prop)(E:Value->Shared->Prop),Q (.int (g i j) s.toks) { s with toks:=s.toks+1 }->wpAny (model X.prog X.w) X.A (f (.int i t) (.int j u)) Q E s) :
  sR X f (Jj fun i j=>.int (g i j)):=by
 intro pins s σ H x y v u Q I rx ry h;obtain⟨i,j,rfl,rfl,q⟩:=h;obtain⟨t,rfl⟩:=rx;obtain⟨t',rfl⟩:=ry;exact rule i j t t' s _ _ ⟨.int (g i j),H,I.tok _,⟨_,rfl⟩,q⟩
theorem IV {f:Value->Value->Sem Value}{g:Int->Int->Bool}
  (rule:∀ (i j:Int)(t u:Tok)(s:Shared)(Q:Value->Shared->Prop)(E:Value->Shared->Prop),Q (.bool (g i j)) s->wpAny (model X.prog X.w) X.A (f (.int i t) (.int j u)) Q E s) :
  sR X f (Jj fun i j=>.bl (g i j)):=by
 intro pins s σ H x y v u Q I rx ry h;obtain⟨i,j,rfl,rfl,q⟩:=h;obtain⟨t,rfl⟩:=rx;obtain⟨t',rfl⟩:=ry;exact rule i j t t' s _ _ ⟨.bl (g i j),H,I,rfl,q⟩
def KI (i j:Int):Prop:=0<j/\j<1073741824
def KJ (i j:Int):Prop:=0<=j/\j<=1000000/\i.natAbs<2 ^ 64
def Iy (i j:Int):Prop:=(-(2 ^ 64)<i/\i<2 ^ 64)\/(-(2 ^ 64)<j/\j<2 ^ 64)
theorem Iy.ok {i j:Int}(h:Iy i j):IntMulOk i j:=by
 rcases h with ⟨h1,h2⟩ | ⟨h1,h2⟩
 ·exact .of_left (intBits_le_64 h1 h2)
 ·exact .of_right (intBits_le_64 h1 h2)
theorem e8:sR X (binaryOp .Add) (Jj fun i j=>.int (i+j)):=J8 fun _ _ _ _ _ _ _ q=>add_int q
theorem FO:sR X (binaryOp .Sub) (Jj fun i j=>.int (i-j)):=J8 fun _ _ _ _ _ _ _ q=>sub_int q
theorem vI:sR X (binaryOp .Mult) (rI Iy fun i j=>.int (i*j)):=J6 fun _ _ _ _ _ _ _ hc q=>mul_int q hc.ok
theorem eU:sR X (binaryOp .FloorDiv) (rI KI fun i j=>.int (i/j)):=J6 fun i j _ _ _ _ _ hc q=>by
 have h1:(0:Int)<j:=hc.1;have h2:j<1073741824:=hc.2;exact floordiv_int (by omega) (by rw[Int.fdiv_eq_ediv_of_nonneg i (by omega)];exact q) (.inl (PyProof.noPylong_small (by omega)))
theorem bK:sR X (binaryOp .Mod) (rI (fun _ j=>0<j) fun i j=>.int (i%j)):=J6 fun i j _ _ _ _ _ hc q=>by
 have h1:(0:Int)<j:=hc;exact mod_int' (by omega) (by rw[Int.fmod_eq_emod_of_nonneg i (by omega)];exact q)
theorem FN:sR X (binaryOp .Pow) (rI KJ fun i j=>.int (i ^ j.toNat)):=J6 fun _ _ _ _ _ _ _ hc q=>pow_int_small hc.1 hc.2.1 hc.2.2 q
theorem Ma {f:Value->Sem Value}{g:Int->Int}
  (rule:∀ (i:Int)(t:Tok)(s:Shared)(Q:Value->Shared->Prop)(E:Value->Shared->Prop),Q (.int (g i) s.toks) { s with toks:=s.toks+1 }->wpAny (model X.prog X.w) X.A (f (.int i t)) Q E s) :
  KZ X f (rU fun i=>.int (g i)):=by
 intro pins s σ H x v Q I rx h;obtain⟨i,rfl,q⟩:=h;obtain⟨t,rfl⟩:=rx;exact rule i t s _ _ ⟨.int (g i),H,I.tok _,⟨_,rfl⟩,q⟩
theorem pG:KZ X (unaryOp .USub) (rU fun i=>.int (-i)):=Ma fun _ _ _ _ _ q=>neg_int q
end
def Kh:V->V->Bool
 | .non,.non=>true | .non,.int _=>true | .int _,.non=>true | .non,.bl _=>true | .bl _,.non=>true | .non,.str _=>true | .str _,.non=>true
 | .int _,.int _=>true | .bl _,.bl _=>true | .str _,.str _=>true | .byt _,.byt _=>true
 | .int _,.str _=>true | .str _,.int _=>true | .bl _,.str _=>true | .str _,.bl _=>true
 | _,_=>false
def L3:R2:=fun x y H Q=>Kh x y=true/\Q (.bl (decide (x=y))) H
def LS:R2:=fun x y H Q=>Kh x y=true/\Q (.bl (!decide (x=y))) H
theorem CL {i j:Int}:decide (V.int i=V.int j)=(i == j):=by
 rw[Bool.eq_iff_iff];simp
theorem EY {i j:Bool}:decide (V.bl i=V.bl j)=(i == j):=by
 rw[Bool.eq_iff_iff];simp
theorem CM {i j:Str}:decide (V.str i=V.str j)=(i == j):=by
 rw[Bool.eq_iff_iff];simp
theorem CK {i j:Array UInt8}:decide (V.byt i=V.byt j)=(i.toList == j.toList):=by
 rw[Bool.eq_iff_iff];cases i;cases j;simp
section
variable {X:Cx}{a b c:Expr}{ta tb tc:TE}{pos:Pos}
theorem bO {pins:List (Addr×Obj)}{σ:St}{H:Hp}{s:Shared}{Q:VK}{k k':Bool}(I:aK X pins σ H s)(q:Q (.bl k) H)(e:k=k'):EP X pins σ Q (.bool k') s:=by
 subst e;exact⟨.bl k,H,I,rfl,q⟩
theorem cC:sR X (compareOp .Eq) L3:=by
 intro pins s σ H x y v u Q I rx ry h;obtain⟨hs,q⟩:=h
 cases x with
 | non =>
  cases rx
  cases y with
  | non=>cases ry;exact PySem.EqNone.eq_none_none (bO I q (by simp))
  | bl j=>cases ry;exact PySem.EqNone.eq_none_bool (bO I q (by simp))
  | int j=>obtain⟨t',rfl⟩:=ry;exact PySem.EqNone.eq_none_int (bO I q (by simp))
  | str j=>obtain⟨t',rfl⟩:=ry;exact PySem.EqNone.eq_none_str (bO I q (by simp))
  | _=>exact absurd (show false=true from hs) Mt
 | bl i =>
  cases rx
  cases y with
  | non=>cases ry;exact PySem.EqNone.eq_bool_none (bO I q (by simp))
  | bl j=>cases ry;exact eq_bool (bO I q EY)
  | str j=>obtain⟨t',rfl⟩:=ry;exact PySem.EqMixed.eq_bool_str (bO I q (by simp))
  | _=>exact absurd (show false=true from hs) Mt
 | int i =>
  obtain⟨t,rfl⟩:=rx
  cases y with
  | non=>cases ry;exact PySem.EqNone.eq_int_none (bO I q (by simp))
  | int j=>obtain⟨t',rfl⟩:=ry;exact eq_int (bO I q CL)
  | str j=>obtain⟨t',rfl⟩:=ry;exact PySem.EqMixed.eq_int_str (bO I q (by simp))
  | _=>exact absurd (show false=true from hs) Mt
 | str i =>
  obtain⟨t,rfl⟩:=rx
  cases y with
  | non=>cases ry;exact PySem.EqNone.eq_str_none (bO I q (by simp))
  | bl j=>cases ry;exact PySem.EqMixed.eq_str_bool (bO I q (by simp))
  | int j=>obtain⟨t',rfl⟩:=ry;exact PySem.EqMixed.eq_str_int (bO I q (by simp))
  | str j=>obtain⟨t',rfl⟩:=ry;exact eq_str (bO I q CM)
  | _=>exact absurd (show false=true from hs) Mt
 | byt i =>
  obtain⟨t,rfl⟩:=rx
  cases y with
  | byt j=>obtain⟨t',rfl⟩:=ry;exact PySem.W.eq_bytes (bO I q CK)
  | _=>exact absurd (show false=true from hs) Mt
 | _=>cases y<;>exact absurd (show false=true from hs) Mt
theorem iE:sR X (compareOp .NotEq) LS:=by
 intro pins s σ H x y v u Q I rx ry h;obtain⟨hs,q⟩:=h
 cases x with
 | non =>
  cases rx
  cases y with
  | non=>cases ry;exact PySem.EqNone.ne_none_none (bO I q (by simp))
  | bl j=>cases ry;exact PySem.EqNone.ne_none_bool (bO I q (by simp))
  | int j=>obtain⟨t',rfl⟩:=ry;exact PySem.EqNone.ne_none_int (bO I q (by simp))
  | str j=>obtain⟨t',rfl⟩:=ry;exact PySem.EqNone.ne_none_str (bO I q (by simp))
  | _=>exact absurd (show false=true from hs) Mt
 | bl i =>
  cases rx
  cases y with
  | non=>cases ry;exact PySem.EqNone.ne_bool_none (bO I q (by simp))
  | bl j=>cases ry;exact ne_bool (bO I q (Ng not EY))
  | str j=>obtain⟨t',rfl⟩:=ry;exact PySem.EqMixed.ne_bool_str (bO I q (by simp))
  | _=>exact absurd (show false=true from hs) Mt
 | int i =>
  obtain⟨t,rfl⟩:=rx
  cases y with
  | non=>cases ry;exact PySem.EqNone.ne_int_none (bO I q (by simp))
  | int j=>obtain⟨t',rfl⟩:=ry;exact ne_int (bO I q (Ng not CL))
  | str j=>obtain⟨t',rfl⟩:=ry;exact PySem.EqMixed.ne_int_str (bO I q (by simp))
  | _=>exact absurd (show false=true from hs) Mt
 | str i =>
  obtain⟨t,rfl⟩:=rx
  cases y with
  | non=>cases ry;exact PySem.EqNone.ne_str_none (bO I q (by simp))
  | bl j=>cases ry;exact PySem.EqMixed.ne_str_bool (bO I q (by simp))
  | int j=>obtain⟨t',rfl⟩:=ry;exact PySem.EqMixed.ne_str_int (bO I q (by simp))
  | str j=>obtain⟨t',rfl⟩:=ry;exact ne_str (bO I q (Ng not CM))
  | _=>exact absurd (show false=true from hs) Mt
 | byt i =>
  obtain⟨t,rfl⟩:=rx
  cases y with
  | byt j=>obtain⟨t',rfl⟩:=ry;exact PySem.W.ne_bytes (bO I q (Ng not CK))
  | _=>exact absurd (show false=true from hs) Mt
 | _=>cases y<;>exact absurd (show false=true from hs) Mt
theorem vH:sR X (compareOp .Lt) (Jj fun i j=>.bl (decide (i<j))):=IV fun _ _ _ _ _ _ _ q=>lt_int q
theorem Ib:sR X (compareOp .Gt) (Jj fun i j=>.bl (decide (j<i))):=IV fun _ _ _ _ _ _ _ q=>gt_int q
theorem J9:sR X (compareOp .GtE) (Jj fun i j=>.bl (decide (j<=i))):=IV fun _ _ _ _ _ _ _ q=>ge_int q
theorem aN (b:Expr){op:CmpOp}(h:op≠.In:=by decide)(h2:op≠.NotIn:=by decide):behindInMarks op b=false:=by
 have e1:(op == CmpOp.In)=false:=by cases op<;>first | rfl | exact absurd rfl h
 have e2:(op == CmpOp.NotIn)=false:=by cases op<;>first | rfl | exact absurd rfl h2
 cases b<;>simp[behindInMarks,e1,e2]
theorem nA {op:CmpOp}{r:R2}(ho:sR X (compareOp op) r)(ha:PE X a ta)(hb:PE X b tb)(hm:behindInMarks op b=false):PE X (.Compare a [op] [b] pos) (JG r ta tb):=by
 intro pins s σ H Q I h;exact wpAny_Compare1 (ID ha hb I h fun v u s2 x y H2 I2 rx ry q=>ho pins s2 σ H2 x y v u Q I2 rx ry q) hm
def Ks (t:TE):TT:=fun σ H Q=>t σ H fun x H'=>KW Q x H'
theorem aB {op:CmpOp}{r:R2}(ho:sR X (compareOp op) r)(ha:PE X a ta)(hb:PE X b tb)(hm:behindInMarks op b=false):PT X (.Compare a [op] [b] pos) (Ks (JG r ta tb)):=by
 intro pins s σ H Q I h
 refine wpAny_isTrue_Compare1 (bH (ha pins s σ H _ I h) fun v s1 ⟨x,H1,I1,r1,q1⟩=>bH (hb pins s1 σ H1 _ I1 q1) fun u s2 ⟨y,H2,I2,r2,q2⟩ =>
  bH (ho pins s2 σ H2 x y v u _ I2 r1 r2 q2) fun c s3 ⟨z,H3,I3,r3,k,e,q3⟩=>?_) hm
 subst e;cases r3;exact NZ ⟨H3,I3,q3⟩
def JR (K:PySem.W.Frag)(x:V)(H:Hp)(k:Bool):Prop :=
 match x with
 | .non=>k=false
 | .bl b=>k=b
 | .int i=>k=(i != 0)
 | .str y=>y.length<=sizeLine/\k=((y.length:Int) != 0)
 | .byt y=>y.size<=sizeLine/\k=((y.size:Int) != 0)
 | .ref p=>(∃ xs,aW K H p xs/\k = !xs.isEmpty)\/(∃ xs,eZ K H p xs/\k = !xs.isEmpty)\/∃ kvs,H p=some (.dK kvs)/\k = !kvs.isEmpty
 | _=>False
theorem BJ {κ:Type}{kvs:List (κ×V)}{vs:List (κ×Value)}(r:KV kvs vs):(!vs.isEmpty) = !kvs.isEmpty:=by
 cases r<;>rfl
theorem u8 {xs:List V}{its:List Value}(r:bw xs its):(!its.toArray.isEmpty) = !xs.isEmpty:=by
 cases r<;>simp
theorem yA:(sizeLine:Nat)<2 ^ 63:=by rw[N8];decide
theorem JA:KY X (fun x H Q=>∃ k,JR X.K x H k/\Q k H):=by
 intro pins s σ H x v Q I rx h;obtain⟨k,e,q⟩:=h;have hl:=yA;have hs:sizeLine=16777216:=N8
 cases x with
 | non =>
  cases rx;have e':k=false:=e;subst e';exact truthy_none ⟨H,I,q⟩
 | bl b =>
  cases rx;have e':k=b:=e;subst e';exact NZ ⟨H,I,q⟩
 | int i =>
  obtain⟨t,rfl⟩:=rx;have e':k=(i != 0):=e;subst e';exact PySem.P.truthy_int ⟨H,I,q⟩
 | str y =>
  obtain⟨t,rfl⟩:=rx;obtain⟨hy,e'⟩:y.length<=sizeLine/\k=((y.length:Int) != 0):=e;subst e';exact PySem.P.truthy_str (by omega) ⟨H,I.tok _,q⟩
 | byt y =>
  obtain⟨t,rfl⟩:=rx;obtain⟨hy,e'⟩:y.size<=sizeLine/\k=((y.size:Int) != 0):=e;subst e';exact PySem.W.truthy_bytes (by omega) ⟨H,I.tok _,q⟩
 | ref p =>
  cases rx;have e':(∃ xs,aW X.K H p xs/\k = !xs.isEmpty)\/(∃ xs,eZ X.K H p xs/\k = !xs.isEmpty)\/∃ kvs,H p=some (.dK kvs)/\k = !kvs.isEmpty:=e;rcases e' with ⟨xs,hx,e'⟩ | ⟨xs,hx,e'⟩ | ⟨kvs,hx,e'⟩
  ·subst e'
   obtain⟨its,r,pl,hz⟩:=I.list hx;have hlen:=r.length;exact wpAny_truthy_list pl.isList (by simp only[My];omega) ⟨H,I.tok _,by rw[u8 r];exact q⟩
  ·subst e'
   obtain⟨its,r,pl,hz⟩:=I.tuple hx;have hlen:=r.length;exact truthy_tuple pl (by simp only[My];omega) ⟨H,I.tok _,by rw[u8 r];exact q⟩
  ·subst e'
   obtain⟨hz,hS,vs,r,m⟩:kvs.length<=sizeLine/\(p == sysModules)=false/\∃ vs,KV kvs vs/\s.heap.DictOf (bz X.prog X.w) p vs:=I.hok p _ hx;have hlen:kvs.length=vs.length:=Mo r;exact wpAny_truthy_dict hS m (by omega) ⟨H,I.tok _,by rw[BJ r];exact q⟩
 | _=>exact (show False from e).elim
theorem AW (ha:PE X a ta)(he:∀ whole,isTrue a X.env whole=(do let v <-whole;standAt a.pos;holding [v] (truthy v))) :
  PT X a (fun σ H Q=>ta σ H fun x H'=>∃ k,JR X.K x H' k/\Q k H'):=by
 intro pins s σ H Q I h;exact isTrue_plain (bH (ha pins s σ H _ I h) fun v s1 ⟨x,H1,I1,r1,q1⟩=>JA pins s1 σ H1 x v Q I1 r1 q1) (he _)
theorem wz {x:V}{us:List Value}(r:bw [x] us):∃ u,us=[u]/\bu x u:=by
 cases r with
 | cons r1 r2=>cases r2;exact⟨_,rfl,r1⟩
end
structure Bt (h:Heap)(x dx C:Addr)(mA:Str->Option Value):Prop where
 obj:h.get? x=some (PySem.W.instObj C dx)
 ns:h.Ns1 dx mA
 ne:dx≠x
theorem DU {h:Heap}{dx:Addr}{mA:Str->Option Value}(n:h.Ns1 dx mA):∃ od,h.get? dx=some od/\∀ name,PySem.W.lookIn name od=some (mA name):=by
 obtain⟨o,es,ep,ho,hd,hk,_,hm⟩:=n;refine⟨o,ho,fun name=>?_⟩;have e:=hm name;unfold nsFind findBy at e;rw[<-Array.find?_toList]at e;unfold PySem.W.lookIn;rw[hd];dsimp only;split
 ·rename_i y q
  rw[q]at e;exact Ng some e
 ·rename_i q
  rw[q]at e
  have a:es.toList.any (·.refKey)=false:=by
   rw[List.any_eq_false];intro y hy;obtain⟨z,t,hkey⟩:=hk y (Array.mem_toList_iff.mp hy);simp[DictEntry.refKey,hkey]
  have a':¬ es.toList.any (·.refKey)=true:=by rw[a];exact Mt
  rw[Mg a'];exact Ng some e
theorem Bt.look {h:Heap}{x dx C:Addr}{mA:Str->Option Value}(I:Bt h x dx C mA):∃ od,PySem.W.InstAt h x (PySem.W.instObj C dx) C (some od)/\∀ name,PySem.W.lookIn name od=some (mA name) :=
 let ⟨od,ho,hl⟩:=DU I.ns
 ⟨od,⟨I.obj,rfl,rfl,ho⟩,hl⟩
section
variable {prog:Program}{w:World}{A:Around}{E:Value->Shared->Prop}{s:Shared}{K:PySem.W.Frag}{x dx C f:Addr}{mA:Str->Option Value}{name:Str}{v:Value}
theorem G0 {expr:Bool}{Q:Value->Shared->Prop}(X:K.In s.heap)(I:Bt s.heap x dx C mA)(hg:PySem.W.plainGet K C name=true)(hh:PySem.W.hasDictIn K C=true)
  (ha:PySem.W.findIn K (.ref C) name=some none) (hv:mA name=some v) (hv':PySem.W.handedIn v=true) (h:Q v { s with toks:=s.toks+1 }) :
  wpAny (model prog w) A (getAttr (.ref x) name expr) Q E s:=by
 obtain⟨od,J,hl⟩:=I.look;exact PySem.W.get_value X J (PySem.W.plainGet_of hg).1 (PySem.W.findObj_own hh ha rfl (by rw[hl,hv])) hv' h
theorem Ff {pl:Sem Bool}{Q:Value×List Value->Shared->Prop}(X:K.In s.heap)(I:Bt s.heap x dx C mA)(hg:PySem.W.plainGet K C name=true)
  (hf:PySem.W.findIn K (.ref C) name=some (some (.ref f))) (ht:PySem.W.isFn K (.ref f)=true) (hv:mA name=none) (h:Q (.ref f,[.ref x]) s) :
  wpAny (model prog w) A (getMethod (.ref x) name pl) Q E s:=by
 obtain⟨od,J,hl⟩:=I.look;exact PySem.W.method_fn X J (PySem.W.plainGet_of hg).1 (PySem.W.plainGet_of hg).2 hf (Oq.mp ht) (by show (PySem.W.lookIn name od).map (·.isSome)=some false;rw[hl,hv];rfl) h
theorem Hx {ns:List Str}{Q:Unit->Shared->Prop}(X:K.In s.heap)(I:Bt s.heap x dx C mA)
  (hs:PySem.W.findIn K (.ref C) "__setattr__" = some (some (.builtin "object.__setattr__"))) (hp:PySem.W.plainOver K C=true) (ht:PySem.W.takerIn K C name=some none) (hh:PySem.W.hasDictIn K C=true)
  (hw:PySem.Within mA ns) (hsz:ns.length<=sizeLine)
  (h:∀ h',Bt h' x dx C (fun y=>if y=name then some v else mA y)->Heap.SameBut dx s.heap h'->Q () { s with heap:=h',toks:=s.toks+2 }) :
  wpAny (model prog w) A (setAttr (.ref x) name v) Q E s:=by
 obtain⟨od,J,hl⟩:=I.look;refine PySem.W.set_plain X J hs (PySem.W.osa_open (s:={ s with toks:=s.toks+1 }) (r:=none) X J hp ht fun b=>?_);obtain⟨cd,hc,hd'⟩:=PySem.W.any_some hh;have hx:s.heap.get? x=some ⟨.ref C,some dx,.plain,#[]⟩:=I.obj;refine Mf (Mq (Mf (Mf (wpAny_loadPart hx (Mf (PySem.W.Looks.here (s:={ s with toks:=s.toks+1 }) (PySem.W.looks_clsIn X hc) ?_))))));rw[hd'];refine Mq (a:=some dx) (Mf (Mq (Mf ?_)));refine wpAny_nsSet1 (s:={ s with toks:=s.toks+1 }) I.ns fun h' hn2 hs2=>?_;obtain⟨oD,esD,epD,hoD,hdD,hcD⟩:=hn2.count (PySem.Within.cons name v hw);refine Mf (wpAny_lookBehind hoD (by rw[hdD];exact pastItsLine_dict (MZ hcD (by rw[MX];omega))) ?_);exact Mq (h _ ⟨(hs2.2 _ (ME I.ne)).trans I.obj,hn2,I.ne⟩ hs2)
theorem FA {R:Result->Shared->Prop}{vs:List Value}{kw:List (Str×Value)}(X:K.In s.heap)(hm:PySem.W.makesIn K C=true)
  (hi:PySem.W.findIn K (.ref C) "__init__" = some (some (.ref f))) (hf:PySem.W.typeIn K (.ref f)=some (.type "function"))
  (h:codeAny (model prog w) (A.under (.builtin "type.__call__" ⟨.ref C::vs,kw⟩)) (.call (.ref f) ⟨.ref (s.heap.objs.size+1)::vs,kw⟩) (PySem.W.InitBack (s.heap.objs.size+1) R)
   { s with heap:=(s.heap.push PySem.W.emptyDict).push (PySem.W.instObj C s.heap.objs.size) }) :
  codeAny (model prog w) A (.call (.ref C) ⟨vs,kw⟩) R s:=by
 obtain⟨hh,g,d,t,os⟩:=s;exact PySem.W.make_core (PySem.W.makes_of X hm) (PySem.W.looks_findIn X hi) (fun self=>PySem.W.bind_fn X self hf) (.inl rfl) h
end
def cp (f:Str)(v:V):List (Str×V)->List (Str×V)
 | []=>[(f,v)]
 | (g,x)::r=>if g=f then (g,v)::r else (g,x)::cp f v r
theorem aI (f g:Str)(v:V):∀ fs:List (Str×V),(cp f v fs).lookup g=if g=f then some v else fs.lookup g
 | []=>by
  show List.lookup g [(f,v)]=_
  by_cases h:g=f
  ·have hb:(g == f)=true:=Oq.mpr h
   simp only[List.lookup,hb,Mi h]
  ·have hb:(g == f)=false:=NS.mpr h
   simp only[List.lookup,hb,Mg h]
 | (k,x)::r=>by
  have ih:=aI f g v r;rw[show cp f v ((k,x)::r)=(if k=f then (k,v)::r else (k,x)::cp f v r) from rfl]
  by_cases hk:k=f
  ·rw[Mi hk]
   by_cases h:g=k
   ·have hb:(g == k)=true:=Oq.mpr h
    simp only[List.lookup,hb,Mi (h.trans hk)]
   ·have hb:(g == k)=false:=NS.mpr h
    simp only[List.lookup,hb,Mg (fun e:g=f=>h (e.trans hk.symm))]
  ·rw[Mg hk]
   by_cases h:g=k
   ·have hb:(g == k)=true:=Oq.mpr h
    simp only[List.lookup,hb,Mg (fun e:g=f=>hk (h.symm.trans e))]
   ·have hb:(g == k)=false:=NS.mpr h
    simp only[List.lookup,hb];exact ih
theorem rh (f:Str)(v:V):∀ fs:List (Str×V),f∈(cp f v fs).map (·.1)/\∀ g,g∈fs.map (·.1)->g∈(cp f v fs).map (·.1)
 | []=>⟨by simp[cp],fun g h=>by simp at h⟩
 | (k,x)::r=>by
  obtain⟨i1,i2⟩:=rh f v r;rw[show cp f v ((k,x)::r)=(if k=f then (k,v)::r else (k,x)::cp f v r) from rfl]
  by_cases hk:k=f
  ·rw[Mi hk]
   subst hk;exact⟨by simp,fun g h=>by simpa using h⟩
  ·rw[Mg hk]
   refine⟨?_,fun g h=>?_⟩
   ·rw[MQ]
    exact Mh _ i1
   ·rw[MQ]at h ⊢
    rcases Ms.mp h with e | e
    ·exact Ms.mpr (.inl e)
    ·exact Mh _ (i2 g e)
theorem sY (f:Str)(v:V):∀ fs:List (Str×V),(cp f v fs).length<=fs.length+1
 | []=>by simp[cp]
 | (k,x)::r=>by
  have ih:=sY f v r;rw[show cp f v ((k,x)::r)=(if k=f then (k,v)::r else (k,x)::cp f v r) from rfl]
  by_cases hk:k=f
  ·rw[Mi hk,MX,MX];omega
  ·rw[Mg hk,MX,MX];omega
theorem jx.some_of {v:V}{o:Option Value}(r:jx (some v) o):∃ u,o=some u/\bu v u:=by
 cases o with
 | none=>exact (show False from r).elim
 | some u=>exact⟨u,rfl,r⟩
theorem jx.none_of {o:Option Value}(r:jx none o):o=none:=by
 cases o with
 | none=>rfl
 | some u=>exact (show False from r).elim
theorem DK {v:V}{u:Value}(r:bu v u):PySem.W.handedIn u=true:=by
 cases v with
 | non=>cases (show u=Value.none from r);rfl
 | bl b=>cases (show u=Value.bool b from r);rfl
 | int i=>obtain⟨t,e⟩:=(show ∃ t,u=Value.int i t from r);cases e;rfl
 | str x=>obtain⟨t,e⟩:=(show ∃ t,u=Value.str x t from r);cases e;rfl
 | byt b=>obtain⟨t,e⟩:=(show ∃ t,u=Value.bytes b t from r);cases e;rfl
 | flt b=>obtain⟨t,e⟩:=(show ∃ t,u=Value.float b t from r);cases e;rfl
 | ref a=>cases (show u=Value.ref a from r);rfl
 | ty n=>cases (show u=Value.type n from r);rfl
section
variable {P:Program}{w:World}{H H':Hp}{h h':Heap}{a C dx:Addr}{fs fs':List (Str×V)}
theorem uf (hok:kS P w H h)(e:H a=some (.ins C dx fs)):∃ mA,Bt h a dx C mA/\(∀ f,jx (fs.lookup f) (mA f))/\PySem.Within mA (fs.map (·.1))/\fs.length<=1000/\H dx=some (.own a):=by
 obtain⟨d,z,ne,ob,mA,n,r,q⟩:=(show bD P w H h a (.ins C dx fs) from hok a _ e);exact⟨mA,⟨ob,n,ne⟩,r,q,z,d⟩
end
structure Bq (K:PySem.W.Frag)(C:Addr):Prop where
 pg:PySem.W.plainGet K C Str.empty=true
 hd:PySem.W.hasDictIn K C=true
 po:PySem.W.plainOver K C=true
 sa:PySem.W.findIn K (.ref C) "__setattr__" = some (some (.builtin "object.__setattr__"))
theorem Bq.get {K:PySem.W.Frag}{C:Addr}(c:Bq K C)(f:Str):PySem.W.plainGet K C f=true:=c.pg
def fq (K:PySem.W.Frag)(C:Addr)(f:Str):Prop:=PySem.W.findIn K (.ref C) f=some none
theorem fq.taker {K:PySem.W.Frag}{C:Addr}{f:Str}(n:fq K C f):PySem.W.takerIn K C f=some none:=by
 unfold PySem.W.takerIn;rw[show PySem.W.findIn K (.ref C) f=some none from n];rfl
structure GK (K:PySem.W.Frag)(C:Addr)(m:Str)(f:Addr):Prop where
 at_:PySem.W.findIn K (.ref C) m=some (some (.ref f))
 fn:PySem.W.isFn K (.ref f)=true
 kp:PySem.W.keepIn K (.ref f)=true
section
variable {X:Cx}{pins:List (Addr×Obj)}{σ:St}{H:Hp}{s:Shared}{a C dx:Addr}{fs:List (Str×V)}{f:Str}{v:V}{A:Around}{E:Value->Shared->Prop}
theorem BG {b:Bool}{Q:Value->Shared->Prop}(I:aK X pins σ H s)(e:H a=some (.ins C dx fs))(c:Bq X.K C)(n:fq X.K C f)(l:fs.lookup f=some v)
  (h:∀ u s',aK X pins σ H s'->bu v u->Q u s'):wpAny (model X.prog X.w) A (getAttr (.ref a) f b) Q E s:=by
 obtain⟨mA,O,r,_,_,_⟩:=uf I.hok e;obtain⟨u,hu,ru⟩:=jx.some_of (v:=v) (o:=mA f) (by rw[<-l];exact r f);exact G0 I.kIn O (c.get f) c.hd n hu (DK ru) (h u _ (I.tok _) ru)
theorem o4 {m:Str}{g:Addr}{pl:Sem Bool}{Q:Value×List Value->Shared->Prop}(I:aK X pins σ H s)(e:H a=some (.ins C dx fs))(c:Bq X.K C)(k:GK X.K C m g)(l:fs.lookup m=none)
  (h:Q (.ref g,[.ref a]) s):wpAny (model X.prog X.w) A (getMethod (.ref a) m pl) Q E s:=by
 obtain⟨mA,O,r,_,_,_⟩:=uf I.hok e;have hn:mA m=none:=jx.none_of (by rw[<-l];exact r m);exact Ff I.kIn O (c.get m) k.at_ k.fn hn h
theorem Ct {y:V}{u:Value}{Q:Unit->Shared->Prop}(I:aK X pins σ H s)(e:H a=some (.ins C dx fs))(c:Bq X.K C)(n:fq X.K C f)(hl:fs.length<1000)(ry:bu y u)
  (h:∀ s',aK X pins σ (upd H a (.ins C dx (cp f y fs))) s'->Q () s'):wpAny (model X.prog X.w) A (setAttr (.ref a) f u) Q E s:=by
 obtain⟨mA,O,r,wi,_,ho⟩:=uf I.hok e
 have hz:(fs.map (·.1)).length<=sizeLine:=by rw[Me,N8];omega
 refine Hx I.kIn O c.sa c.po n.taker c.hd wi hz fun h' O' sb=>h _ ?_;have hd:∃ o,h'.get? dx=some o:=let ⟨o,_,_,e',_⟩:=O'.ns;⟨o,e'⟩;refine I.write (x:=a) (e:=dx) (by rw[e];exact True.intro) (.inr ho) (fun b q hb z=>(sb.2 b hb).trans z) hd ?_;refine⟨by rw[af O.ne];exact ho,?_,O.ne,O'.obj,_,O'.ns,fun g=>?_,fun g hg=>?_⟩
 ·have:=sY f y fs;omega
 ·show jx ((cp f y fs).lookup g) (if g=f then some u else mA g)
  rw[aI]
  by_cases q:g=f
  ·rw[Mi q,Mi q];exact ry
  ·rw[Mg q,Mg q];exact r g
 ·by_cases q:g=f
  ·rw[q];exact (rh f y fs).1
  ·refine (rh f y fs).2 g (wi g fun z=>hg ?_)
   show (if g=f then some u else mA g)=none
   rw[Mg q];exact z
theorem aK.made (I:aK X pins σ H s):aK X pins σ (upd (upd H s.heap.objs.size (.own (s.heap.objs.size+1))) (s.heap.objs.size+1) (.ins C s.heap.objs.size []))
  { s with heap:=(s.heap.push PySem.W.emptyDict).push (PySem.W.instObj C s.heap.objs.size) }:=by
 have e1:(s.heap.push PySem.W.emptyDict).get? s.heap.objs.size=some PySem.W.emptyDict:=Heap.get?_push_size s.heap rfl
 have e2:((s.heap.push PySem.W.emptyDict).push (PySem.W.instObj C s.heap.objs.size)).get? (s.heap.objs.size+1)=some (PySem.W.instObj C s.heap.objs.size):=by
  have:=Heap.get?_push_size (s.heap.push PySem.W.emptyDict) (o:=PySem.W.instObj C s.heap.objs.size) rfl
  rwa [NW]at this
 have e3:(s.heap.push PySem.W.emptyDict).Ns s.heap.objs.size (fun _=>none):=⟨PySem.W.emptyDict,#[],_,e1,rfl,(fun e he=>absurd he (by simp)),fun _=>rfl⟩;have I1:=I.laid (a:=s.heap.objs.size) (o:=.own (s.heap.objs.size+1)) (h':=s.heap.push PySem.W.emptyDict) (t':=s.toks) (fun b u q=>Heap.get?_push_of_some _ q) (Mn _) ⟨_,e1⟩;refine I1.laid (a:=s.heap.objs.size+1) (o:=.ins C s.heap.objs.size []) (t':=s.toks) (fun b u q=>Heap.get?_push_of_some _ q) (Nat.le_of_eq (NW _ _)) ?_;have ne:s.heap.objs.size≠s.heap.objs.size+1:=MB (Nat.lt_succ_self _);refine⟨by rw[af ne,ac],MD _,ne,e2,fun _=>none,(Heap.Ns1.of_empty e3).at fun o q=>Heap.get?_push_of_some _ q,fun _=>True.intro,fun y hy=>absurd rfl hy⟩
theorem GN {prog:Program}{w:World}{env:Env}{e:Expr}{f:Str}{pos:Pos}{s:Shared}{Q:Value->Shared->Prop}(hb:attributeBase e f env (eval e env)=eval e env)
  (h:wpAny (model prog w) A (eval e env) (fun o s₁=>wpAny (model prog w) A (getAttr o f true) Q E s₁) E s):wpAny (model prog w) A (eval (.Attribute e f pos) env) Q E s :=
 Attribute_any_ h (by rw[arm_eval_Attribute,hb])
end
inductive LM (K:PySem.W.Frag) (f:Str) (Q:VK) (x:V) (H:Hp):Prop
 | mk (a C dx:Addr) (fs:List (Str×V)) (v:V) (e:x=.ref a) (o:H a=some (.ins C dx fs)) (c:Bq K C) (n:fq K C f) (l:fs.lookup f=some v) (h:Q v H):LM K f Q x H
def Lv (K:PySem.W.Frag)(ta:TE)(f:Str):TE:=fun σ H Q=>ta σ H fun x H1=>LM K f Q x H1
def Lq (K:PySem.W.Frag)(ta tv:TE)(f:Str):TS:=fun D σ H=>tv σ H fun y H1=>ta σ H1 fun x H2=>∃ a C dx fs,x=.ref a/\H2 a=some (.ins C dx fs)/\Bq K C/\fq K C f/\fs.length<1000 /\
 D.nx σ (upd H2 a (.ins C dx (cp f y fs)))
section
variable {X:Cx}{o e value:Expr}{f:Str}{pos pos' tpos:Pos}{ta tv:TE}
theorem bC (he:PE X e ta)(hb:attributeBase e f X.env (eval e X.env)=eval e X.env):PE X (.Attribute e f pos) (Lv X.K ta f):=by
 intro pins s σ H Q I h;refine GN hb (bH (he pins s σ H _ I h) fun u s1 ⟨x,H1,I1,rx,a,C,dx,fs,v,ex,ea,c,n,l,q⟩=>?_);subst ex;obtain rfl:u=Value.ref a:=rx;exact BG I1 ea c n l fun u' s2 I2 ru=>⟨v,H1,I2,ru,q⟩
theorem e9 (ha:PE X o ta)(hv:PE X value tv)(hs:swapsWith value (some (.Attribute o f pos')) pos.line X.env=pure false):PS X (.Assign [.Attribute o f pos'] value pos) (Lq X.K ta tv f):=by
 intro pins s σ H D I h;refine plainObj_wpAny_Assign_Attribute (bH (hv pins s σ H _ I h) fun u s1 ⟨y,H1,I1,ry,q⟩=>bH (ha pins s1 σ H1 _ I1 q) fun ov s2 ⟨x,H2,I2,rx,a,C,dx,fs,ex,ea,c,n,l,q2⟩=>?_) hs;subst ex;obtain rfl:ov=Value.ref a:=rx;exact Ct I2 ea c n l ry fun s3 I3=>⟨σ,_,I3,q2⟩
end
section
variable {X:Cx}{pins:List (Addr×Obj)}{σ:St}{H:Hp}{s:Shared}{A:Around}{E:Value->Shared->Prop}{Q:Value->Shared->Prop}{c:Value}{b:Bool}
inductive kZ (K:PySem.W.Frag) (H:Hp):V->Value->Prop where
 | non:kZ K H .non (.type "NoneType")
 | bl (x:Bool):kZ K H (.bl x) (.type "bool")
 | int (i:Int):kZ K H (.int i) (.type "int")
 | str (x:Str):kZ K H (.str x) (.type "str")
 | flt (x:UInt64):kZ K H (.flt x) (.type "float")
 | lst {a:Addr} {xs:List V} (e:H a=some (.lst xs)):kZ K H (.ref a) (.type "list")
 | frz {a:Addr} {o:Obj} {xs:List V} (e:H a=some (.frz o (.lst xs))):kZ K H (.ref a) (.type "list")
 | tup {a:Addr} {xs:List V} (e:H a=some (.tup xs)):kZ K H (.ref a) (.type "tuple")
 | dK {a:Addr} {kvs:List (cf×V)} (e:H a=some (.dK kvs)):kZ K H (.ref a) (.type "dict")
 | dT {a:Addr} {kvs:List (List cf×V)} (e:H a=some (.dT kvs)):kZ K H (.ref a) (.type "dict")
 | ins {a C dx:Addr} {fs:List (Str×V)} (e:H a=some (.ins C dx fs)) (cl:Bq K C) (ha:PySem.W.findIn K (.ref C) "__class__" = some (some (.builtin "object.__class__")))
   (hn:PySem.W.specialIn K (.builtin "object.__class__") "__get__" = some (some (.builtin "getset_descriptor.__get__"))) (htk:PySem.W.takesIn K (.builtin "object.__class__")=some true)
   (hm:PySem.W.mroIn K C (.type "object")=some true):kZ K H (.ref a) (.ref C)
theorem DP {x:V}{u t:Value}(I:aK X pins σ H s)(rx:bu x u)(ty:kZ X.K H x t)(e:PySem.W.kitOne X.K t c=some b)(h:∀ tk,Q (.bool b) { s with toks:=tk }) :
  wpAny (model X.prog X.w) A (call (.builtin "isinstance") [u,c]) Q E s:=by
 cases ty with
 | non=>cases (show u=Value.none from rx);exact Ny PySem.W.kitx_none I.kIn True.intro e (fun z=>nomatch z) h
 | bl y=>cases (show u=Value.bool y from rx);exact Ny PySem.W.kitx_bool I.kIn True.intro e (fun z=>nomatch z) h
 | int i=>obtain⟨t,q⟩:=(show ∃ t,u=Value.int i t from rx);cases q;exact Ny PySem.W.kitx_int I.kIn True.intro e (fun z=>nomatch z) h
 | str y=>obtain⟨t,q⟩:=(show ∃ t,u=Value.str y t from rx);cases q;exact Ny PySem.W.kitx_str I.kIn True.intro e (fun z=>nomatch z) h
 | flt y=>obtain⟨t,q⟩:=(show ∃ t,u=Value.float y t from rx);cases q;exact Ny PySem.W.kitx_float I.kIn True.intro e (fun z=>nomatch z) h
 | @lst a xs ea =>
  cases (show u=Value.ref a from rx);obtain⟨_,_,n,_,h1⟩:=(show bD X.prog X.w H s.heap a (.lst xs) from I.hok a _ ea);exact Ny PySem.W.kitx_list I.kIn ⟨_,h1,rfl⟩ e (fun z=>nomatch z) h
 | @frz a ob xs ea =>
  cases (show u=Value.ref a from rx);obtain⟨_,_,_,n,_,h1⟩:=(show bD X.prog X.w H s.heap a (.frz ob (.lst xs)) from I.hok a _ ea);exact Ny PySem.W.kitx_list I.kIn ⟨_,h1,rfl⟩ e (fun z=>nomatch z) h
 | @tup a xs ea =>
  cases (show u=Value.ref a from rx);obtain⟨_,_,_,p⟩:=(show bD X.prog X.w H s.heap a (.tup xs) from I.hok a _ ea);obtain⟨o,h1,h2,_⟩:=p;exact Ny PySem.W.kitx_tuple I.kIn ⟨o,h1,h2⟩ e (fun z=>nomatch z) h
 | @dK a kvs ea =>
  cases (show u=Value.ref a from rx);obtain⟨_,_,vs,_,p⟩:=(show bD X.prog X.w H s.heap a (.dK kvs) from I.hok a _ ea);obtain⟨o,es,ep,h1,h2,_⟩:=p;exact Ny PySem.W.kitx_dict I.kIn ⟨o,h1,h2.1⟩ e (fun z=>nomatch z) h
 | @dT a kvs ea =>
  cases (show u=Value.ref a from rx);obtain⟨_,_,xs,_,o,es,ep,h1,h2,_⟩:=(show bD X.prog X.w H s.heap a (.dT kvs) from I.hok a _ ea);exact Ny PySem.W.kitx_dict I.kIn ⟨o,h1,h2.1⟩ e (fun z=>nomatch z) h
 | @ins a C dx fs ea cl ha hn htk hm =>
  cases (show u=Value.ref a from rx);obtain⟨mA,O,_⟩:=uf I.hok ea;obtain⟨od,J,_⟩:=O.look;exact Ny (PySem.W.kitx_own (cl.get _) cl.hd ha hn htk hm) I.kIn J e (fun z=>nomatch z) h
end
structure cH (k:Nat)(A:Around):Prop where
 hd:A.handled=none
 dp:A.depth+3*k+5<recursionLimit
 un:A.units+16*k+200<cLine
theorem cH.mono {j k:Nat}{A:Around}(r:cH k A)(h:j<=k):cH j A:=⟨r.hd,by have:=r.dp;omega,by have:=r.un;omega⟩
theorem cH.deeper {k:Nat}{A:Around}(r:cH (k+1) A)(env:Env):cH k (A.deeper env) :=
 ⟨r.hd,by have:=r.dp;show A.depth+1+3*k+5<_;omega,by have:=r.un;show A.units+3+16*k+200<_;omega⟩
theorem BO {A:Around}{C:Addr}{us:List Value}{kw:List (Str×Value)}:(A.under (.builtin "type.__call__" ⟨.ref C::us,kw⟩)).depth=A.depth+1:=by
 first | rfl | simp[Around.under,Code.weight,Code.isCreation,Code.isGuard,Code.isCaller,Code.frames,Code.isFrame,guardIds]
theorem BP {A:Around}{C:Addr}{us:List Value}{kw:List (Str×Value)}:(A.under (.builtin "type.__call__" ⟨.ref C::us,kw⟩)).units=A.units+1:=by
 first | rfl | simp[Around.under,Code.cUnits,Code.frames,Code.isFrame]
theorem cH.make {k:Nat}{A:Around}(r:cH (k+1) A)(C:Addr)(us:List Value)(kw:List (Str×Value)):cH k (A.under (.builtin "type.__call__" ⟨.ref C::us,kw⟩)) :=
 ⟨r.hd,by have:=r.dp;rw[BO];omega,by have:=r.un;rw[BP];omega⟩
theorem cH.depth {k:Nat}{A:Around}(r:cH k A):A.depth<recursionLimit:=by have:=r.dp;omega
theorem cH.units {k:Nat}{A:Around}(r:cH k A):A.units+64<cLine:=by have:=r.un;omega
def wu:TA:=fun _ H Q=>Q [] H
def qN (ta:TE)(tr:TA):TA:=fun σ H Q=>ta σ H fun x H1=>tr σ H1 fun xs H2=>Q (x::xs) H2
section
variable {X:Cx}{e:Expr}{es:List Expr}{te:TE}{t:TA}{pos:Pos}
theorem aD:PA X [] wu:=fun _ _ _ _ H Q I h=>Og ⟨[],H,I,.nil,h⟩
theorem ao (ha:PE X e te)(hr:PA X es t)(hs:starEach (e::es) X.env=(false,eval e X.env)::starEach es X.env:=by rfl):PA X (e::es) (qN te t):=by
 intro pos pins s σ H Q I h;rw[hs]
 show wpAny _ _ (spliced ((false,eval e X.env)::backTo pos (starEach es X.env))) _ _ s
 refine NH (bH (ha pins s σ H _ I h) fun u s1 ⟨x,H1,I1,r1,q1⟩=>?_);exact bH (hr pos pins s1 σ H1 _ I1 q1) fun us s2 ⟨xs,H2,I2,r2,q2⟩=>⟨x::xs,H2,I2,.cons r1 r2,q2⟩
def Kt (t:TA):TE:=fun σ H Q=>t σ H fun xs H1=>xs.length<=sizeLine/\∀ p,H1 p=none->Q (.ref p) (upd H1 p (.tup xs))
def Lz (t:TA):TE:=fun σ H Q=>t σ H fun xs H1=>xs.length<=sizeLine/\∀ p,H1 p=none->Q (.ref p) (upd H1 p (.lst xs))
theorem bo {x1}(h:PA X es t):PE X (.Tuple es x1 pos) (Kt t):=by
 intro pins s σ H Q I hq;refine wpAny_Tuple_spliced (bH (h pos pins s σ H _ I hq) fun us s1 ⟨xs,H1,I1,r,z,q⟩=>⟨by rw[<-r.length];exact z,?_⟩);have hf:H1 s1.heap.objs.size=none:=I1.hok.fresh (Mn _);refine⟨.ref s1.heap.objs.size,upd H1 s1.heap.objs.size (.tup xs),I1.laid (t':=s1.toks) (fun b u e=>Heap.get?_push_of_some _ e) (Mn _) ?_,rfl,q _ hf⟩;exact⟨z,us,r,⟨_,Heap.get?_push_size _ rfl,rfl,_,rfl⟩⟩
theorem c6 (h:PA X es t):PE X (.List es pos) (Lz t):=by
 intro pins s σ H Q I hq;refine wpAny_List_spliced (bH (h pos pins s σ H _ I hq) fun us s1 ⟨xs,H1,I1,r,z,q⟩=>⟨by rw[<-r.length];exact z,?_⟩);have hf:H1 s1.heap.objs.size=none:=I1.hok.fresh (Mn _);refine⟨.ref s1.heap.objs.size,upd H1 s1.heap.objs.size (.lst xs),I1.laid (t':=s1.toks) (fun b u e=>Heap.get?_push_of_some _ e) (Mn _) ?_,rfl,q _ hf⟩;exact⟨z,us,0,r,Heap.get?_push_size _ rfl⟩
end
abbrev Sp:=List V->Hp->VK->XK->Prop
abbrev zF:=List Env->Hp->Shared->XK->Value->Shared->Prop
structure Br (P:Program)(w:World)(K:PySem.W.Frag)(mg:Str->Option Value)(base:Heap)(A:Around)(outer:List Env)(s:Shared)(H:Hp):Prop where
 frames:A.frames=some outer
 mod:Mod K mg base
 bs:∀ b o,base.get? b=some o->s.heap.get? b=some o/\H b=none
 bsz:base.objs.size<=s.heap.objs.size
 funs:s.heap.FunFrames base outer
 frf:∀ b∈jU outer,H b=none
 hok:kS P w H s.heap
 bare:AllBare s.gens
def CE (outer:List Env)(P:Program)(w:World)(H:Hp)(s:Shared)(Q:VK)(u:Value)(s':Shared):Prop :=
 ∃ v H',s'.os=s.os/\AllBare s'.gens/\Un (jU outer) [] H H' s.heap s'.heap/\kS P w H' s'.heap/\bu v u/\Q v H'
def CR (CX:zF)(outer:List Env)(P:Program)(w:World)(H:Hp)(s:Shared)(Q:VK)(E:XK)(r:Result)(s':Shared):Prop :=
 match r with
 | .ok (.ret u)=>CE outer P w H s Q u s'
 | .ok _=>False
 | .error e=>CX outer H s E e s'
structure aZ (P:Program)(w:World)(K:PySem.W.Frag)(mg:Str->Option Value)(base:Heap)(CX:zF)(k:Nat)(f:Addr)(fd:FuncData)(ps:List Str)(sp:Sp):Prop where
 len:∀ vs H Q E,sp vs H Q E->vs.length=ps.length
 run:∀ (A:Around)(outer:List Env)(s:Shared)(H:Hp)(args:Args)(us:List Value)(vs:List V)(Q:VK)(E:XK),cH k A->Br P w K mg base A outer s H->BindsTo s fd args (ps.zip us)->bw vs us->sp vs H Q E ->
  codeAny (model P w) A (.call (.ref f) args) (CR CX outer P w H s Q E) s
theorem Br.make {P:Program}{w:World}{K:PySem.W.Frag}{mg:Str->Option Value}{base:Heap}{A:Around}{outer:List Env}{s:Shared}{H:Hp}(e:Br P w K mg base A outer s H)(C:Addr)(us:List Value)(kw:List (Str×Value)) :
  Br P w K mg base (A.under (.builtin "type.__call__" ⟨.ref C::us,kw⟩)) outer s H:=⟨by first | exact e.frames | (simpa [Around.under,Code.envs,Code.isFrame,pushEnvs] using e.frames),e.mod,e.bs,e.bsz,e.funs,e.frf,e.hok,e.bare⟩
section
variable {X:Cx}{pins:List (Addr×Obj)}{σ:St}{H:Hp}{s s':Shared}
theorem aK.env0 (I:aK X pins σ H s):Br X.prog X.w X.K X.mg X.base X.A X.stack s H :=
 ⟨I.ok.frames,I.ok.mod,I.bs,MZ I.ok.bsz I.sz,I.stack,I.stkFree,I.hok,I.bare⟩
theorem aK.after {Q:VK}{u:Value}(I:aK X pins σ H s)(h:CE X.stack X.prog X.w H s Q u s'):EP X pins σ Q u s':=by
 obtain⟨v,H',os,bare,un,hok,r,q⟩:=h;obtain⟨hh,g,d,t,os'⟩:=s';obtain rfl:os'=s.os:=os;exact⟨v,H',I.call (h':=hh) (g':=g) (d':=d) (t':=t) (ch:=[]) un hok bare (fun b z=>absurd z (by simp)),r,q⟩
end
def Gq (sp:Sp)(dvs:List V)(E:XK)(t:TA):TE:=fun σ H Q=>t σ H fun vs H1=>sp (vs++dvs) H1 Q E
inductive LN (C:Addr) (m:Str) (sp:Sp) (dvs:List V) (E:XK) (t:TA) (σ:St) (Q:VK) (x:V) (H:Hp):Prop
 | mk (a dx:Addr) (fs:List (Str×V)) (e:x=.ref a) (o:H a=some (.ins C dx fs)) (l:fs.lookup m=none) (h:t σ H fun vs H2=>sp (x::(vs++dvs)) H2 Q E):LN C m sp dvs E t σ Q x H
def Bd (C:Addr)(m:Str)(sp:Sp)(dvs:List V)(E:XK)(ta:TE)(t:TA):TE:=fun σ H Q=>ta σ H fun x H1=>LN C m sp dvs E t σ Q x H1
def Do (C:Addr)(sp:Sp)(dvs:List V)(E:XK)(t:TA):TE:=fun σ H Q=>t σ H fun vs H1=>∀ x dx,H1 x=none->H1 dx=none->dx≠x ->
 sp (.ref x::(vs++dvs)) (upd (upd H1 dx (.own x)) x (.ins C dx [])) (fun v H2=>v=.non/\Q (.ref x) H2) E
def fU (K:PySem.W.Frag)(fd:FuncData)(ps:List Str)(ds:List Value):Prop :=
 ∀ (s:Shared)(us:List Value),K.In s.heap->(us++ds).length=ps.length->BindsTo s fd ⟨us,[]⟩ (ps.zip (us++ds))
theorem fU.all {K:PySem.W.Frag}{fd:FuncData}{ps:List Str}(h:∀ us:List Value,us.length=ps.length->bindArgs fd ⟨us,[]⟩=pure (ps.zip us)):fU K fd ps []:=fun s us _ hl=>by
 rw[NQ]at hl ⊢;exact .of_eq (h us hl)
def fY (CX:zF)(X:Cx)(E:XK):Prop:=∀ (pins:List (Addr×Obj))(σ:St)(H:Hp)(s:Shared)(e:Value)(s':Shared),aK X pins σ H s->CX X.stack H s E e s'->X.xe e s'
section
variable {X:Cx}{CX:zF}{k:Nat}{f C:Addr}{fd:FuncData}{ps:List Str}{sp:Sp}{dvs:List V}{ds:List Value}{E:XK}{x m:Str}{p pos apos:Pos}{e o:Expr}{es:List Expr}{ta:TE}{t:TA}
theorem Cn {pins:List (Addr×Obj)}{σ:St}{H:Hp}{s:Shared}{Q:VK}{us:List Value}{vs:List V}(F:aZ X.prog X.w X.K X.mg X.base CX k f fd ps sp)(hr:cH k X.A)(hb:fU X.K fd ps ds)(hd:bw dvs ds)(hx:fY CX X E)
  (I:aK X pins σ H s) (r:bw vs us) (h:sp (vs++dvs) H Q E):wpAny (model X.prog X.w) X.A (call (.ref f) us) (EP X pins σ Q) X.xe s:=by
 have r2:bw (vs++dvs) (us++ds):=r.append hd
 have hl:(us++ds).length=ps.length:=by rw[<-r2.length];exact F.len _ _ _ _ h
 refine wpAny_call (Oa (F.run X.A X.stack s H ⟨us,[]⟩ (us++ds) (vs++dvs) Q E hr I.env0 (hb s us I.kIn hl) r2 h) fun r s' hq=>?_)
 cases r with
 | error e=>exact hx pins σ H s e s' I hq
 | ok fl =>
  cases fl with
  | ret u=>exact I.after hq
  | next=>exact False.elim hq
  | brk=>exact False.elim hq
  | cont=>exact False.elim hq
theorem Db (F:aZ X.prog X.w X.K X.mg X.base CX k f fd ps sp)(hr:cH k X.A)(hg:Gl X x)(hm:X.mg x=some (.ref f))(hk:PySem.W.keepIn X.K (.ref f)=true)(hb:fU X.K fd ps ds)(hd:bw dvs ds)(hx:fY CX X E)
  (ha:PA X (e::es) t) (hdb:(x == ("__debug__" : Str))=false:=by decide) (he:starEach (e::es) X.env=(false,eval e X.env)::starEach es X.env:=by rfl) (hpl:(backTo pos (starEach es X.env)).any (·.1)=false:=by rfl) :
  PE X (.Call (.Name x p) (e::es) [] pos) (Gq sp dvs E t):=by
 intro pins s σ H Q I h;refine Nn (fC I hg hm ?_ hdb);refine Os (h₀:=X.base) I.ok.mod.kin hk (bH (ha pos pins s σ H _ I h) fun us s1 ⟨vs,H1,I1,r,q⟩=>⟨I1.kIn,?_⟩) he hpl;exact Cn F hr hb hd hx I1 r q
theorem Hm {pl:Sem Bool}(he:PE X o ta)(c:Bq X.K C)(hm:GK X.K C m f)(F:aZ X.prog X.w X.K X.mg X.base CX k f fd ps sp)(hr:cH k X.A)(hb:fU X.K fd ps ds)(hd:bw dvs ds)(hx:fY CX X E)(ha:PA X (e::es) t)
  (hst:starEach (e::es) X.env=(false,eval e X.env)::starEach es X.env:=by rfl) (hpl:(backTo pos (starEach es X.env)).any (·.1)=false:=by rfl)
  (ht:eval (.Call (.Attribute o m apos) (e::es) [] pos) X.env=(do
   let ov <-eval o X.env
   standAt apos.atName
   let (f,first) <-holding [ov] (getMethod ov m pl)
   callWith pos f first (backTo pos (starEach (e::es) X.env)) (backToKw pos (keywordEach [] X.env))):=by rfl) :
  PE X (.Call (.Attribute o m apos) (e::es) [] pos) (Bd C m sp dvs E ta t):=by
 intro pins s σ H Q I h;refine PySem.W.methodCall_KW (pl:=pl) (bH (he pins s σ H _ I h) fun u s1 ⟨x,H1,I1,rx,a,dx,fs,ex,ea,l,q⟩=>?_) ht;subst ex;obtain rfl:u=Value.ref a:=rx;refine o4 I1 ea c hm l ?_;refine Os (first:=[.ref a]) (h₀:=X.base) I.ok.mod.kin hm.kp (bH (ha pos pins s1 σ H1 _ I1 q) fun us s2 ⟨vs,H2,I2,r,q2⟩=>⟨I2.kIn,?_⟩) hst hpl;exact Cn (us:=.ref a::us) (vs:=.ref a::vs) F hr hb hd hx I2 (.cons rfl r) q2
theorem FV {pl:Sem Bool}(he:PE X o ta)(c:Bq X.K C)(hm:GK X.K C m f)(F:aZ X.prog X.w X.K X.mg X.base CX k f fd ps sp)(hr:cH k X.A)(hb:fU X.K fd ps ds)(hd:bw dvs ds)(hx:fY CX X E)
  (ht:eval (.Call (.Attribute o m apos) [] [] pos) X.env=(do
   let ov <-eval o X.env
   standAt apos.atName
   let (f,first) <-holding [ov] (getMethod ov m pl)
   callWith pos f first (backTo pos (starEach [] X.env)) (backToKw pos (keywordEach [] X.env))):=by rfl) :
  PE X (.Call (.Attribute o m apos) [] [] pos) (Bd C m sp dvs E ta wu):=by
 intro pins s σ H Q I h;refine PySem.W.methodCall_KW (pl:=pl) (bH (he pins s σ H _ I h) fun u s1 ⟨x,H1,I1,rx,a,dx,fs,ex,ea,l,q⟩=>?_) ht;subst ex;obtain rfl:u=Value.ref a:=rx;refine o4 I1 ea c hm l ?_;exact PySem.W.callWith_K0 (first:=[.ref a]) I1.kIn hm.kp (Cn (us:=[.ref a]) (vs:=[.ref a]) F hr hb hd hx I1 (.cons rfl .nil) q)
structure Mk (K:PySem.W.Frag)(C f:Addr):Prop where
 makes:PySem.W.makesIn K C=true
 init:PySem.W.findIn K (.ref C) "__init__" = some (some (.ref f))
 fn:PySem.W.isFn K (.ref f)=true
 kp:PySem.W.keepIn K (.ref C)=true
theorem A3 {pins:List (Addr×Obj)}{σ:St}{H:Hp}{s:Shared}{Q:VK}{us:List Value}{vs:List V}(M:Mk X.K C f)(F:aZ X.prog X.w X.K X.mg X.base CX k f fd ps sp)(hr:cH (k+1) X.A)(hb:fU X.K fd ps ds)(hd:bw dvs ds)
  (hx:fY CX X E) (I:aK X pins σ H s) (r:bw vs us)
  (h:∀ x dx,H x=none->H dx=none->dx≠x->sp (.ref x::(vs++dvs)) (upd (upd H dx (.own x)) x (.ins C dx [])) (fun v H2=>v=.non/\Q (.ref x) H2) E) :
  wpAny (model X.prog X.w) X.A (call (.ref C) us) (EP X pins σ Q) X.xe s:=by
 have hq:=h (s.heap.objs.size+1) s.heap.objs.size (I.hok.fresh (Nat.le_succ _)) (I.hok.fresh (Mn _)) (MB (Nat.lt_succ_self _));have I2:=aK.made (C:=C) I;have r2:bw (V.ref (s.heap.objs.size+1)::(vs++dvs)) (Value.ref (s.heap.objs.size+1)::(us++ds)):=.cons rfl (r.append hd)
 have hl:(Value.ref (s.heap.objs.size+1)::us++ds).length=ps.length:=by
  have e:=r2.length;rw[F.len _ _ _ _ hq]at e;exact e.symm
 refine wpAny_call (FA (f:=f) I.kIn M.makes M.init (Oq.mp M.fn) (Oa (F.run _ X.stack _ _ ⟨Value.ref (s.heap.objs.size+1)::us,[]⟩ (Value.ref (s.heap.objs.size+1)::(us++ds)) _ _ E (hr.make C us [])
  (I2.env0.make C us []) (hb _ (Value.ref (s.heap.objs.size+1)::us) I2.kIn hl) r2 hq) fun r s' hq'=>?_))
 cases r with
 | error e=>exact hx pins σ _ _ e s' I2 hq'
 | ok fl =>
  cases fl with
  | ret u =>
   obtain⟨v,H',I3,rv,ev,q3⟩:=I2.after hq';subst ev;exact⟨rv,⟨V.ref (s.heap.objs.size+1),H',I3,rfl,q3⟩⟩
  | next=>exact False.elim hq'
  | brk=>exact False.elim hq'
  | cont=>exact False.elim hq'
theorem Hl (M:Mk X.K C f)(F:aZ X.prog X.w X.K X.mg X.base CX k f fd ps sp)(hr:cH (k+1) X.A)(hg:Gl X x)(hm:X.mg x=some (.ref C))(hb:fU X.K fd ps ds)(hd:bw dvs ds)(hx:fY CX X E)
  (ha:PA X (e::es) t) (hdb:(x == ("__debug__" : Str))=false:=by decide) (he:starEach (e::es) X.env=(false,eval e X.env)::starEach es X.env:=by rfl) (hpl:(backTo pos (starEach es X.env)).any (·.1)=false:=by rfl) :
  PE X (.Call (.Name x p) (e::es) [] pos) (Do C sp dvs E t):=by
 intro pins s σ H Q I h;refine Nn (fC I hg hm ?_ hdb);refine Os (h₀:=X.base) I.ok.mod.kin M.kp (bH (ha pos pins s σ H _ I h) fun us s1 ⟨vs,H1,I1,r,q⟩=>⟨I1.kIn,?_⟩) he hpl;exact A3 M F hr hb hd hx I1 r q
theorem FU (M:Mk X.K C f)(F:aZ X.prog X.w X.K X.mg X.base CX k f fd ps sp)(hr:cH (k+1) X.A)(hg:Gl X x)(hm:X.mg x=some (.ref C))(hb:fU X.K fd ps ds)(hd:bw dvs ds)(hx:fY CX X E)
  (hdb:(x == ("__debug__" : Str))=false:=by decide):PE X (.Call (.Name x p) [] [] pos) (Do C sp dvs E wu):=by
 intro pins s σ H Q I h;refine Nn (fC I hg hm ?_ hdb);exact PySem.W.callWith_K0 I.kIn M.kp (A3 (us:=[]) M F hr hb hd hx I .nil h)
end
section
variable {X:Cx}{CX:zF}{k:Nat}{f C:Addr}{fd:FuncData}{ps ks:List Str}{sp:Sp}{E:XK}{x m:Str}{p pos apos kpos:Pos}{e o:Expr}{es:List Expr}{kws:List Keyword}{te ta:TE}{t tk:TA}{nm:Option Str}
variable {g:List Value->List Value->List Value}{gV:List V->List V->List V}
end
structure av (N P:List Str)(sc:Scope):Prop where
 kind:sc.kind=.function
 co:sc.isCoroutine=false
 gen:sc.isGenerator=false
 nd:N.Nodup
 pre:N.take P.length=P
 par:∀ x∈P,sc.names.lookup x=some .local\/sc.names.lookup x=some .cell
 nofree:∀ y∈sc.names,y.2≠.free
theorem xH {kindOf:Str->Option NameKind}{x:Str}:∀ {binds:List (Str×Value)}{m:Str->Option Value},(∀ v,(x,v)∉binds)->bindL kindOf binds m x=m x
 | [],_,_=>rfl
 | (n,v)::r,m,h=>by
  unfold bindL;rw[xH fun w hw=>h w (Mh _ hw)];split
  ·have:x≠n:=by rintro rfl;exact h v Mm
   simp[this]
  ·rfl
theorem xE {kindOf:Str->Option NameKind}{x:Str}:∀ {binds:List (Str×Value)}{m:Str->Option Value},(∀ v,(x,v)∉binds)->bindC kindOf binds m x=m x
 | [],_,_=>rfl
 | (n,v)::r,m,h=>by
  unfold bindC;rw[xE fun w hw=>h w (Mh _ hw)];split
  ·rfl
  ·have:x≠n:=by rintro rfl;exact h v Mm
   simp[this]
theorem xG {kindOf:Str->Option NameKind}{x:Str}{v:Value}:∀ {P:List Str}{vs:List Value}{i:Nat}{m:Str->Option Value},P.Nodup->P[i]? = some x->vs[i]? = some v->kindOf x=some .local ->
  bindL kindOf (P.zip vs) m x=some v
 | [],_,_,_,_,h,_,_=>by simp at h
 | _::_,[],_,_,_,_,h,_=>by simp at h
 | p::P,w::vs,0,m,nd,h1,h2,hk=>by
  simp at h1 h2;subst h1;subst h2
  show bindL kindOf ((p,w)::P.zip vs) m p=_
  unfold bindL;rw[xH fun v hv=>(MN.mp nd).1 (List.of_mem_zip hv).1,Mi hk];simp
 | p::P,w::vs,i+1,m,nd,h1,h2,hk=>by
  show bindL kindOf ((p,w)::P.zip vs) m x=_
  unfold bindL;exact xG (i:=i) (MN.mp nd).2 (by simpa using h1) (by simpa using h2) hk
theorem xD {kindOf:Str->Option NameKind}{x:Str}{v:Value}:∀ {P:List Str}{vs:List Value}{i:Nat}{m:Str->Option Value},P.Nodup->P[i]? = some x->vs[i]? = some v->kindOf x≠some .local ->
  bindC kindOf (P.zip vs) m x=some v
 | [],_,_,_,_,h,_,_=>by simp at h
 | _::_,[],_,_,_,_,h,_=>by simp at h
 | p::P,w::vs,0,m,nd,h1,h2,hk=>by
  simp at h1 h2;subst h1;subst h2
  show bindC kindOf ((p,w)::P.zip vs) m p=_
  unfold bindC;rw[xE fun v hv=>(MN.mp nd).1 (List.of_mem_zip hv).1,Mg hk];simp
 | p::P,w::vs,i+1,m,nd,h1,h2,hk=>by
  show bindC kindOf ((p,w)::P.zip vs) m x=_
  unfold bindC;exact xD (i:=i) (MN.mp nd).2 (by simpa using h1) (by simpa using h2) hk
def qM (N:List Str)(vs:List V):St:=vs.map some++List.replicate (N.length-vs.length) none
def uR (CX:zF)(P:Program)(w:World)(K:PySem.W.Frag)(mg:Str->Option Value)(base:Heap)(N:List Str)(qual:Str)(scope:Scope)(f:Addr)(cd:Value)(A:Around)(outer:List Env)(s:Shared)(H:Hp)(E:XK):Cx where
 prog:=P
 w:=w
 K:=K
 mg:=mg
 base:=base
 A:=A.deeper (envOfC qual scope s.heap.objs.size f cd)
 N:=N
 s₀:=s
 H₀:=H
 env:=envOfC qual scope s.heap.objs.size f cd
 outer:=outer
 stack:=envOfC qual scope s.heap.objs.size f cd::outer
 ex:=[]
 calm:=true
 fn:=fun _=>true
 pn:=[]
 xe:=fun e s'=>wpAny (model P w) (A.deeper (envOfC qual scope s.heap.objs.size f cd)) (leaving (envOfC qual scope s.heap.objs.size f cd) e) (fun _ s''=>CX outer H s E e s'') (fun e' s''=>CX outer H s E e' s'') s'
theorem zS {sc:Scope}{n:Nat}{x:Str}(h:sc.names.lookup x=some .cell):∃ c,(cellsFrom n sc.names []).lookup x=some c:=by
 have q:=PySem.W.cellsFrom_some sc.names n [] (.inl h);exact MY.mp q
theorem DO {CX:zF}{P:Program}{w:World}{K:PySem.W.Frag}{mg:Str->Option Value}{base:Heap}{N ps:List Str}{qual:Str}{scope:Scope}{f:Addr}{cd:Value}{A:Around}{outer:List Env}{s s1:Shared}{H:Hp}{E:XK}{us:List Value}{vs:List V}
  (S:av N ps scope) (hd:A.handled=none) (e0:Br P w K mg base A outer s H) (hl:vs.length=ps.length) (r:bw vs us)
  (x:InCallC s s.heap.objs.size (bindL (envOfC qual scope s.heap.objs.size f cd).kindOf (ps.zip us) fun _=>none) (cellsFrom (s.heap.objs.size+1) scope.names []) (bindC (envOfC qual scope s.heap.objs.size f cd).kindOf (ps.zip us) fun _=>none) s1) :
  aK (uR CX P w K mg base N qual scope f cd A outer s H E) [] (qM N vs) H s1:=by
 have hpl:ps.length<=N.length:=by have:=Ng List.length S.pre;rw[Mz]at this;omega
 obtain⟨h1,tk,rfl,hk⟩:=x.done;have noA:∀ b:Addr,b∉(uR CX P w K mg base N qual scope f cd A outer s H E).ex:=fun b z=>absurd (show b∈([]:List Addr) from z) (by simp)
 refine⟨⟨e0.mod,S.kind,rfl,rfl,Mn _,fun y z c h1 h2=>?_,fun y hy=>?_,fun y c _ h=>?_,fun _=>hd,Around.frames_deeper e0.frames,.inr ⟨rfl,rfl⟩,fun b z=>absurd z (noA b),e0.bs,e0.bsz,fun b _ _=>noA b,fun b z=>absurd z (noA b),e0.funs,e0.frf⟩,
  rfl,e0.bare,Un.kept hk,⟨_,x.toInCall.ns,fun i y v h1 h2 h3=>?_⟩,fun y c h=>⟨_,x.cell y c h⟩,e0.hok.fresh (Mn _),fun y c h=>?_,fun p hp=>absurd (show p∈([]:List (Addr×Obj)) from hp) (by simp),e0.hok.kept hk,?_⟩
 ·exact name_of_addr x.apart (N4 h1) (N4 h2)
 ·have hy:scope.names.lookup y=some .cell\/scope.names.lookup y=some .free:=hy
  rcases hy with hy | hy
  ·exact zS hy
  ·exact absurd rfl (S.nofree _ (N4 hy))
 ·exact Nz (x.above y c (N4 h))
 ·have hi:i<vs.length:=by
   unfold qM at h2
   by_cases hi:i<vs.length
   ·exact hi
   ·rw[List.getElem?_append_right (by simpa using hi)]at h2
    rw[List.getElem?_replicate]at h2;split at h2<;>cases h2
  have ha:vs[i]? = some v:=by
   unfold qM at h2;rw[List.getElem?_append_left (by simpa using hi),List.getElem?_map]at h2
   cases e:vs[i]? with
   | none=>rw[e]at h2;cases h2
   | some a=>rw[e]at h2;cases h2;rfl
  obtain⟨u,hu,rv⟩:=r.get ha
  have hp:ps[i]? = some y:=by
   rw[<-S.pre,List.getElem?_take_of_lt (by omega)];exact h1
  have ndP:ps.Nodup:=by rw[<-S.pre];exact S.nd.sublist (List.take_sublist _ _)
  refine⟨u,rv,?_⟩;rcases S.par y (MA hp) with k | k
  ·exact .inl ⟨k,xG ndP hp hu k⟩
  ·obtain⟨c,e⟩:=zS (n:=s.heap.objs.size+1) k
   refine .inr ⟨.inl k,c,e,?_⟩;have q:=x.cell y c e;rw[xD ndP hp hu (by show scope.names.lookup y≠_;rw[k];decide)]at q;exact q
 ·exact e0.hok.fresh (Nz (x.above y c (N4 h)))
 ·unfold qM
  show _=N.length
  rw[Mj,Me,List.length_replicate];omega
theorem HS {CX:zF}{P:Program}{w:World}{K:PySem.W.Frag}{mg:Str->Option Value}{base:Heap}{k:Nat}{f:Addr}{name qual:Str}{params:Arguments}{body:List Stmt}{scope:Scope}{dV kV doc pm cdv ct oc:Value}{an od:Option Addr}
  {osl:Array (Option Value)} {N ps:List Str} {sp:Sp} (lk:K.lookup f=some ⟨oc,od,.func (PySem.W.fnOf name qual params body scope dV kV doc pm an cdv ct),osl⟩) (hcd:PySem.W.codeIn K cdv qual=true) (S:av N ps scope)
  (len:∀ vs H Q E,sp vs H Q E->vs.length=ps.length)
  (hbody:∀ (A:Around)(outer:List Env)(s:Shared)(H:Hp)(vs:List V)(Q:VK)(E:XK),cH k (A.deeper (envOfC qual scope s.heap.objs.size f cdv))->sp vs H Q E ->
   ∃ t,zK (uR CX P w K mg base N qual scope f cdv A outer s H E) body t/\t { nx:=fun _ H'=>Q .non H',rt:=Q } (qM N vs) H) :
  aZ P w K mg base CX (k+1) f (PySem.W.fnOf name qual params body scope dV kV doc pm an cdv ct) ps sp:=by
 refine⟨len,fun A outer s H args us vs Q E hr e0 hb r hsp=>?_⟩;have hl:=len _ _ _ _ hsp;have KX:K.In s.heap:=e0.mod.kin.keeps fun b o e=>(e0.bs b o e).1;have lim:s.heap.NoLimit:=e0.mod.nolimit.keeps fun b o e=>(e0.bs b o e).1
 have hkind:∀ y∈ps.zip us,scope.names.lookup y.1=some .local\/(scope.names.lookup y.1=some .cell/\((cellsFrom (s.heap.objs.size+1) scope.names []).lookup y.1).isSome=true):=fun ⟨n,v⟩ hy=>by
  rcases S.par n (List.of_mem_zip hy).1 with q | q
  ·exact .inl q
  ·exact .inr ⟨q,PySem.W.cellsFrom_some _ _ _ (.inl q)⟩
 refine codeAny_call_function hr.depth (KX _ _ lk) rfl S.co S.gen rfl (PySem.W.codeRec_of KX hcd) (hb _ _ _ _ ?_);refine wpAny_newFunctionEnv_cells S.kind hkind fun env he s1 x=>?_;subst he;refine⟨lim.keeps x.toInCall.keep,codeAny_func ?_⟩;obtain⟨t,ht,hq⟩:=hbody A outer s H vs Q E (hr.deeper _) hsp;have I:aK (uR CX P w K mg base N qual scope f cdv A outer s H E) [] (qM N vs) H s1:=DO S hr.hd e0 hl r x;refine MP (ht [] s1 (qM N vs) H _ I hq) (fun fl s' hs=>?_) fun e s' hs=>hs
 have fin:∀ {σ':St}{H':Hp}{v:V}{u:Value},aK (uR CX P w K mg base N qual scope f cdv A outer s H E) [] σ' H' s'->bu v u->Q v H'->CE outer P w H s Q u s' :=
  fun {σ' H' v u} J rv q=>⟨v,H',J.os,J.bare,J.base,J.hok,rv,q⟩
 cases fl with
 | ret u =>
  obtain⟨v,σ',H',J,rv,q⟩:=hs;exact fin J rv q
 | next =>
  obtain⟨σ',H',J,q⟩:=hs;exact fin (v:=V.non) (u:=Value.none) J rfl q
 | brk =>
  obtain⟨_,_,_,q⟩:=hs;exact False.elim q
 | cont =>
  obtain⟨_,_,_,q⟩:=hs;exact False.elim q
section
variable {X:Cx}{x:Str}{p pos:Pos}{e:Expr}{es:List Expr}{t:TA}{id T:String}{r:List V->Hp->VK->Prop}
def Ls (r:List V->Hp->VK->Prop)(t:TA):TE:=fun σ H Q=>t σ H fun vs H1=>r vs H1 Q
theorem be (hc:kJ X (.builtin id) r)(hg:Gl X x)(hm:X.mg x=none)(hv:bootBuiltins x=some (.builtin id))(ha:PA X (e::es) t)(hn:x≠"__name__":=by decide)(hdb:(x == ("__debug__" : Str))=false:=by decide)
  (he:starEach (e::es) X.env=(false,eval e X.env)::starEach es X.env:=by rfl) (hpl:(backTo pos (starEach es X.env)).any (·.1)=false:=by rfl):PE X (.Call (.Name x p) (e::es) [] pos) (Ls r t):=by
 intro pins s σ H Q I h;refine Nn (lW I hg hm hv ?_ hn hdb);exact PyProof.Rows.callWith_builtin1 (bH (ha pos pins s σ H _ I h) fun us s1 ⟨vs,H1,I1,r1,q1⟩=>hc pins s1 σ H1 vs us Q I1 r1 q1) he hpl
theorem dC (hc:kJ X (.type T) r)(hg:Gl X x)(hm:X.mg x=none)(hv:bootBuiltins x=some (.type T))(ha:PA X (e::es) t)(hn:x≠"__name__":=by decide)(hdb:(x == ("__debug__" : Str))=false:=by decide)
  (he:starEach (e::es) X.env=(false,eval e X.env)::starEach es X.env:=by rfl) (hpl:(backTo pos (starEach es X.env)).any (·.1)=false:=by rfl):PE X (.Call (.Name x p) (e::es) [] pos) (Ls r t):=by
 intro pins s σ H Q I h;refine Nn (lW I hg hm hv ?_ hn hdb);exact NP (bH (ha pos pins s σ H _ I h) fun us s1 ⟨vs,H1,I1,r1,q1⟩=>hc pins s1 σ H1 vs us Q I1 r1 q1) he hpl
theorem Cg (hc:kJ X (.type T) r)(hg:Gl X x)(hm:X.mg x=none)(hv:bootBuiltins x=some (.type T))(hn:x≠"__name__":=by decide)(hdb:(x == ("__debug__" : Str))=false:=by decide) :
  PE X (.Call (.Name x p) [] [] pos) (Ls r wu):=by
 intro pins s σ H Q I h;refine Nn (lW I hg hm hv ?_ hn hdb);exact PyProof.Rows.callWith_type0 (hc pins s σ H [] [] Q I .nil h)
end
end L2
namespace HT
open PySem PyProof.Rows
section
open PySem.SeqAt
open PySem.AutoSeq1 (wpAny_loadPart')
open PySem.MeetsSeq PySem.MeetsSeq2 PySem.MeetsSeq3
end
section
variable {prog:Program}{w:World}{A:Around}{E:Value->Shared->Prop}{s:Shared}
def sIx (n d:Nat):Option Int->Nat
 | none=>d
 | some v=>if v<0 then (v+(n:Int)).toNat else min v.toNat n
theorem sIx_none (n d:Nat):sIx n d none=d:=rfl
theorem sIx_nat (n d k:Nat):sIx n d (some (k:Int))=min k n:=by
 show (if (k:Int)<0 then ((k:Int)+(n:Int)).toNat else min (k:Int).toNat n)=min k n
 rw[Mg (by omega),Int.toNat_natCast]
theorem Jk (n d:Nat)(hd:d<=n)(o:Option Int):sIx n d o<=n:=by
 cases o with
 | none=>exact hd
 | some v =>
  show (if v<0 then (v+(n:Int)).toNat else min v.toNat n)<=n
  by_cases hv:v<0
  ·rw[Mi hv];omega
  ·rw[Mg hv];exact Nat.min_le_right _ _
theorem CI (v:Int)(n d:Nat):(if v<0 then max (v+(n:Int)) 0 else min v (n:Int))=((sIx n d (some v):Nat):Int):=by
 show (if v<0 then max (v+(n:Int)) 0 else min v (n:Int))=(((if v<0 then (v+(n:Int)).toNat else min v.toNat n):Nat):Int)
 by_cases hv:v<0
 ·simp only[Mi hv];omega
 ·simp only[Mg hv];omega
theorem Bv (lo hi:Option Int)(n:Nat):Builtin.Slice.sliceAdjust lo hi 1 (n:Int)=(((sIx n 0 lo:Nat):Int),((sIx n n hi:Nat):Int)):=by
 have h1:¬ ((1:Int)<0):=by omega
 unfold Builtin.Slice.sliceAdjust;simp only[h1,OA];refine Prod.ext ?_ ?_
 ·cases lo with
  | none=>rfl
  | some v=>exact CI v n 0
 ·cases hi with
  | none=>rfl
  | some v=>exact CI v n n
theorem Cj (i j:Nat):Builtin.Slice.slicePlaces (i:Int) (j:Int) 1=j-i:=by
 unfold Builtin.Slice.slicePlaces
 have h1:(1:Int)>0:=by omega
 simp only[h1,if_true,Int.ediv_one];split<;>omega
theorem v6 {v:Value}{o:Option Int}{Q:Option Int->Shared->Prop}(p:IsPart v o)(h:Q o s):wpAny (model prog w) A (Builtin.Slice.slicePartIndex v) Q E s:=by
 cases p with
 | none=>exact slicePart_none h
 | int i t=>exact slicePart_int h
theorem rW {sl:Addr}{vl vu:Value}{lo hi:Option Int}{n:Nat}{Q:Int×Int×Nat->Shared->Prop}(hs:s.heap.IsSliceOf sl vl vu .none)(pl:IsPart vl lo)(pu:IsPart vu hi)
  (h:Q (((sIx n 0 lo:Nat):Int),1,sIx n n hi-sIx n 0 lo) s):wpAny (model prog w) A (Builtin.Slice.sliceApplied (.ref sl) (pure (n:Int))) Q E s:=by
 obtain⟨os,hos,hcs,hds⟩:=id hs;unfold Builtin.Slice.sliceApplied Builtin.Slice.sliceFields;refine Mf (Mf (Ox hos hds (x:=vl) rfl (Mf (Ox hos hds (x:=vu) rfl (Mf (Ox hos hds (x:=.none) rfl (Mq ?_)))))));refine Mf (slicePart_none ?_)
 show wpAny _ _ (if ((1:Int) == 0)=true then _ else _) _ _ s
 rw[Mg (by decide)];refine Mf (v6 pl (Mf (v6 pu (Mf (Mq ?_)))))
 show wpAny _ _ (match Builtin.Slice.sliceAdjust lo hi 1 (n:Int) with | (lo,hi)=>pure (lo,(1:Int),Builtin.Slice.slicePlaces lo hi 1)) _ _ s
 rw[Bv lo hi n]
 show wpAny _ _ (pure (((sIx n 0 lo:Nat):Int),(1:Int),Builtin.Slice.slicePlaces ((sIx n 0 lo:Nat):Int) ((sIx n n hi:Nat):Int) 1)) _ _ s
 rw[Cj];exact Mq h
theorem F5 (xs:Array Value)(i k:Nat):((List.range k).filterMap fun (m:Nat)=>xs[((i:Int)+(m:Int)*1).toNat]?).toArray=((xs.toList.drop i).take k).toArray:=by
 have e:(fun (m:Nat)=>xs[((i:Int)+(m:Int)*1).toNat]?)=fun m=>xs[i+m]?:=by
  funext m
  have:((i:Int)+(m:Int)*1).toNat=i+m:=by omega
  rw[this]
 rw[e];have:=pick_run xs i k;rw[List.filterMap_map]at this;have e2:((fun x=>xs[x]?) ∘ fun x=>i+x)=fun m=>xs[i+m]?:=rfl;rw[e2]at this;rw[this]
theorem getItem_tuple_cut {t sl:Addr}{items:Array Value}{vl vu:Value}{lo hi:Option Int}{Q:Value->Shared->Prop}(ht:IsTup s.heap t items)(hs:s.heap.IsSliceOf sl vl vu .none)(pl:IsPart vl lo)(pu:IsPart vu hi)
  (hw:¬ (sIx items.size 0 lo=0/\sIx items.size items.size hi=items.size))
  (h:Q (.ref s.heap.objs.size) { s with heap:=s.heap.push { cls:=.type "tuple",data:=.seq ((items.toList.drop (sIx items.size 0 lo)).take (sIx items.size items.size hi-sIx items.size 0 lo)).toArray } })
  (hsz:items.size<=sizeLine):wpAny (model prog w) A (getItem (.ref t) (.ref sl)) Q E s:=by
 have htake:sizeOk (.seq ((items.toList.drop (sIx items.size 0 lo)).take (sIx items.size items.size hi-sIx items.size 0 lo)).toArray):=by
  show ((items.toList.drop (sIx items.size 0 lo)).take (sIx items.size items.size hi-sIx items.size 0 lo)).toArray.size<=sizeLine
  rw[My,Mz,M7,N3];omega
 have hj:sIx items.size items.size hi<=items.size:=Jk _ _ (Mn _) hi;obtain⟨os,hos,hcs,hds⟩:=id hs;have hTs:s.TypeIs (.ref sl) "slice":=⟨os,hos,hcs⟩;unfold getItem
 try with_reducible refine NA ?_
 first | refine Mf (Mq ?_) | skip
 refine Mf (wpAny_sequenceKey ht.typeIs (by decide) ?_)
 refine Mf (wpAny_callSpecial?_slot (name:=Str.ofString "__getitem__") ht.typeIs PyProof.Rows.slot_tuple_getitem
  (N6 PyProof.Rows.slot_tuple_getitem ht.typeIs entry_tuple_getitem ?_ (args_tuple_getitem _ _)))
 show wpAny _ _ (Builtin.Tuple.tupleItemsOf (.ref t) >>= _) _ _ s
 refine Mf (tupleItemsOf_ ht ?_);refine Mf (wpAny_typeOf hTs ?_);rw[Mi (by decide)];refine Mf (rW hs pl pu ?_)
 have hno:¬ ((((sIx items.size 0 lo:Nat):Int) == 0&&(1:Int) == 1&&(sIx items.size items.size hi-sIx items.size 0 lo) == items.size)=true):=by
  intro q;rw[N7,N7]at q;have q1:((sIx items.size 0 lo:Nat):Int)=0:=eq_of_beq q.1.1;have q2:sIx items.size items.size hi-sIx items.size 0 lo=items.size:=eq_of_beq q.2;exact hw ⟨by omega,by omega⟩
 show wpAny _ _ (if (((sIx items.size 0 lo:Nat):Int) == 0&&(1:Int) == 1&&(sIx items.size items.size hi-sIx items.size 0 lo) == items.size)=true then _ else _) _ _ s
 rw[Mg hno,F5]
 first
  | exact Mf (m:=Builtin.Tuple.tupleExact _) (Ni (Mq ⟨_,rfl,Mq h⟩) htake)
  | exact Mf (m:=Builtin.Tuple.tupleExact _) (Ni (Mf (Mq (Mq ⟨_,rfl,Mq h⟩))) htake)
  | exact Mf (Mf (m:=Builtin.Tuple.tupleExact _) (Ni (Mq (Mq ⟨_,rfl,Mq h⟩)) htake))
  | exact Mf (Mf (m:=Builtin.Tuple.tupleExact _) (Ni (Mq ⟨_,rfl,Mq h⟩) htake))
end
end HT
namespace L2
open PySem PySem.Spec PyProof.Rows
abbrev TO:=St->Hp->(Option Int->Hp->Prop)->Prop
def PO (X:Cx)(e:Option Expr)(t:TO):Prop :=
 ∀ (pins:List (Addr×Obj))(s:Shared)(σ:St)(H:Hp)(Q:Option Int->Hp->Prop),aK X pins σ H s->t σ H Q ->
  wpAny (model X.prog X.w) X.A (evalPart e X.env) (fun u s'=>∃ o H',aK X pins σ H' s'/\IsPart u o/\Q o H') X.xe s
def Dp:TO:=fun _ H Q=>Q none H
def Kr (t:TE):TO:=fun σ H Q=>t σ H fun x H1=>∃ i,x=.int i/\Q (some i) H1
section
variable {X:Cx}{e:Expr}{te:TE}{lo hi:Option Expr}{tl th:TO}{pos p2:Pos}
theorem cm:PO X none Dp:=by
 intro pins s σ H Q I h;rw[evalPart_none];exact Mq ⟨none,H,I,.none,h⟩
theorem bS (h:PE X e te):PO X (some e) (Kr te):=by
 intro pins s σ H Q I hw;rw[evalPart_some];refine bH (h pins s σ H _ I hw) fun u s1 ⟨x,H1,I1,r1,q1⟩=>?_;obtain⟨i,rfl,q⟩:=q1;obtain⟨t,rfl⟩:=r1;exact⟨some i,H1,I1,.int i t,q⟩
def KU (X:Cx)(r:V->Option Int->Option Int->Hp->VK->Prop):Prop :=
 ∀ (pins:List (Addr×Obj))(s:Shared)(σ:St)(H:Hp)(x:V)(v vl vu:Value)(lo hi:Option Int)(sl:Addr)(Q:VK),aK X pins σ H s->bu x v->s.heap.IsSliceOf sl vl vu .none->IsPart vl lo->IsPart vu hi->r x lo hi H Q ->
  ∃ T id,typeLookup (.type T) "__getitem__" = pure (some (.builtin id))/\s.TypeIs v T/\wpAny (model X.prog X.w) X.A (getItem v (.ref sl)) (EP X pins σ Q) X.xe s
def L8 (r:V->Option Int->Option Int->Hp->VK->Prop)(te:TE)(tl th:TO):TE:=fun σ H Q=>te σ H fun x H1=>tl σ H1 fun l H2=>th σ H2 fun u H3=>r x l u H3 Q
theorem bI {r:V->Option Int->Option Int->Hp->VK->Prop}(hr:KU X r)(he:PE X e te)(hl:PO X lo tl)(hu:PO X hi th):PE X (.Subscript e (.Slice lo hi none p2) pos) (L8 r te tl th):=by
 intro pins s σ H Q I h;refine Subscript_ (bH (he pins s σ H _ I h) fun v s1 ⟨x,H1,I1,r1,q1⟩=>?_);refine wpAny_Slice (bH (hl pins s1 σ H1 _ I1 q1) fun vl s2 ⟨l,H2,I2,pl,q2⟩=>bH (hu pins s2 σ H2 _ I2 q2) fun vu s3 ⟨u,H3,I3,pu,q3⟩=>?_);rw[evalPart_none];refine Mq ?_;have I4:aK X pins σ H3 { s3 with heap:=s3.heap.push { cls:=.type "slice",data:=.fields #[vl,vu,.none] } }:=I3.kept (t':=s3.toks) fun b ob q=>Heap.get?_push_of_some _ q;obtain⟨T,id,hT,ht,hg⟩:=hr pins { s3 with heap:=s3.heap.push { cls:=.type "slice",data:=.fields #[vl,vu,.none] } } σ H3 x v vl vu l u s3.heap.objs.size Q I4 r1 (Heap.IsSliceOf.new ..) pl pu q3
 show wpAny (model X.prog X.w) X.A (subscriptTail e (.Slice lo hi none p2) v (.ref s3.heap.objs.size)) (EP X pins σ Q) X.xe { s3 with heap:=s3.heap.push { cls:=.type "slice",data:=.fields #[vl,vu,.none] } }
 exact tail_any (ops:=[.ref s3.heap.objs.size,v]) ht hT hg (by with_unfolding_all rfl)
def gR (xs:List V)(lo hi:Option Int):List V:=(xs.drop (HT.sIx xs.length 0 lo)).take (HT.sIx xs.length xs.length hi-HT.sIx xs.length 0 lo)
theorem sV (xs:List V)(lo hi:Option Int):(gR xs lo hi).length<=xs.length:=by
 unfold gR;rw[Mz,M7];omega
def Lo (K:PySem.W.Frag):V->Option Int->Option Int->Hp->VK->Prop:=fun x lo hi H Q=>∃ a xs,x=.ref a/\eZ K H a xs /\
 ¬ (HT.sIx xs.length 0 lo=0/\HT.sIx xs.length xs.length hi=xs.length)/\∀ p,H p=none->Q (.ref p) (upd H p (.tup (gR xs lo hi)))
theorem Jm:KU X (Lo X.K):=by
 intro pins s σ H x v vl vu lo hi sl Q I rx hs pl pu h;obtain⟨a,xs,rfl,hx,hw,q⟩:=h;cases rx;obtain⟨its,r,ht,hz⟩:=I.tuple hx
 have hlen:its.toArray.size=xs.length:=by rw[My];exact r.length.symm
 refine⟨"tuple",_,PyProof.Rows.slot_tuple_getitem.lookup,ht.typeIs,?_⟩;refine HT.getItem_tuple_cut ht hs pl pu (by rw[hlen];exact hw) ?_ (by rw[hlen];exact hz);rw[hlen];refine⟨.ref s.heap.objs.size,_,I.laid (t':=s.toks) (o:=.tup (gR xs lo hi)) (fun b ob q=>Heap.get?_push_of_some _ q) (Mn _) ?_,rfl,q _ (I.hok.fresh (Mn _))⟩;exact⟨MZ (sV xs lo hi) hz,_,(r.drop (HT.sIx xs.length 0 lo)).take (HT.sIx xs.length xs.length hi-HT.sIx xs.length 0 lo),IsTup.new _ _⟩
end
def HW (n:Nat)(i:Int):Option Nat:=if 0<=i then (if i<n then some i.toNat else none) else if -(n:Int)<=i then some (i+n).toNat else none
def Bo {α:Type}(xs:List α)(i:Int):Option α:=(HW xs.length i).bind fun j=>xs[j]?
theorem G7 {n:Nat}{i:Int}{j:Nat}(h:HW n i=some j):seqIndex? i n=some j/\j<n/\-(n:Int)<=i/\i<n:=by
 unfold HW at h
 by_cases h0:0<=i
 ·rw[Mi h0]at h
  by_cases h1:i<n
  ·rw[Mi h1]at h
   have e:i.toNat=j:=Mu h;exact⟨by rw[seqIndex_of h0 h1,e],by omega,by omega,h1⟩
  ·rw[Mg h1]at h;cases h
 ·rw[Mg h0]at h
  by_cases h1 : -(n:Int)<=i
  ·rw[Mi h1]at h
   have e:(i+n).toNat=j:=Mu h;exact⟨by rw[seqIndex_neg (by omega) h1,e],by omega,h1,by omega⟩
  ·rw[Mg h1]at h;cases h
theorem CG {α:Type}{xs:List α}{i:Int}{v:α}(h:Bo xs i=some v):∃ j,seqIndex? i xs.length=some j/\xs[j]? = some v/\j<xs.length/\-(xs.length:Int)<=i/\i<xs.length:=by
 unfold Bo at h
 cases e:HW xs.length i with
 | none=>rw[e]at h;cases h
 | some j =>
  rw[e]at h;obtain⟨h1,h2,h3,h4⟩:=G7 e;exact⟨j,h1,h,h2,h3,h4⟩
theorem fz {α:Type}{xs:List α}{j:Nat}{v:α}(h:xs[j]? = some v):Bo xs (j:Int)=some v:=by
 have hj:j<xs.length:=(List.getElem?_eq_some_iff.mp h).1
 have e:HW xs.length (j:Int)=some j:=by
  unfold HW;rw[Mi (by omega),Mi (by omega)];simp
 unfold Bo;rw[e];exact h
theorem pR {α:Type}(xs:List α)(v:α):Bo (xs++[v]) (-1)=some v:=by
 have hl:(xs++[v]).length=xs.length+1:=by simp
 have e:HW (xs++[v]).length (-1)=some xs.length:=by
  unfold HW;rw[hl,Mg (by decide),Mi (by omega)]
  congr 1
  omega
 unfold Bo;rw[e]
 show (xs++[v])[xs.length]? = some v
 simp
def GL (b:Expr):Prop:=∀ o i,subscripted b false o i=operate [o,i] (getItem o i)
def JN (X:Cx)(r:R2):Prop :=
 ∀ (value slice:Expr)(pins:List (Addr×Obj))(s:Shared)(σ:St)(H:Hp)(x y:V)(v u:Value)(Q:VK),aK X pins σ H s->bu x v->bu y u->r x y H Q ->
  subscripted slice false v u=operate [v,u] (getItem v u)->wpAny (model X.prog X.w) X.A (subscriptTail value slice v u) (EP X pins σ Q) X.xe s
def LX (X:Cx)(id:String)(r:V->List V->Hp->VK->Prop):Prop :=
 ∀ (pins:List (Addr×Obj))(s:Shared)(σ:St)(H:Hp)(x:V)(xs:List V)(v:Value)(us:List Value)(Q:VK),aK X pins σ H s->bu x v->bw xs us->r x xs H Q ->
  wpAny (model X.prog X.w) X.A (call (.builtin id) (v::us)) (EP X pins σ Q) X.xe s
section
variable {X:Cx}{a b:Expr}{ta tb:TE}{pos:Pos}
theorem bv {r:R2}(hr:JN X r)(ha:PE X a ta)(hb:PE X b tb)(hs:GL b):PE X (.Subscript a b pos) (JG r ta tb):=by
 intro pins s σ H Q I h;exact Subscript_ (ID ha hb I h fun v u s2 x y H2 I2 rx ry q=>hr a b pins s2 σ H2 x y v u Q I2 rx ry q (hs _ _))
inductive LJ (K:PySem.W.Frag) (x y:V) (H:Hp) (Q:VK):Prop
 | mk (p:Addr) (xs:List V) (i:Int) (v:V) (e1:x=.ref p) (e2:y=.int i) (q:aW K H p xs) (a:Bo xs i=some v) (h:Q v H):LJ K x y H Q
def Ke (K:PySem.W.Frag):R2:=fun x y H Q=>LJ K x y H Q
inductive LK (K:PySem.W.Frag) (x y:V) (H:Hp) (Q:VK):Prop
 | mk (p:Addr) (xs:List V) (i:Int) (v:V) (e1:x=.ref p) (e2:y=.int i) (q:eZ K H p xs) (a:Bo xs i=some v) (h:Q v H):LK K x y H Q
def Hv (K:PySem.W.Frag):R2:=fun x y H Q=>LK K x y H Q
theorem cQ:JN X (Ke X.K):=by
 intro value slice pins s σ H x y v u Q I rx ry h hs;obtain⟨p,xs,i,z,rfl,rfl,hq,he,q⟩:=h;cases rx;obtain⟨t,rfl⟩:=ry;obtain⟨its,r,pl,hz⟩:=I.list hq;obtain⟨j,h1,h2,h3,h4,h5⟩:=CG he;obtain⟨w,ew,rw'⟩:=r.get h2;have hl:=r.length;have hn:=yA;have fin:EP X pins σ Q w s:=⟨z,H,I,rw',q⟩
 by_cases h0:0<=i
 ·have hj:i.toNat=j:=by
   rw[seqIndex_of h0 h5]at h1;exact Mu h1
  exact item_listR pl.isList h0 (by omega) (by rw[hj];simpa using ew) fin hs
 ·have hj:(i+(its.toArray.size:Int)).toNat=j:=by
   rw[seqIndex_neg (by omega) h4]at h1;rw[My,<-hl];exact Mu h1
  exact subscriptTail_builtinR (x:=w) pl.isList.typeIs slot_list_getitem.lookup
   (wpAny_getItem_list_neg (Q:=fun r s'=>r=w/\EP X pins σ Q r s') pl.isList (by omega) (by rw[My]<;>omega) (by omega) (by rw[hj];simpa using ew) ⟨rfl,fin⟩) hs
theorem bF:JN X (Hv X.K):=by
 intro value slice pins s σ H x y v u Q I rx ry h hs;obtain⟨p,xs,i,z,rfl,rfl,hq,he,q⟩:=h;cases rx;obtain⟨t,rfl⟩:=ry;obtain⟨its,r,pl,hz⟩:=I.tuple hq;obtain⟨j,h1,h2,h3,h4,h5⟩:=CG he;obtain⟨w,ew,rw'⟩:=r.get h2;have hl:=r.length;have hn:=yA;have fin:EP X pins σ Q w s:=⟨z,H,I,rw',q⟩
 exact subscriptTail_builtinR (x:=w) pl.typeIs slot_tuple_getitem.lookup
  (getItem_tuple (j:=j) (Q:=fun r s'=>r=w/\EP X pins σ Q r s') pl (by omega) (by omega) (by rw[My,<-hl];exact h1) (by simpa using ew) ⟨rfl,fin⟩) hs
theorem zm (lo hi:Option Int)(n:Nat):(sliceBounds lo hi none n).1=((HT.sIx n 0 lo:Nat):Int)/\(sliceBounds lo hi none n).2.1=((HT.sIx n n hi:Nat):Int)/\(sliceBounds lo hi none n).2.2=1:=by
 refine⟨?_,?_,rfl⟩
 ·cases lo with
  | none=>simp[sliceBounds,HT.sIx]
  | some i =>
   simp only[sliceBounds,HT.sIx,Option.getD_none,show (1:Int)>0 by decide,if_true]
   by_cases h:i<0
   ·simp only[h,if_true]<;>omega
   ·simp only[h,OA]<;>omega
 ·cases hi with
  | none=>simp[sliceBounds,HT.sIx]
  | some i =>
   simp only[sliceBounds,HT.sIx,Option.getD_none,show (1:Int)>0 by decide,if_true]
   by_cases h:i<0
   ·simp only[h,if_true]<;>omega
   ·simp only[h,OA]<;>omega
theorem xn (its:List Value)(lo hi:Option Int):slicePick its.toArray lo hi none=((its.drop (HT.sIx its.length 0 lo)).take (HT.sIx its.length its.length hi-HT.sIx its.length 0 lo)).toArray:=by
 obtain⟨h1,h2,h3⟩:=zm lo hi its.toArray.size;unfold slicePick;rw[h1,h2,h3];simp only[sliceRange_one,pick_run,My]<;>rfl
inductive Ga (K:PySem.W.Frag) (x:V) (lo:Option Int) (hi:Option Int) (H:Hp) (Q:VK):Prop
 | mk (a:Addr) (xs:List V) (h_0:x=.ref a) (h_1:aW K H a xs) (h_2:∀ p,H p=none->Q (.ref p) (upd H p (.lst (gR xs lo hi)))):Ga K x lo hi H Q
theorem b8:KU X (Ga X.K):=by
 intro pins s σ H x v vl vu lo hi sl Q I rx hs pl pu h;obtain⟨a,xs,rfl,hx,q⟩:=h;cases rx;obtain⟨its,r,ht,hz⟩:=I.list hx;have hlen:=r.length;refine⟨"list",_,slot_list_getitem.lookup,ht.isList.typeIs,?_⟩;refine wpAny_getItem_list_slice ht.isList hs pl pu .none (by simp) ?_ (by rw[My]<;>omega);rw[xn,<-hlen];refine⟨.ref s.heap.objs.size,_,I.laid (t':=s.toks) (o:=.lst (gR xs lo hi)) (fun b ob q=>Heap.get?_push_of_some _ q) (Mn _) ?_,rfl,q _ (I.hok.fresh (Mn _))⟩;exact⟨MZ (sV xs lo hi) hz,_,0,(r.drop (HT.sIx xs.length 0 lo)).take (HT.sIx xs.length xs.length hi-HT.sIx xs.length 0 lo),Heap.get?_push_size _ rfl⟩
def pV:V->Bool
 | .non=>true
 | .bl _=>true
 | .int _=>true
 | .str _=>true
 | _=>false
def E9:V->V->Bool
 | .non,.non=>true
 | .bl a,.bl b=>a == b
 | .bl a,.int b=>(if a then 1 else 0) == b
 | .int a,.bl b=>a == (if b then 1 else 0)
 | .int a,.int b=>a == b
 | .str a,.str b=>a == b
 | _,_=>false
theorem E7 {A:Around}{s:Shared}{y x:V}{u v:Value}(ry:bu y u)(rx:bu x v)(fy:pV y=true)(fx:pV x=true):SeqAt.EqAt A s u v (E9 y x):=by
 cases y with
 | non =>
  cases ry
  cases x with
  | non=>cases rx;exact SeqAt.EqAt.same _
  | bl b=>cases rx;exact SeqAt.EqAt.none_bool b
  | int b=>obtain⟨t,rfl⟩:=rx;exact SeqAt.EqAt.none_int b t
  | str b=>obtain⟨t,rfl⟩:=rx;exact SeqAt.EqAt.none_str b t
  | _=>exact absurd (show false=true from fx) Mt
 | bl a =>
  cases ry
  cases x with
  | non=>cases rx;exact SeqAt.EqAt.bool_none a
  | bl b=>cases rx;exact SeqAt.EqAt.bool_bool a b
  | int b=>obtain⟨t,rfl⟩:=rx;exact SeqAt.EqAt.bool_int a b t
  | str b=>obtain⟨t,rfl⟩:=rx;exact SeqAt.EqAt.bool_str a b t
  | _=>exact absurd (show false=true from fx) Mt
 | int a =>
  obtain⟨t',rfl⟩:=ry
  cases x with
  | non=>cases rx;exact SeqAt.EqAt.int_none a t'
  | bl b=>cases rx;exact SeqAt.EqAt.int_bool a t' b
  | int b=>obtain⟨t,rfl⟩:=rx;exact SeqAt.EqAt.int_int a t' b t
  | str b=>obtain⟨t,rfl⟩:=rx;exact SeqAt.EqAt.int_str a t' b t
  | _=>exact absurd (show false=true from fx) Mt
 | str a =>
  obtain⟨t',rfl⟩:=ry
  cases x with
  | non=>cases rx;exact SeqAt.EqAt.str_none a t'
  | bl b=>cases rx;exact SeqAt.EqAt.str_bool a t' b
  | int b=>obtain⟨t,rfl⟩:=rx;exact SeqAt.EqAt.str_int a t' b t
  | str b=>obtain⟨t,rfl⟩:=rx;exact SeqAt.EqAt.str_str a t' b t
  | _=>exact absurd (show false=true from fx) Mt
 | _=>exact absurd (show false=true from fy) Mt
def GU (x:V)(u:Value):Bool:=match u with
 | .none=>E9 .non x
 | .bool b=>E9 (.bl b) x
 | .int i _=>E9 (.int i) x
 | .str z _=>E9 (.str z) x
 | _=>false
theorem E8 {x y:V}{u:Value}(r:bu y u)(f:pV y=true):GU x u=E9 y x:=by
 cases y with
 | non=>cases r;rfl
 | bl b=>cases r;rfl
 | int i=>obtain⟨t,rfl⟩:=r;rfl
 | str z=>obtain⟨t,rfl⟩:=r;rfl
 | _=>exact absurd (show false=true from f) Mt
theorem yf {x:V}:∀ {xs:List V}{us:List Value},bw xs us->xs.all pV=true->us.any (GU x)=xs.any fun y=>E9 y x
 | _,_,.nil,_=>rfl
 | y::xs,u::us,.cons r t,f=>by
  rw[List.all_cons,N7]at f;rw[N2,N2,E8 r f.1,yf t f.2]
theorem ve {A:Around}{s:Shared}{x:V}{v:Value}(rx:bu x v)(fx:pV x=true):∀ {xs:List V}{us:List Value},bw xs us->xs.all pV=true->∀ u∈us,SeqAt.EqAt A s u v (GU x u)
 | _,_,.nil,_=>fun u hu=>by cases hu
 | y::xs,u::us,.cons r t,f=>fun u' hu=>by
  rw[List.all_cons,N7]at f;rcases Ms.mp hu with rfl | hu
  ·rw[E8 r f.1];exact E7 r rx f.1 fx
  ·exact ve rx fx t f.2 u' hu
def Ld (x:V)(xs:List V):Bool:=xs.any fun y=>E9 y x
inductive Ln (K:PySem.W.Frag) (neg:Bool) (x:V) (y:V) (H:Hp) (Q:VK):Prop
 | mk (p:Addr) (xs:List V) (h_0:y=.ref p) (h_1:(aW K H p xs\/eZ K H p xs)) (h_2:pV x=true) (h_3:xs.all pV=true) (h_4:Q (.bl (if neg then !Ld x xs else Ld x xs)) H):Ln K neg x y H Q
theorem Ed:sR X (compareOp .In) (Ln X.K false):=by
 intro pins s σ H x y v u Q I rx ry h;obtain⟨p,xs,rfl,hq,fx,fs,q⟩:=h;cases ry;rcases hq with hq | hq
 ·obtain⟨its,r,pl,hz⟩:=I.list hq
  refine SeqAt.in_listAt (GU x) pl.isList (fun w hw=>ve rx fx r fs w (by simpa using hw)) ⟨.bl _,H,I,rfl,?_⟩;rw[show its.toArray.any (GU x)=its.any (GU x) by simp,yf r fs];exact q
 ·obtain⟨its,r,pl,hz⟩:=I.tuple hq
  refine SeqAt.in_tupleAt (GU x) pl (fun w hw=>ve rx fx r fs w (by simpa using hw)) ⟨.bl _,H,I,rfl,?_⟩;rw[show its.toArray.any (GU x)=its.any (GU x) by simp,yf r fs];exact q
theorem bB:kJ X (.builtin "len") (fun xs H Q=>∃ p ys,xs=[.ref p]/\(aW X.K H p ys\/eZ X.K H p ys)/\Q (.int ys.length) H):=by
 intro pins s σ H xs us Q I r h;obtain⟨p,ys,rfl,hq,q⟩:=h;obtain⟨u,rfl,rx⟩:=wz r;cases rx;have hn:=yA;rcases hq with hq | hq
 ·obtain⟨its,r',pl,hz⟩:=I.list hq
  have hlen:=r'.length;exact Calls.call_len_list pl.isList (by simp only[My]<;>omega) ⟨.int ys.length,H,I.tok _,⟨s.toks+1,by rw[My,hlen]⟩,q⟩
 ·obtain⟨its,r',pl,hz⟩:=I.tuple hq
  have hlen:=r'.length;exact len_tuple pl (by simp only[My]<;>omega) ⟨.int ys.length,H,I.tok _,⟨s.toks+1,by rw[My,hlen]⟩,q⟩
theorem dR:kJ X (.type "list") (fun xs H Q=>∃ p ys,xs=[.ref p]/\(aW X.K H p ys\/eZ X.K H p ys)/\∀ l,H l=none->Q (.ref l) (upd H l (.lst ys))):=by
 intro pins s σ H xs us Q I r h;obtain⟨p,ys,rfl,hq,q⟩:=h;obtain⟨u,rfl,rx⟩:=wz r;cases rx
 have fin:∀ (its:List Value),bw ys its->ys.length<=sizeLine->∀ (h':Heap)(c':Nat),(∀ b o',s.heap.get? b=some o'->h'.get? b=some o') ->
   h'.get? s.heap.objs.size=some { cls:=.type "list",dict:=none,data:=.seq its.toArray c',slots:=#[] }->EP X pins σ Q (.ref s.heap.objs.size) { s with heap:=h' }:=fun its r' hz h' c' kp e =>
  ⟨.ref s.heap.objs.size,_,I.laid (t':=s.toks) kp (Mn _) (show bD X.prog X.w _ h' _ (.lst ys) from ⟨hz,its,c',r',e⟩),rfl,q _ (I.hok.fresh (Mn _))⟩
 rcases hq with hq | hq
 ·obtain⟨its,r',pl,hz⟩:=I.list hq
  have hlen:=r'.length;obtain⟨o,ho,hc,n,hd⟩:=pl.isList;exact call_list_seq p (.inl rfl) ho hc hd (fun h' c' kp e=>fin its r' hz h' c' kp e) (by simp only[My]<;>omega)
 ·obtain⟨its,r',pl,hz⟩:=I.tuple hq
  have hlen:=r'.length;obtain⟨o,ho,hc,n,hd⟩:=pl;exact call_list_seq p (.inr rfl) ho hc hd (fun h' c' kp e=>fin its r' hz h' c' kp e) (by simp only[My]<;>omega)
def LV (K:PySem.W.Frag)(T:String)(x:V)(H:Hp):Prop:=match x with
 | .str _=>T="str"
 | .int _=>T="int"
 | .ref p=>(T="list"/\∃ xs,aW K H p xs)\/(T="tuple"/\∃ o,K.lookup p=some o/\o.cls=.type "tuple"/\o.dict=none) \/
   (T="dict"/\((∃ kvs,H p=some (.dK kvs))\/∃ kvs,H p=some (.dT kvs)))\/(T="set"/\∃ S n,H p=some (.set S n))
 | _=>False
theorem JB {pins:List (Addr×Obj)}{σ:St}{H:Hp}{s:Shared}{T:String}{x:V}{v:Value}(I:aK X pins σ H s)(r:bu x v)(ty:LV X.K T x H) :
  s.TypeIs v T/\∀ a,v=.ref a->∃ ob,s.heap.get? a=some ob/\ob.dict=none:=by
 cases x with
 | str z =>
  obtain⟨t,rfl⟩:=r;cases (show T="str" from ty);exact⟨typeIs_str s z t,fun _ e=>nomatch e⟩
 | int i =>
  obtain⟨t,rfl⟩:=r;cases (show T="int" from ty);exact⟨typeIs_int s i t,fun _ e=>nomatch e⟩
 | ref p =>
  cases r;rcases ty with ⟨rfl,xs,hq⟩ | ⟨rfl,o,hk,hc,hd⟩ | ⟨rfl,hk⟩ | ⟨rfl,S,n,hk⟩
  ·obtain⟨its,_,pl,_⟩:=I.list hq
   refine⟨pl.isList.typeIs,fun a e=>?_⟩;cases e;obtain⟨o,n,e,c,hd,_⟩:=pl;exact⟨o,e,hd⟩
  ·refine⟨⟨o,I.kIn p o hk,hc⟩,fun a e=>?_⟩
   cases e;exact⟨o,I.kIn _ o hk,hd⟩
  ·have z:∃ o,s.heap.get? p=some o/\o.ExactDict:=by
    rcases hk with ⟨kvs,hk⟩ | ⟨kvs,hk⟩
    ·obtain⟨_,_,_,_,o,_,_,e,ex,_⟩:=I.hok p _ hk
     exact⟨o,e,ex⟩
    ·obtain⟨_,_,_,_,o,_,_,e,ex,_⟩:=I.hok p _ hk
     exact⟨o,e,ex⟩
   obtain⟨o,e,ex⟩:=z;refine⟨⟨o,e,ex.1⟩,fun a e2=>?_⟩;cases e2;exact⟨o,e,ex.2.1⟩
  ·obtain⟨o,_,_,_,e,ex,_⟩:=I.hok p _ hk
   refine⟨⟨o,e,ex.1⟩,fun a e2=>?_⟩;cases e2;exact⟨o,e,ex.2.1⟩
 | _=>exact False.elim ty
def L4 (K:PySem.W.Frag)(T:String)(r:V->List V->Hp->VK->Prop)(to:TE)(t:TA):TE:=fun σ H Q=>to σ H fun x H1=>LV K T x H1/\t σ H1 fun xs H2=>r x xs H2 Q
variable {o e:Expr}{es:List Expr}{to:TE}{t:TA}{name:Str}{apos cpos:Pos}{T id:String}{r:V->List V->Hp->VK->Prop}
theorem eB (pa:PlainAttrs T)(slot:Slot T name id)(hty:typeOf (.builtin id)=pure (.type "method_descriptor"))(hm:LX X id r)(ho:PE X o to)(ha:PA X (e::es) t)
  (hbase:attributeBase o name X.env (eval o X.env)=eval o X.env:=by rfl)
  (hfew:((backTo cpos (starEach (e::es) X.env)).all (fun x=>!x.1)&&(backToKw cpos (keywordEach [] X.env)).all (fun x=>x.1.isSome)
   && decide ((e::es).length+([]:List Keyword).length+(if ([]:List Keyword).isEmpty then 0 else 1)<30))=true:=by rfl)
  (hline:(apos.endLine == cpos.line)=true:=by rfl) (hs:starEach (e::es) X.env=(false,eval e X.env)::starEach es X.env:=by rfl) (hplain:(backTo cpos (starEach es X.env)).any (·.1)=false:=by rfl) :
  PE X (.Call (.Attribute o name apos) (e::es) [] cpos) (L4 X.K T r to t):=by
 intro pins s σ H Q I h;refine wpAny_Call_method_late hbase hfew hline rfl (bH (ho pins s σ H _ I h) fun v s1 ⟨x,H1,I1,r1,ty,q1⟩=>?_);obtain⟨h1,h2⟩:=JB I1 r1 ty;refine⟨T,id,pa,slot,hty,h1,h2,?_⟩;have hA:=ha cpos pins s1 σ H1 _ I1 q1;rw[hs]at hA ⊢;refine N9 (by show (false||(backTo cpos (starEach es X.env)).any (·.1))=false;rw[hplain]<;>rfl) (NX ?_);exact bH hA fun us s2 ⟨vs,H2,I2,r2,q2⟩=>hm pins s2 σ H2 x vs v us Q I2 r1 r2 q2
end
def KR (X:Cx)(id:String)(r:V->List V->Hp->VK->Prop):Prop :=
 ∀ (pins:List (Addr×Obj))(s:Shared)(σ:St)(H:Hp)(x:V)(xs:List V)(v:Value)(us:List Value)(Q:VK),aK X pins σ H s->bu x v->bw xs us->r x xs H Q ->
  wpAny (model X.prog X.w) X.A (call (.builtin id) (v::us)) (EP X pins σ Q) X.xe s
theorem bw.one:∀ {x:V}{us:List Value},bw [x] us->∃ u,us=[u]/\bu x u
 | _,_,.cons r .nil=>⟨_,rfl,r⟩
theorem bw.two:∀ {x y:V}{us:List Value},bw [x,y] us->∃ u v,us=[u,v]/\bu x u/\bu y v
 | _,_,_,.cons r (.cons q .nil)=>⟨_,_,rfl,r,q⟩
section
variable {X:Cx}{pins:List (Addr×Obj)}{σ:St}{H:Hp}{s:Shared}{l b:Addr}{xs ys zs:List V}
theorem aK.lset {its its':List Value}{n:Nat}{f:Array Value->Array Value}{t':Nat}(I:aK X pins σ H s)(hH:H l=some (.lst xs))
  (e:s.heap.get? l=some { cls:=.type "list",data:=.seq its.toArray n }) (hf:f its.toArray=its'.toArray) (hv:bw ys its') (hz:ys.length<=sizeLine) :
  aK X pins σ (upd H l (.lst ys)) { s with heap:=s.heap.update l (Obj.mapSeq f),toks:=t' }:=by
 have q:=PySem.IsL.update e f;rw[hf]at q;refine I.write (x:=l) (e:=l) (by rw[hH];exact trivial) (.inl rfl) (fun b' u hb hu=>(Heap.get?_update_other s.heap (Obj.mapSeq f) (ME hb)).trans hu) ⟨_,q⟩ ?_;exact⟨hz,its',_,hv,q⟩
theorem aK.lnew {its:List Value}{t':Nat}(I:aK X pins σ H s)(hv:bw ys its)(hz:ys.length<=sizeLine) :
  aK X pins σ (upd H s.heap.objs.size (.lst ys)) { s with heap:=s.heap.push { cls:=.type "list",data:=.seq its.toArray },toks:=t' } :=
 I.laid (fun _ _ q=>Heap.get?_push_of_some _ q) (Mn _) ⟨hz,its,0,hv,Heap.get?_push_size _ rfl⟩
theorem aK.fresh (I:aK X pins σ H s):H s.heap.objs.size=none:=I.hok.fresh (Mn _)
theorem aK.lstM (I:aK X pins σ H s)(hH:H l=some (.lst xs)):xs.length<=sizeLine/\∃ (its:List Value)(n:Nat),bw xs its/\xs.length=its.length/\s.heap.get? l=some { cls:=.type "list",data:=.seq its.toArray n }:=by
 obtain⟨z,its,n,r,e⟩:=I.hok l _ hH;exact⟨z,its,n,r,r.length,e⟩
theorem FJ {n:Nat}(h:n<=sizeLine):Builtin.List.listTooLong n=false:=by
 unfold Builtin.List.listTooLong;exact Mx (by omega)
end
section
variable {X:Cx}
inductive De (x:V) (vs:List V) (H:Hp) (Q:VK):Prop
 | mk (l:Addr) (xs:List V) (y:V) (h_0:x=.ref l) (h_1:vs=[y]) (h_2:H l=some (.lst xs)) (h_3:xs.length<sizeLine) (h_4:Q .non (upd H l (.lst (xs++[y])))):De x vs H Q
theorem bM:KR X "list.append" De:=by
 intro pins s σ H x vs v us Q I rx rv h;obtain⟨l,xs,y,rfl,rfl,hH,hz,q⟩:=h;cases rx;obtain⟨u,rfl,ru⟩:=rv.one;obtain⟨z,its,n,r,hl,e⟩:=I.lstM hH;refine call_meets F.slot_list_append ⟨_,e,rfl⟩ F.entry_list_append (F.args_list_append_2 _ _) (PySem.list_append l its.toArray n u (by rw[My];omega)) ⟨e,?_⟩;refine⟨.non,_,I.lset (its':=its++[u]) hH e (by simp) (r.append (.cons ru .nil)) ?_,rfl,q⟩;rw[Mj,MU];omega
inductive Df (x:V) (vs:List V) (H:Hp) (Q:VK):Prop
 | mk (l b:Addr) (xs zs:List V) (h_0:x=.ref l) (h_1:vs=[.ref b]) (h_2:H l=some (.lst xs)) (h_3:H b=some (.lst zs)) (h_4:xs.length+zs.length<=sizeLine) (h_5:Q .non (upd H l (.lst (xs++zs)))):Df x vs H Q
theorem nv:KR X "list.extend" Df:=by
 intro pins s σ H x vs v us Q I rx rv h;obtain⟨l,b,xs,zs,rfl,rfl,hH,hB,hz,q⟩:=h;cases rx;obtain⟨u,rfl,ru⟩:=rv.one;cases ru;obtain⟨z,its,n,r,hl,e⟩:=I.lstM hH;obtain⟨z2,its2,n2,r2,hl2,e2⟩:=I.lstM hB
 have hsz:its.toArray.size+its2.toArray.size<=sizeLine:=by rw[My,My];omega
 have hlong:¬ (!its.toArray.isEmpty&&Builtin.List.listTooLong (its.toArray.size+its2.toArray.size))=true:=by
  rw[FJ hsz,Bool.and_false];exact Mt
 refine call_meets F.slot_list_extend ⟨_,e,rfl⟩ F.entry_list_extend (F.args_list_extend_2 _ _)
  (AutoSeq1.list_extend_list_list_0 l its.toArray n b its2.toArray n2 hlong (by rw[My];omega) (by omega)) ⟨e,e2,?_⟩
 refine⟨.non,_,I.lset (its':=its++its2) hH e (by simp) (r.append r2) ?_,rfl,q⟩;rw[Mj];omega
inductive Jg (x:V) (y:V) (H:Hp) (Q:VK):Prop
 | mk (l b:Addr) (xs zs:List V) (h_0:x=.ref l) (h_1:y=.ref b) (h_2:H l=some (.lst xs)) (h_3:H b=some (.lst zs)) (h_4:xs.length+zs.length<=sizeLine) (h_5:∀ p,H p=none->Q (.ref p) (upd H p (.lst (xs++zs)))):Jg x y H Q
theorem fE:sR X (binaryOp .Add) Jg:=by
 intro pins s σ H x y v u Q I rx ry h;obtain⟨l,b,xs,zs,rfl,rfl,hH,hB,hz,q⟩:=h;cases rx;cases ry;obtain⟨z,its,n,r,hl,e⟩:=I.lstM hH;obtain⟨z2,its2,n2,r2,hl2,e2⟩:=I.lstM hB;refine PySem.P.add_list e e2 ?_ (by rw[My,My];omega)
 have ea:its.toArray++its2.toArray=(its++its2).toArray:=by simp
 rw[ea];exact⟨.ref _,_,I.lnew (t':=s.toks) (r.append r2) (by rw[Mj];omega),rfl,q _ I.fresh⟩
end
section
variable {prog:Program}{w:World}{A:Around}{E:Value->Shared->Prop}{s:Shared}
end
section
variable {X:Cx}
end
section
variable {κ:Type} [DecidableEq κ]
def dI (kvs:List (κ×V))(k:κ):Option V:=(kvs.find? fun kv=>decide (kv.1=k)).map (·.2)
def gL (kvs:List (κ×V))(k:κ)(v:V):List (κ×V) :=
 if (kvs.any fun kv=>decide (kv.1=k))=true then kvs.map (fun kv=>if kv.1=k then (kv.1,v) else kv) else kvs++[(k,v)]
def uV (kvs:List (κ×V))(k:κ):List (κ×V):=kvs.filter fun kv=>decide (kv.1≠k)
theorem nc {p:κ×V}{r:List (κ×V)}{k:κ}(e:p.1=k):dI (p::r) k=some p.2:=by simp[dI,List.find?_cons,e]
theorem jI {p:κ×V}{r:List (κ×V)}{k:κ}(e:¬ p.1=k):dI (p::r) k=dI r k:=by simp[dI,List.find?_cons,e]
theorem m9 (k:κ):∀ kvs:List (κ×V),(kvs.any fun kv=>decide (kv.1=k))=(dI kvs k).isSome
 | []=>rfl
 | p::r=>by
  rw[N2]
  by_cases e:p.1=k
  ·simp only[nc e,Mp e,Bool.true_or,Option.isSome_some]
  ·rw[jI e,Mx e,Bool.false_or];exact m9 k r
theorem i8 (kvs:List (κ×V))(k:κ)(v:V):(gL kvs k v).length<=kvs.length+1:=by
 unfold gL;split
 ·rw[Me];omega
 ·rw[Mj,MX,List.length_nil];omega
theorem AX {kvs:List (κ×V)}{k:κ}(v:V)(h:dI kvs k=none):gL kvs k v=kvs++[(k,v)]:=by
 unfold gL;rw[m9,h];exact Mg (by decide)
theorem jx.isSome_eq {o:Option V}{u:Option Value}(r:jx o u):o.isSome=u.isSome:=by
 cases o with
 | none=>cases u with
  | none=>rfl
  | some _=>exact (show False from r).elim
 | some _=>cases u with
  | none=>exact (show False from r).elim
  | some _=>rfl
theorem jx.getD {o:Option V}{u:Option Value}{d:V}{d':Value}(r:jx o u)(rd:bu d d'):bu (o.getD d) (u.getD d'):=by
 cases o with
 | none=>cases u with
  | none=>exact rd
  | some _=>exact (show False from r).elim
 | some _=>cases u with
  | none=>exact (show False from r).elim
  | some _=>exact r
theorem KV.val {kvs:List (κ×V)}{vs:List (κ×Value)}(r:KV kvs vs)(k:κ):jx (dI kvs k) (valueAt vs k):=by
 unfold KV at r
 induction r with
 | nil=>exact True.intro
 | @cons p q ps qs h t ih =>
  obtain⟨h1,h2⟩:=h
  by_cases e:p.1=k
  ·have e':q.1=k:=h1.symm.trans e
   have b:valueAt (q::qs) k=some q.2:=by simp[valueAt,List.find?_cons,e']
   rw[nc e,b];exact h2
  ·have e':¬ q.1=k:=fun z=>e (h1.trans z)
   have b:valueAt (q::qs) k=valueAt qs k:=by simp[valueAt,List.find?_cons,e']
   rw[jI e,b];exact ih
theorem KV.any {kvs:List (κ×V)}{vs:List (κ×Value)}(r:KV kvs vs)(k:κ):(kvs.any fun kv=>decide (kv.1=k))=vs.any fun kv=>decide (kv.1=k):=by
 unfold KV at r
 induction r with
 | nil=>rfl
 | cons h t ih=>rw[N2,N2,ih,h.1]
theorem KV.repl {kvs:List (κ×V)}{vs:List (κ×Value)}(r:KV kvs vs)(k:κ){y:V}{u:Value}(ry:bu y u) :
  KV (kvs.map fun kv=>if kv.1=k then (kv.1,y) else kv) (vs.map fun kv=>if kv.1=k then (kv.1,u) else kv):=by
 unfold KV at r ⊢
 induction r with
 | nil=>exact .nil
 | @cons p q ps qs h t ih =>
  rw[MQ,MQ];refine .cons ?_ ih;obtain⟨h1,h2⟩:=h
  by_cases e:p.1=k
  ·rw[Mi e,Mi (h1.symm.trans e)];exact⟨h1,ry⟩
  ·rw[Mg e,Mg (fun z=>e (h1.trans z))];exact⟨h1,h2⟩
theorem KV.put {kvs:List (κ×V)}{vs:List (κ×Value)}(r:KV kvs vs)(k:κ){y:V}{u:Value}(ry:bu y u):KV (gL kvs k y) (stored vs k u):=by
 unfold gL stored;rw[r.any k]
 by_cases e:(vs.any fun kv=>decide (kv.1=k))=true
 ·rw[Mi e,Mi e];exact r.repl k ry
 ·rw[Mg e,Mg e];exact Paired.snoc r ⟨rfl,ry⟩
theorem KV.drop {kvs:List (κ×V)}{vs:List (κ×Value)}(r:KV kvs vs)(k:κ):KV (uV kvs k) (without vs k):=by
 unfold KV at r ⊢;unfold uV without
 induction r with
 | nil=>exact .nil
 | @cons p q ps qs h t ih =>
  obtain⟨h1,h2⟩:=h;rw[List.filter_cons,List.filter_cons]
  by_cases e:p.1=k
  ·have a:¬ decide (p.1≠k)=true:=by simp[e]
   have b:¬ decide (q.1≠k)=true:=by simp[h1.symm.trans e]
   rw[Mg a,Mg b];exact ih
  ·have e':¬ q.1=k:=fun z=>e (h1.trans z)
   have a:decide (p.1≠k)=true:=by simp[e]
   have b:decide (q.1≠k)=true:=by simp[e']
   rw[Mi a,Mi b];exact .cons ⟨h1,h2⟩ ih
theorem KV.keys {kvs:List (κ×V)}{vs:List (κ×Value)}(r:KV kvs vs):kvs.map (·.1)=vs.map (·.1):=by
 unfold KV at r
 induction r with
 | nil=>rfl
 | cons h t ih=>rw[MQ,MQ,ih,h.1]
theorem KV.length {kvs:List (κ×V)}{vs:List (κ×Value)}(r:KV kvs vs):kvs.length=vs.length:=Mo r
theorem EZ (kvs:List (κ×V))(k:κ):(uV kvs k).length<=kvs.length:=NE _ _
end
theorem p8 {P:Program}{w:World}{k:cf}{u:Value}(r:bu (kV k) u):(bz P w).is k u=true:=by
 cases k with
 | inl i=>obtain⟨t,e⟩:=(show ∃ t,u=Value.int i t from r);subst e;exact Aj P w i t
 | inr x=>obtain⟨t,e⟩:=(show ∃ t,u=Value.str x t from r);subst e;exact Ak P w x t
theorem xO {P:Program}{w:World}:∀ {ks:List cf}{us:List Value},bw (ks.map kV) us->ItemsAre (bz P w) ks us
 | [],_,r=>by rw[List.map_nil]at r;cases r;exact .nil
 | k::ks,_,r=>by
  rw[MQ]at r
  cases r with
  | cons h t=>exact .cons (p8 h) (xO t)
abbrev KT (H:Hp):List (List cf×V)->List (List cf×Addr×Value)->Prop:=Paired fun p q=>p.1=q.1/\H q.2.1=some (.tup (p.1.map kV))/\bu p.2 q.2.2
theorem KT.val {H:Hp}{kvs:List (List cf×V)}{xs:List (List cf×Addr×Value)}(r:KT H kvs xs)(k:List cf):jx (dI kvs k) ((atKey xs k).map (·.2)):=by
 induction r with
 | nil=>exact True.intro
 | @cons p q ps qs h t ih =>
  obtain⟨h1,_,h2⟩:=h
  by_cases e:p.1=k
  ·have e':q.1=k:=h1.symm.trans e
   have b:atKey (q::qs) k=some q.2:=by simp[atKey,List.find?_cons,e']
   rw[nc e,b];exact h2
  ·have e':¬ q.1=k:=fun z=>e (h1.trans z)
   have b:atKey (q::qs) k=atKey qs k:=by simp[atKey,List.find?_cons,e']
   rw[jI e,b];exact ih
theorem KT.repl {H:Hp}{kvs:List (List cf×V)}{xs:List (List cf×Addr×Value)}(r:KT H kvs xs)(k:List cf){y:V}{u:Value}(ry:bu y u) :
  KT H (kvs.map fun kv=>if kv.1=k then (kv.1,y) else kv) (xs.map (putAt k u)):=by
 induction r with
 | nil=>exact .nil
 | @cons p q ps qs h t ih =>
  rw[MQ,MQ];refine .cons ?_ ih;obtain⟨h1,h2,h3⟩:=h;unfold putAt
  by_cases e:p.1=k
  ·rw[Mi e,Mi (h1.symm.trans e)];exact⟨h1,h2,ry⟩
  ·rw[Mg e,Mg (fun z=>e (h1.trans z))];exact⟨h1,h2,h3⟩
theorem KT.put {H:Hp}{kvs:List (List cf×V)}{xs:List (List cf×Addr×Value)}(r:KT H kvs xs)(k:List cf){b:Addr}{y:V}{u:Value}(hb:H b=some (.tup (k.map kV)))(ry:bu y u) :
  KT H (gL kvs k y) (storedH xs k b u):=by
 have e:(kvs.any fun kv=>decide (kv.1=k))=(atKey xs k).isSome:=by
  rw[m9,(r.val k).isSome_eq,Oh]
 unfold gL storedH;rw[e]
 by_cases q:(atKey xs k).isSome=true
 ·rw[Mi q,Mi q];exact r.repl k ry
 ·rw[Mg q,Mg q];exact Paired.snoc r ⟨rfl,hb,ry⟩
theorem KT.keeps {H H':Hp}{kvs:List (List cf×V)}{xs:List (List cf×Addr×Value)}(r:KT H kvs xs)(ht:∀ b ys,H b=some (.tup ys)->H' b=some (.tup ys)):KT H' kvs xs :=
 Paired.mapP r fun _ _ z=>⟨z.1,ht _ _ z.2.1,z.2.2⟩
section
variable {P:Program}{w:World}{H:Hp}{h:Heap}{a:Addr}
theorem Ih {u:HO}(ok:kS P w H h)(e:Rd H a u):bD P w H h a u:=e.ok ok
theorem uU {kvs:List (cf×V)}(ok:kS P w H h)(e:Rd H a (.dK kvs)):kvs.length<=sizeLine/\(a == sysModules)=false/\∃ vs,KV kvs vs/\h.DictOf (bz P w) a vs :=
 show bD P w H h a (.dK kvs) from Ih ok e
theorem CN {kvs:List (cf×V)}(ok:kS P w H h)(e:H a=some (.dK kvs)):kvs.length<=sizeLine/\(a == sysModules)=false/\∃ vs,KV kvs vs/\h.DictOf (bz P w) a vs:=uU ok (.inl e)
theorem rg {ks:List cf}(ok:kS P w H h)(e:H a=some (.tup (ks.map kV))):(tupleKind (bz P w)).is h ks a:=by
 obtain⟨_,its,r,o,h1,h2,n,h3⟩:=(show bD P w H h a (.tup (ks.map kV)) from ok a _ e);exact⟨o,its.toArray,n,h1,h2,h3,by simpa using xO r⟩
theorem uX {kvs:List (List cf×V)}(ok:kS P w H h)(e:Rd H a (.dT kvs)):kvs.length<=sizeLine/\(a == sysModules)=false /\
  ∃ xs,KT H kvs xs/\h.DictOfH (tupleKind (bz P w)) a xs:=by
 obtain⟨z,y,xs,r,o,es,ep,h1,h2,h3,h4,h5⟩:=(show bD P w H h a (.dT kvs) from Ih ok e);refine⟨z,y,xs,r,o,es,ep,h1,h2,h3,h4,fun x hx=>?_,h5⟩
 have all:∀ {l:List (List cf×V)}{m:List (List cf×Addr×Value)},KT H l m->∀ x∈m,(tupleKind (bz P w)).is h x.1 x.2.1:=by
  intro l m q
  induction q with
  | nil=>intro x hx;exact nomatch hx
  | @cons p q ps qs hq t ih =>
   intro x hx;rcases Ms.mp hx with e | hx
   ·subst e
    exact rg ok (by rw[<-hq.1];exact hq.2.1)
   ·exact ih x hx
 exact all r x hx
theorem JU {kvs:List (List cf×V)}(ok:kS P w H h)(e:H a=some (.dT kvs)):kvs.length<=sizeLine/\(a == sysModules)=false /\
  ∃ xs,KT H kvs xs/\h.DictOfH (tupleKind (bz P w)) a xs:=uX ok (.inl e)
end
def cu (H:Hp)(a:Addr)(y:V)(r:Option V):Prop :=
 (∃ kvs k,Rd H a (.dK kvs)/\y=kV k/\r=dI kvs k)\/∃ kvs k b,Rd H a (.dT kvs)/\y=.ref b/\H b=some (.tup (k.map kV))/\r=dI kvs k
def lA (H:Hp)(a:Addr)(y v:V)(H':Hp):Prop :=
 (∃ kvs k,H a=some (.dK kvs)/\y=kV k/\kvs.length<sizeLine/\H'=upd H a (.dK (gL kvs k v))) \/
 ∃ kvs k b,H a=some (.dT kvs)/\y=.ref b/\H b=some (.tup (k.map kV))/\kvs.length<sizeLine/\H'=upd H a (.dT (gL kvs k v))
theorem cu.k {H:Hp}{a:Addr}{kvs:List (cf×V)}{k:cf}(e:H a=some (.dK kvs)):cu H a (kV k) (dI kvs k):=.inl ⟨kvs,k,.inl e,rfl,rfl⟩
theorem cu.t {H:Hp}{a b:Addr}{kvs:List (List cf×V)}{k:List cf}(e:H a=some (.dT kvs))(eb:H b=some (.tup (k.map kV))):cu H a (.ref b) (dI kvs k):=.inr ⟨kvs,k,b,.inl e,rfl,eb,rfl⟩
theorem lA.k {H:Hp}{a:Addr}{kvs:List (cf×V)}{k:cf}{v:V}(e:H a=some (.dK kvs))(hl:kvs.length<sizeLine):lA H a (kV k) v (upd H a (.dK (gL kvs k v))):=.inl ⟨kvs,k,e,rfl,hl,rfl⟩
theorem lA.t {H:Hp}{a b:Addr}{kvs:List (List cf×V)}{k:List cf}{v:V}(e:H a=some (.dT kvs))(eb:H b=some (.tup (k.map kV)))(hl:kvs.length<sizeLine) :
  lA H a (.ref b) v (upd H a (.dT (gL kvs k v))):=.inr ⟨kvs,k,b,e,rfl,eb,hl,rfl⟩
section
variable {X:Cx}{pins:List (Addr×Obj)}{σ:St}{H:Hp}{s:Shared}{a:Addr}{y v:V}{u r:Value}{o:Option V}{A:Around}{E:Value->Shared->Prop}
theorem aK.big (I:aK X pins σ H s):sysModules<s.heap.objs.size:=by
 have h:mainGlobals<s.heap.objs.size:=(I.mod.glob.keeps I.bk).lt;exact Nat.lt_trans (by decide) h
theorem DE {Q:Value->Shared->Prop}(hu:A.units+1<cLine)(I:aK X pins σ H s)(g:cu H a y (some v))(ry:bu y u)(h:∀ w' s',aK X pins σ H s'->bu v w'->Q w' s') :
  wpAny (model X.prog X.w) A (getItem (.ref a) u) Q E s:=by
 rcases g with ⟨kvs,k,e,ey,l⟩ | ⟨kvs,k,b,e,ey,eb,l⟩
 ·subst ey
  obtain⟨z,hd,vs,rel,dd⟩:=uU I.hok e;obtain⟨w',hw,rw'⟩:=jx.some_of (v:=v) (o:=valueAt vs k) (by rw[l];exact rel.val k);exact wpAny_getItem_of (p8 ry) dd.mapOf hw (h w' _ (I.tok _) rw')
 ·subst ey
  cases (show u=Value.ref b from ry);obtain⟨z,hd,xs,rel,dd⟩:=uX I.hok e;obtain⟨w',hw,rw'⟩:=jx.some_of (v:=v) (o:=(atKey xs k).map (·.2)) (by rw[l];exact rel.val k);obtain⟨p,hp,hp2⟩:=Option.map_eq_some_iff.mp hw;refine wpAny_getItem_heap (Ot hu) (rg I.hok eb) dd hp ?_;rw[hp2];exact h w' _ (I.tok _) rw'
theorem K8 {Q:Value->Shared->Prop}(hu:A.units+1<cLine)(I:aK X pins σ H s)(g:cu H a y o)(ry:bu y u)(h:∀ s',aK X pins σ H s'->Q (.bool o.isSome) s') :
  wpAny (model X.prog X.w) A (compareOp .In u (.ref a)) Q E s:=by
 rcases g with ⟨kvs,k,e,ey,l⟩ | ⟨kvs,k,b,e,ey,eb,l⟩
 ·subst ey
  obtain⟨z,hd,vs,rel,dd⟩:=uU I.hok e;refine wpAny_in_of (p8 ry) hd dd.mapOf ?_;rw[<-(rel.val k).isSome_eq,<-l];exact h _ (I.tok _)
 ·subst ey
  cases (show u=Value.ref b from ry);obtain⟨z,hd,xs,rel,dd⟩:=uX I.hok e;refine wpAny_in_heap (Ot hu) (rg I.hok eb) hd dd ?_;have q:=(rel.val k).isSome_eq;rw[Oh]at q;rw[<-q,<-l];exact h _ (I.tok _)
theorem GR {Q:Value->Shared->Prop}(hu:A.units+1<cLine)(I:aK X pins σ H s)(g:cu H a y o)(ry:bu y u)(h:∀ s',aK X pins σ H s'->Q (.bool (!o.isSome)) s') :
  wpAny (model X.prog X.w) A (compareOp .NotIn u (.ref a)) Q E s:=by
 rcases g with ⟨kvs,k,e,ey,l⟩ | ⟨kvs,k,b,e,ey,eb,l⟩
 ·subst ey
  obtain⟨z,hd,vs,rel,dd⟩:=uU I.hok e;refine wpAny_notIn_of (p8 ry) hd dd.mapOf ?_;rw[<-(rel.val k).isSome_eq,<-l];exact h _ (I.tok _)
 ·subst ey
  cases (show u=Value.ref b from ry);obtain⟨z,hd,xs,rel,dd⟩:=uX I.hok e;refine wpAny_notIn_heap (Ot hu) (rg I.hok eb) hd dd ?_;have q:=(rel.val k).isSome_eq;rw[Oh]at q;rw[<-q,<-l];exact h _ (I.tok _)
theorem pT {h':Heap}{t':Nat}{ob:HO}(I:aK X pins σ H s)(mu:JO (H a))(hs:Heap.SameBut a s.heap h')(he:∃ q,h'.get? a=some q)(new:bD X.prog X.w (upd H a ob) h' a ob) :
  aK X pins σ (upd H a ob) { s with heap:=h',toks:=t' } :=
 I.write (x:=a) (e:=a) mu (.inl rfl) (fun b q hb z=>(hs.2 b hb).trans z) he new
theorem yk {P:Program}{w:World}{H':Hp}{h':Heap}{kvs:List (cf×V)}{vs:List (cf×Value)}(z:kvs.length<=sizeLine)(hd:(a == sysModules)=false)(rel:KV kvs vs)(dd:h'.DictOf (bz P w) a vs) :
  bD P w H' h' a (.dK kvs):=⟨z,hd,vs,rel,dd⟩
theorem DF {H':Hp}{Q:Unit->Shared->Prop}(hu:A.units+1<cLine)(I:aK X pins σ H s)(g:lA H a y v H')(ry:bu y u)(rv:bu v r)(h:∀ s',aK X pins σ H' s'->Q () s') :
  wpAny (model X.prog X.w) A (setItem (.ref a) u r) Q E s:=by
 rcases g with ⟨kvs,k,e,ey,l,eH⟩ | ⟨kvs,k,b,e,ey,eb,l,eH⟩
 ·subst ey eH
  obtain⟨z,hd,vs,rel,dd⟩:=CN I.hok e
  have hz:vs.length<=sizeLine:=by rw[<-rel.length];exact z
  have hl:(gL kvs k v).length<=sizeLine:=by have:=i8 kvs k v;omega
  refine wpAny_setItem_pairs (hsz:=hz) (p8 ry) dd fun h' dd' hs=>h _ ?_;have he:∃ q,h'.get? a=some q:=let ⟨q,_,_,hq,_⟩:=dd';⟨q,hq⟩;exact pT I (by rw[e];exact True.intro) hs he (yk hl hd (rel.put k rv) dd')
 ·subst ey eH
  cases (show u=Value.ref b from ry);obtain⟨z,hd,xs,rel,dd⟩:=JU I.hok e
  have hz:xs.length<=sizeLine:=by rw[<-Mo rel];exact z
  have hl:(gL kvs k v).length<=sizeLine:=by have:=i8 kvs k v;omega
  refine wpAny_setItem_heap (hsz:=hz) (Ot hu) (rg I.hok eb) dd fun h' dd' hs=>h _ ?_;obtain⟨q,es,ep,hq,h2,h3,h4,_,h5⟩:=dd';refine pT I (by rw[e];exact True.intro) hs ⟨q,hq⟩ ⟨hl,hd,_,(rel.put k eb rv).keeps fun c ys ec=>?_,q,es,ep,hq,h2,h3,h4,h5⟩;rw[af (bE ec e (fun z=>nomatch z))];exact ec
end
section
variable {X:Cx}{pins:List (Addr×Obj)}{σ:St}{H:Hp}{s:Shared}{a:Addr}{kvs:List (cf×V)}{k:cf}{u:Value}{A:Around}{E:Value->Shared->Prop}
theorem JT {v:V}{more:List Value}{Q:Value->Shared->Prop}(I:aK X pins σ H s)(e:H a=some (.dK kvs))(ry:bu (kV k) u)(l:dI kvs k=some v)(hm:more=[]\/∃ x,more=[x])
  (h:∀ w' s',aK X pins σ (upd H a (.dK (uV kvs k))) s'->bu v w'->Q w' s'):wpAny (model X.prog X.w) A (call (.builtin "dict.pop") (.ref a::u::more)) Q E s:=by
 obtain⟨z,hd,vs,rel,dd⟩:=CN I.hok e;obtain⟨w',hw,rw'⟩:=jx.some_of (v:=v) (o:=valueAt vs k) (by rw[<-l];exact rel.val k)
 have hp:(keyPart u).isSome=true:=by
  cases k with
  | inl i=>obtain⟨t,q⟩:=(show ∃ t,u=Value.int i t from ry);subst q;rfl
  | inr x=>obtain⟨t,q⟩:=(show ∃ t,u=Value.str x t from ry);subst q;rfl
 have ha:argsOk "dict.pop" ⟨.ref a::u::more,[]⟩:=by
  rcases hm with q | ⟨x,q⟩
  ·subst q;exact PySem.F.args_dict_pop_2 _ _
  ·subst q;exact PySem.F.args_dict_pop_3 _ _ _
 refine call_meetsIn PySem.F.slot_dict_pop dd.typeIs PySem.F.entry_dict_pop ha (meets_dict_pop_there (bz X.prog X.w) a (p8 ry) more hm hp)
  ⟨vs,w',dd,by rw[<-rel.length];exact z,hw,fun h' dd' hs=>h w' _ ?_ rw'⟩
 have he:∃ q,h'.get? a=some q:=let ⟨q,_,_,hq,_⟩:=dd';⟨q,hq⟩;exact pT I (by rw[e];exact True.intro) hs he (yk (MZ (EZ kvs k) z) hd (rel.drop k) dd')
end
def JP (i:Expr):Prop:=∀ ov iv,subscripted i false ov iv=operate [ov,iv] (getItem ov iv)
theorem HE {prog:Program}{w:World}{A:Around}{E:Value->Shared->Prop}{s:Shared}{env:Env}{value slice:Expr}{pos:Pos}{T id:String}{Q:Value->Shared->Prop}
  (hl:typeLookup (.type T) "__getitem__" = pure (some (.builtin id))) (hs:JP slice)
  (h:wpAny (model prog w) A (eval value env) (fun o s₁=>wpAny (model prog w) A (eval slice env) (fun i s₂=>s₂.TypeIs o T/\wpAny (model prog w) A (getItem o i) Q E s₂) E s₁) E s) :
  wpAny (model prog w) A (eval (.Subscript value slice pos) env) Q E s:=by
 refine Subscript_ (MP h (fun o s₁ h₁=>MP h₁ (fun i s₂ h₂=>?_) fun _ _ x=>x) fun _ _ x=>x);obtain⟨hT,h₂⟩:=h₂;unfold subscriptTail;refine Mf ?_;rw[getitemInPython_of_ne hT.not_modules];refine Mf (wpAny_specialOf hT hl ?_)
 have fin:wpAny (model prog w) A (subscripted slice false o i) (fun r s₃=>wpAny (model prog w) A (letTemporaryGo value o r >>= fun _=>pure r) Q E s₃) E s₂:=by
  rw[hs o i];exact wpAny_operating (MP h₂ (fun r s₃ h₃=>Mf (wpAny_letTemporaryGo (Mq h₃))) fun _ _ x=>x)
 first
  | exact Mq (Mf fin)
  | exact Mf (Mq (Mf fin))
  | exact Mf fin
theorem zW {X:Cx}{pins:List (Addr×Obj)}{σ:St}{H:Hp}{s:Shared}{a:Addr}{y:V}{o:Option V}(I:aK X pins σ H s)(g:cu H a y o):s.TypeIs (.ref a) "dict":=by
 rcases g with ⟨kvs,k,e,_,_⟩ | ⟨kvs,k,b,e,_,_,_⟩
 ·obtain⟨_,_,vs,_,dd⟩:=uU I.hok e
  exact dd.typeIs
 ·obtain⟨_,_,xs,_,dd⟩:=uX I.hok e
  exact dd.typeIs
inductive LL (x y:V) (Q:VK) (H:Hp):Prop
 | mk (a:Addr) (v:V) (e:x=.ref a) (g:cu H a y (some v)) (h:Q v H):LL x y Q H
def Kl (td ty:TE):TE:=fun σ H Q=>td σ H fun x H1=>ty σ H1 fun y H2=>LL x y Q H2
def Lu (ty td:TE):TE:=fun σ H Q=>ty σ H fun y H1=>td σ H1 fun x H2=>∃ a o,x=.ref a/\cu H2 a y o/\Q (.bl o.isSome) H2
def HG (ty td:TE):TE:=fun σ H Q=>ty σ H fun y H1=>td σ H1 fun x H2=>∃ a o,x=.ref a/\cu H2 a y o/\Q (.bl (!o.isSome)) H2
def Kg (td ty tv:TE):TS:=fun D σ H=>tv σ H fun v H1=>td σ H1 fun x H2=>ty σ H2 fun y H3=>∃ a H4,x=.ref a/\lA H3 a y v H4/\D.nx σ H4
section
variable {X:Cx}{o i e value:Expr}{pos pos' tpos:Pos}{td ty tv:TE}
theorem hW (hu:X.A.units+1<cLine)(ho:PE X o td)(hi:PE X i ty)(hs:JP i):PE X (.Subscript o i pos) (Kl td ty):=by
 intro pins s σ H Q I h;refine HE PySem.F.slot_dict_getitem.lookup hs (bH (ho pins s σ H _ I h) fun u s1 ⟨x,H1,I1,rx,q1⟩=>bH (hi pins s1 σ H1 _ I1 q1) fun iv s2 ⟨y,H2,I2,ry,a,v,ex,g,q2⟩=>?_);subst ex;obtain rfl:u=Value.ref a:=rx;exact⟨zW I2 g,DE hu I2 g ry fun w' s3 I3 rw'=>⟨v,H2,I3,rw',q2⟩⟩
theorem jX (hu:X.A.units+1<cLine)(hi:PE X i ty)(ho:PE X o td):PC X .In i o (Lu ty td):=by
 intro pins s σ H Q I h;refine bH (hi pins s σ H _ I h) fun iv s1 ⟨y,H1,I1,ry,q1⟩=>bH (ho pins s1 σ H1 _ I1 q1) fun u s2 ⟨x,H2,I2,rx,a,ov,ex,g,q2⟩=>?_;subst ex;obtain rfl:u=Value.ref a:=rx;exact K8 hu I2 g ry fun s3 I3=>⟨.bl ov.isSome,H2,I3,rfl,q2⟩
theorem jD (hu:X.A.units+1<cLine)(hi:PE X i ty)(ho:PE X o td):PC X .NotIn i o (HG ty td):=by
 intro pins s σ H Q I h;refine bH (hi pins s σ H _ I h) fun iv s1 ⟨y,H1,I1,ry,q1⟩=>bH (ho pins s1 σ H1 _ I1 q1) fun u s2 ⟨x,H2,I2,rx,a,ov,ex,g,q2⟩=>?_;subst ex;obtain rfl:u=Value.ref a:=rx;exact GR hu I2 g ry fun s3 I3=>⟨.bl (!ov.isSome),H2,I3,rfl,q2⟩
theorem gE (hu:X.A.units+1<cLine)(ho:PE X o td)(hi:PE X i ty)(hv:PE X value tv)(hs:swapsWith value (some (.Subscript o i pos')) pos.line X.env=pure false) :
  PS X (.Assign [.Subscript o i pos'] value pos) (Kg td ty tv):=by
 intro pins s σ H D I h;refine wpAny_Assign_Subscript (bH (hv pins s σ H _ I h) fun r s1 ⟨v,H1,I1,rv,q1⟩=>bH (ho pins s1 σ H1 _ I1 q1) fun u s2 ⟨x,H2,I2,rx,q2⟩=>bH (hi pins s2 σ H2 _ I2 q2) fun iv s3 ⟨y,H3,I3,ry,a,H4,ex,g,q3⟩=>?_) hs;subst ex;obtain rfl:u=Value.ref a:=rx;exact DF hu I3 g ry rv fun s4 I4=>⟨σ,H4,I4,q3⟩
end
theorem uT {P:Program}{w:World}{H:Hp}(h:Heap)(hb:sysModules<h.objs.size):bD P w H (h.push { cls:=.type "dict",data:=.dict #[] }) h.objs.size (.dK []) :=
 ⟨MD _,NS.mpr (ME (MB hb)),[],.nil,Heap.DictOf.new h⟩
theorem E3 {P:Program}{w:World}{H:Hp}(h:Heap)(hb:sysModules<h.objs.size):bD P w H (h.push { cls:=.type "dict",data:=.dict #[] }) h.objs.size (.dT []) :=
 ⟨MD _,NS.mpr (ME (MB hb)),[],.nil,_,#[],0,Heap.get?_push_size _ rfl,⟨rfl,rfl,rfl⟩,rfl,rfl,Nj⟩
def Js:TE:=fun _ H Q=>∀ p,H p=none->Q (.ref p) (upd H p (.dK []))
def Jt:TE:=fun _ H Q=>∀ p,H p=none->Q (.ref p) (upd H p (.dT []))
section
variable {X:Cx}{pos:Pos}
theorem iF:PE X (.Dict [] [] pos) Js:=fun pins s σ H Q I h =>
 wpAny_Dict_empty ⟨.ref s.heap.objs.size,_,I.laid (a:=s.heap.objs.size) (o:=.dK []) (t':=s.toks) (fun _ _ q=>Heap.get?_push_of_some _ q) (Mn _) (uT s.heap I.big),rfl,h _ (I.hok.fresh (Mn _))⟩
theorem AU:PE X (.Dict [] [] pos) Jt:=fun pins s σ H Q I h =>
 wpAny_Dict_empty ⟨.ref s.heap.objs.size,_,I.laid (a:=s.heap.objs.size) (o:=.dT []) (t':=s.toks) (fun _ _ q=>Heap.get?_push_of_some _ q) (Mn _) (E3 s.heap I.big),rfl,h _ (I.hok.fresh (Mn _))⟩
end
structure M1 (X:Cx)(o:Expr)(m:Str)(apos:Pos)(e:Expr)(cpos:Pos):Prop where
 base:attributeBase o m X.env (eval o X.env)=eval o X.env
 few:((backTo cpos (starEach [e] X.env)).all (fun x=>!x.1)&&(backToKw cpos (keywordEach [] X.env)).all (fun x=>x.1.isSome)
  && decide (([e]:List Expr).length+([]:List Keyword).length+(if ([]:List Keyword).isEmpty then 0 else 1)<30))=true
 line:(apos.endLine == cpos.line)=true
 trees:backTo cpos (starEach [e] X.env)=[(false,eval e X.env)]
structure M2 (X:Cx)(o:Expr)(m:Str)(apos:Pos)(e f:Expr)(cpos:Pos):Prop where
 base:attributeBase o m X.env (eval o X.env)=eval o X.env
 few:((backTo cpos (starEach [e,f] X.env)).all (fun x=>!x.1)&&(backToKw cpos (keywordEach [] X.env)).all (fun x=>x.1.isSome)
  && decide (([e,f]:List Expr).length+([]:List Keyword).length+(if ([]:List Keyword).isEmpty then 0 else 1)<30))=true
 line:(apos.endLine == cpos.line)=true
 trees:backTo cpos (starEach [e,f] X.env)=[(false,eval e X.env),(false,eval f X.env)]
def Kx (H:Hp)(a:Addr):Prop:=(∃ kvs,Rd H a (.dK kvs))\/∃ kvs,Rd H a (.dT kvs)
theorem yt {X:Cx}{pins:List (Addr×Obj)}{σ:St}{H:Hp}{s:Shared}{a:Addr}(I:aK X pins σ H s)(d:Kx H a) :
  s.TypeIs (.ref a) "dict"/\(∀ b,Value.ref a=.ref b->∃ ob,s.heap.get? b=some ob/\ob.dict=none)/\(a == sysModules)=false:=by
 rcases d with ⟨kvs,e⟩ | ⟨kvs,e⟩
 ·obtain⟨_,hd,vs,_,dd⟩:=uU I.hok e
  refine⟨dd.typeIs,fun b q=>?_,hd⟩;cases q;obtain⟨ob,_,_,h1,h2,_⟩:=dd;exact⟨ob,h1,h2.2.1⟩
 ·obtain⟨_,hd,xs,_,dd⟩:=uX I.hok e
  refine⟨dd.typeIs,fun b q=>?_,hd⟩;cases q;obtain⟨ob,_,_,h1,h2,_⟩:=dd;exact⟨ob,h1,h2.2.1⟩
section
variable {X:Cx}{pins:List (Addr×Obj)}{σ:St}{H:Hp}{s:Shared}{a:Addr}{y d:V}{u r:Value}{o:Option V}{A:Around}{E:Value->Shared->Prop}
theorem IE {Q:Value->Shared->Prop}(hu:A.units+1<cLine)(I:aK X pins σ H s)(g:cu H a y o)(ry:bu y u)(rd:bu d r)(h:∀ w' s',aK X pins σ H s'->bu (o.getD d) w'->Q w' s') :
  wpAny (model X.prog X.w) A (call (.builtin "dict.get") [.ref a,u,r]) Q E s:=by
 rcases g with ⟨kvs,k,e,ey,l⟩ | ⟨kvs,k,b,e,ey,eb,l⟩
 ·subst ey
  obtain⟨z,hd,vs,rel,dd⟩:=uU I.hok e;refine call_meetsIn PySem.F.slot_dict_get dd.typeIs PySem.F.entry_dict_get (PySem.F.args_dict_get_3 _ _ _) (meets_dict_get_default (bz X.prog X.w) a (p8 ry) hd r) ⟨_,dd.mapOf,h _ _ (I.tok _) ?_⟩;rw[l];exact (rel.val k).getD rd
 ·subst ey
  cases (show u=Value.ref b from ry);obtain⟨z,hd,xs,rel,dd⟩:=uX I.hok e;refine call_meetsIn PySem.F.slot_dict_get dd.typeIs PySem.F.entry_dict_get (PySem.F.args_dict_get_3 _ _ _) (meetsH_dict_get_default (tupleKind (bz X.prog X.w)) a b hd r) ⟨Ot hu,k,xs,rg I.hok eb,dd,h _ _ (I.tok _) ?_⟩;rw[l];exact (rel.val k).getD rd
end
def Jr (td ty tx:TE):TE:=fun σ H Q=>td σ H fun x H1=>∃ a,x=.ref a/\Kx H1 a/\ty σ H1 fun y H2=>tx σ H2 fun z H3=>∃ o,cu H3 a y o/\Q (o.getD z) H3
def Ju (td ty:TE):TE:=fun σ H Q=>td σ H fun x H1=>∃ a,x=.ref a/\Kx H1 a/\ty σ H1 fun y H2=>∃ kvs k v,H2 a=some (.dK kvs)/\y=kV k/\dI kvs k=some v/\Q v (upd H2 a (.dK (uV kvs k)))
section
variable {X:Cx}{o e f:Expr}{apos cpos:Pos}{td ty tx:TE}
theorem qk (hu:X.A.units+1<cLine)(ho:PE X o td)(he:PE X e ty)(hf:PE X f tx)(m:M2 X o "get" apos e f cpos):PE X (.Call (.Attribute o "get" apos) [e,f] [] cpos) (Jr td ty tx):=by
 intro pins s σ H Q I h;refine wpAny_Call_method m.base m.few m.line PySem.F.plainAttrs_dict PySem.F.slot_dict_get PySem.F.type_dict_get (bH (ho pins s σ H _ I h) fun u s1 ⟨x,H1,I1,rx,a,ex,d,q1⟩=>?_);subst ex;obtain rfl:u=Value.ref a:=rx;obtain⟨t1,t2,_⟩:=yt I1 d;refine⟨t1,t2,?_⟩;rw[m.trees]
 refine N9 rfl (NX (NH (bH (he pins s1 σ H1 _ I1 q1) fun iv s2 ⟨y,H2,I2,ry,q2⟩ =>
  NH (bH (hf pins s2 σ H2 _ I2 q2) fun fv s3 ⟨z,H3,I3,rz,ov,g,q3⟩=>Og ?_))))
 exact IE hu I3 g ry rz fun w' s4 I4 rw'=>⟨_,H3,I4,rw',q3⟩
theorem vO (ho:PE X o td)(he:PE X e ty)(m:M1 X o "pop" apos e cpos):PE X (.Call (.Attribute o "pop" apos) [e] [] cpos) (Ju td ty):=by
 intro pins s σ H Q I h;refine wpAny_Call_method m.base m.few m.line PySem.F.plainAttrs_dict PySem.F.slot_dict_pop PySem.F.type_dict_pop (bH (ho pins s σ H _ I h) fun u s1 ⟨x,H1,I1,rx,a,ex,d,q1⟩=>?_);subst ex;obtain rfl:u=Value.ref a:=rx;obtain⟨t1,t2,_⟩:=yt I1 d;refine⟨t1,t2,?_⟩;rw[m.trees];refine N9 rfl (NX (NH (bH (he pins s1 σ H1 _ I1 q1) fun iv s2 ⟨y,H2,I2,ry,kvs,k,v,ea,ey,l,q2⟩=>Og ?_)));subst ey;exact JT I2 ea ry l (.inl rfl) fun w' s3 I3 rw'=>⟨v,_,I3,rw',q2⟩
end
section
variable {X:Cx}{pins:List (Addr×Obj)}{σ:St}{H:Hp}{s:Shared}{a:Addr}{kvs:List (cf×V)}{A:Around}{E:Value->Shared->Prop}
end
section
variable {X:Cx}{pins:List (Addr×Obj)}{σ:St}{H:Hp}{s:Shared}{a:Addr}{y:V}{u:Value}{A:Around}{E:Value->Shared->Prop}
end
end L2
namespace Att
open PySem PySem.W PySem.Calls PyProof.Rows
theorem tK {P:Params}{h:Heap}:∀ (ns:List Int)(vs:List Value),WellAll P h vs (ns.map WData.int)->IntsAre vs ns:=by
 intro ns
 induction ns with
 | nil =>
  intro vs w;rw[List.map_nil]at w;cases w;exact .nil
 | cons n ns ih =>
  intro vs w;rw[MQ]at w
  cases w with
  | cons a b =>
   cases a;exact .cons _ _ (ih _ b)
theorem EB {l:OpenLaw}{n:Nat}(hn:l.most=some n){P:Params}{h:Heap}{args:List WData}{vals:List Value}
  (hpre:l.row.toRowW.claim.pre args=true) (hwl:WellAll P h vals args) :
  ∃ a vs ns,vals=[Value.ref a]/\args=[WData.list (ns.map WData.int)]/\h.get? a=some { cls:=.type "list",data:=.seq vs.toArray }/\IntsAre vs ns/\ns.length<=n:=by
 have hsh:WShape.hasAll [] args [.list .int]=true:=(pre_splitW hpre).1;have hc:l.pre.holds [] { args:=args }=true:=(pre_splitW hpre).2;obtain⟨d,r,rfl,h1,h2⟩:=hasAllW_cons hsh;obtain rfl:=hasAllW_nil h2;obtain⟨xs,rfl,h3⟩:=hasW_list h1;obtain⟨ns,rfl⟩:=items_int h3
 have hlen:ns.length<=n:=by
  unfold OpenLaw.pre at hc
  have h4:(WTm.not (.lt (.lit (.int (n:Int))) (.len (.arg 0)))).holds [] { args:=[.list (ns.map .int)] }=true:=by
   have h4:=(holds_andW hc).1;rw[hn]at h4;exact h4
  have h5:=condW_of h4 (w_not (w_lt w_lit (w_len_list (w_arg rfl))));rw[Me]at h5;refine Nat.le_of_not_lt fun q=>?_
  have q':(n:Int)<((ns.length:Nat):Int):=by omega
  first
   | (rw[Mp q']at h5;exact absurd h5 (by decide))
   | (simp at h5;omega)
 cases hwl with
 | cons w1 w2 =>
  cases w2
  cases w1 with
  | list ho hall=>exact⟨_,_,ns,rfl,rfl,ho,tK ns _ hall,hlen⟩
theorem Ej (l:OpenLaw)(args:List WData):l.row.toRowW.claim.post args (.bool true) args=true :=
 postW_of (r:=l.row.toRowW) (X:=(true == true))
  (show WShape.has [] (.bool true) .bool=true by first | rfl | decide | simp[WShape.has,WShape.arms,WShape.armsAll])
  (show (WTm.eq .res (.lit (.bool true))).value [] { args:=args,res:=some (.bool true),after:=args }=some (.bool (true == true)) from w_eq_bool (w_res rfl) w_lit) rfl
theorem attach_call {l:OpenLaw}{n:Nat}{q:Program}{loose:List Str}{XP:(Str->Option Value)->Heap->Prop}{YP:World->Heap->Prop}{d:DefRec}
  (hn:l.most=some n) (hdf:d.params.defaults=[])
  (call:∀ (w:World)(s₀ s₁:Shared)(mg mb:Str->Option Value)(fa:Addr)(o:Obj)(pm cd doc:Value)(a:Addr)(vs:List Value)(ns:List Int),
   Ground q loose [] XP w s₀ mg mb s₁.heap->YP w s₁.heap ->
   s₁.heap.get? fa=some o->o.data=.func (docDef d.name d.params d.body d.scope pm cd doc)->s₁.heap.CodeRec cd d.name->mg d.name=some (.ref fa) ->
   s₁.heap.get? a=some { cls:=.type "list",data:=.seq vs.toArray }->IntsAre vs ns->ns.length<=n->s₁.gens = #[] ->
   codeAny (model l.prog w) callerA (.call (.ref fa) ⟨[.ref a],[]⟩) (fun r s'=>r=.ok (.ret (.bool true))/\OldK s₁.heap s'.heap/\s'.os=s₁.os/\AllBare s'.gens) s₁) :
  WalkO q loose XP YP l.row.toRowW d [] (fun f vs=>PySem.call f vs):=by
 intro w s₀ s₁ mg mb G Y fa o pm cd doc dV kV ho hd hcd hD hmg hg args vals as hpre hlay hrd hwl hlo;obtain rfl:dV=.none:=Dflts.none hD hdf;obtain rfl:kV=.none:=Dflts.noKw hD;obtain⟨a,vs,ns,rfl,rfl,hobj,hints,hlen⟩:=EB hn hpre hwl;refine enter_call (Oa (call w s₀ s₁ mg mb fa o pm cd doc a vs ns G Y ho (fd_plain hd) hcd hmg hobj hints hlen hg) fun r s' hq=>?_);obtain⟨rfl,h2,h3,h4⟩:=hq;exact⟨.inl ⟨.bool true,.bool true,[],rfl,fun _=>rfl,.bool true,Ej l _,fun _=>⟨List.Pairwise.nil,fun _ hm=>(nomatch hm)⟩⟩,h2,h3,h4⟩
section
variable {prog:Program}{w:World}{A:Around}{E:Value->Shared->Prop}{s:Shared}{K:Frag}
def Lj (h:Heap):Heap:={ h with objs:=#[] }
def Li (h:Heap)(L d:Addr):List (Addr×Obj):=(List.range h.objs.size).filterMap fun a=>if a=L\/a=d then none else (h.get? a).map fun o=>(a,o)
end
end Att
namespace L2
open PySem PySem.Spec PyProof.Rows
theorem ya:∀ {vs:List Value}{ns:List Int},IntsAre vs ns->bw (ns.map V.int) vs
 | _,_,.nil=>.nil
 | _,_,.cons n t h=>.cons ⟨t,rfl⟩ (ya h)
def IA (H:Hp):Prop:=∀ b,H b=none\/∃ o xs,H b=some (.frz o (.lst xs))
theorem Fv {P:Program}{w:World}{K:PySem.W.Frag}{mg mb:Str->Option Value}{CX:zF}{k:Nat}{fa a:Addr}{fd:FuncData}{x:Str}{sp:Sp}{s₁:Shared}{vs:List Value}{ns:List Int}
  (KX:K.In s₁.heap) (hns:s₁.heap.Ns mainGlobals mg) (hb:s₁.heap.Ns builtinsNs mb) (hbb:∀ x:Str,x≠"__name__"->mb x=bootBuiltins x) (hlim:s₁.heap.NoLimit) (hg:s₁.gens = #[])
  (ha:s₁.heap.get? a=some { cls:=.type "list",data:=.seq vs.toArray }) (hi:IntsAre vs ns) (hl:ns.length<=sizeLine) (hr:cH k callerA)
  (F:∀ base:Heap,K.In base->base.Ns mainGlobals mg->aZ P w K mg base CX k fa fd [x] sp) (hbind:∀ (s:Shared)(u:Value),BindsTo s fd ⟨[u],[]⟩ [(x,u)])
  (hsp:∀ H:Hp,IA H->aW K H a (ns.map V.int)->sp [.ref a] H (fun v _=>v=.bl true) fun _ _ _=>False)
  (hCX:∀ H e s',CX [] H s₁ (fun _ _ _=>False) e s'->False) :
  codeAny (model P w) callerA (.call (.ref fa) ⟨[.ref a],[]⟩) (fun r s'=>r=.ok (.ret (.bool true))/\OldK s₁.heap s'.heap/\s'.os=s₁.os/\AllBare s'.gens) s₁:=by
 have rv:=ya hi;have lenV:=hi.length
 have core:∀ H:Hp,IA H->aW K H a (ns.map V.int)->kS P w H s₁.heap->(∀ b,H b≠none->b=a)->(H a≠none->K.lookup a=none) ->
   codeAny (model P w) callerA (.call (.ref fa) ⟨[.ref a],[]⟩) (fun r s'=>r=.ok (.ret (.bool true))/\OldK s₁.heap s'.heap/\s'.os=s₁.os/\AllBare s'.gens) s₁:=by
  intro H hO hS hok hA hK;have base_of:∀ {b:Addr}{o:Obj},s₁.heap.get? b=some o->H b=none->(yq s₁.heap H).get? b=some o:=fun e n=>Fj e n
  have noA:∀ {b:Addr}{o:Obj}{es:Array DictEntry}{ep:Nat},s₁.heap.get? b=some o->o.data=.dict es ep->H b=none:=fun {b o es ep} e d=>by
   cases q:H b with
   | none=>rfl
   | some u =>
    have e':b=a:=hA b (by rw[q];simp);subst e';rw[ha]at e;cases e;have d':Data.seq vs.toArray _=Data.dict es ep:=d;cases d'
  have nsK:∀ {b:Addr}{m:Str->Option Value},s₁.heap.Ns b m->(yq s₁.heap H).Ns b m:=fun {b m} ⟨o,es,ep,e,d,r⟩=>⟨o,es,ep,base_of e (noA e d),d,r⟩
  have hKb:K.In (yq s₁.heap H):=fun b o e=>base_of (KX b o e) (by
   cases q:H b with
   | none=>rfl
   | some u =>
    have e':b=a:=hA b (by rw[q];simp);subst e'
    rw[hK (by rw[q];simp)]at e;cases e)
  have hM:Mod K mg (yq s₁.heap H):=⟨hKb,nsK hns,⟨mb,nsK hb,hbb⟩,let ⟨mc,h1,h2⟩:=hlim;⟨mc,nsK h1,h2⟩⟩;have e0:Br P w K mg (yq s₁.heap H) callerA [] s₁ H:=⟨rfl,hM,fun b o e=>Hi e,Nat.le_of_eq (DM _ _),trivial,fun b hb=>absurd (show b∈([]:List Addr) from hb) (by simp),hok,.of_eq hg⟩;refine Oa ((F _ hKb (nsK hns)).run callerA [] s₁ H ⟨[.ref a],[]⟩ [.ref a] [.ref a] _ _ hr e0 (hbind s₁ (.ref a)) (.cons rfl .nil) (hsp H hO hS)) fun r s' h=>?_
  cases r with
  | error e=>exact (hCX H e s' h).elim
  | ok fl =>
   cases fl with
   | next=>exact False.elim h
   | brk=>exact False.elim h
   | cont=>exact False.elim h
   | ret u =>
    obtain⟨v,H',os,bare,un,hok',r',q⟩:=h;have q':v=.bl true:=q;subst q';obtain rfl:u=Value.bool true:=r';refine⟨rfl,OldK.of_keep fun b o e=>?_,os,bare⟩
    cases q:H b with
    | none=>exact un.keep b o e q (by intro z;exact absurd (show b∈([]:List Addr) from z) (by simp)) (by simp)
    | some u =>
     rcases hO b with z | ⟨ob,xs,z⟩
     ·rw[q]at z;cases z
     ·have z2:=un.frzs b ob _ z
      obtain⟨e1,_⟩:=hok b _ z;obtain⟨e2,_⟩:=hok' b _ z2;rw[e]at e1;cases e1;exact e2
 cases hk:K.lookup a with
 | some o =>
  have e:=KX a o hk;rw[ha]at e;cases e;refine core (fun _=>none) (fun _=>.inl rfl) (.inr ⟨_,vs.toArray,_,hk,rfl,rfl,rfl,by rw[My,lenV];exact hl,by simpa using rv⟩) (fun b u z=>by have z':(none:Option HO)=some u:=z;cases z') (fun b z=>absurd rfl z) fun z=>absurd rfl z
 | none =>
  refine core (fun b=>if b=a then some (.frz { cls:=.type "list",data:=.seq vs.toArray } (.lst (ns.map V.int))) else none) (fun b=>?_) (.inl (.inr ⟨{ cls:=.type "list",data:=.seq vs.toArray },Mi rfl⟩)) (fun b u z=>?_) (fun b z=>?_) fun _=>hk
  ·by_cases hb:b=a
   ·exact .inr ⟨_,_,Mi hb⟩
   ·exact .inl (Mg hb)
  ·by_cases hb:b=a
   ·have z':=(Mi hb).symm.trans z
    cases z';subst hb;exact⟨ha,by rw[Me];exact hl,vs,_,rv,ha⟩
   ·have z':=(Mg hb).symm.trans z
    cases z'
  ·by_cases hb:b=a
   ·exact hb
   ·exact absurd (Mg hb) z
theorem walk_of {l:PySem.W.OpenLaw}{n k:Nat}{q:Program}{loose:List Str}{XP:(Str->Option Value)->Heap->Prop}{YP:World->Heap->Prop}{d:DefRec}{K:Params->PySem.W.Frag}{CX:World->zF}{sp:World->Sp}{x:Str}
  (hn:l.most=some n) (hn2:n<=sizeLine) (hdf:d.params.defaults=[]) (hr:cH k callerA)
  (hY:∀ (w:World)(h:Heap),YP w h->(K w.params).In h)
  (F:∀ (w:World)(mg:Str->Option Value)(fa:Addr)(h:Heap),(K w.params).In h->h.Ns mainGlobals mg->mg d.name=some (.ref fa) ->
   ∃ fd:FuncData,(∀ (s:Shared)(u:Value),BindsTo s fd ⟨[u],[]⟩ [(x,u)]) /\
    ∀ base:Heap,(K w.params).In base->base.Ns mainGlobals mg->aZ l.prog w (K w.params) mg base (CX w) k fa fd [x] (sp w))
  (hsp:∀ (w:World)(H:Hp)(a:Addr)(ns:List Int),ns.length<=n->IA H->aW (K w.params) H a (ns.map V.int)->sp w [.ref a] H (fun v _=>v=.bl true) fun _ _ _=>False)
  (hCX:∀ (w:World)(H:Hp)(s:Shared)(e:Value)(s':Shared),CX w [] H s (fun _ _ _=>False) e s'->False) :
  PySem.W.WalkO q loose XP YP l.row.toRowW d [] (fun f vs=>PySem.call f vs):=by
 refine Att.attach_call hn hdf fun w s₀ s₁ mg mb fa o pm cd doc a vs ns G Y ho hd hcd hmg hobj hints hlen hg=>?_;have KX:=hY w _ Y;obtain⟨fd,hb,hF⟩:=F w mg fa _ KX G.T.g hmg;exact Fv KX G.T.g G.T.b G.T.builtins G.T.nolimit hg hobj hints (MZ hlen hn2) hr hF hb (fun H hO hS=>hsp w H a ns hlen hO hS) fun H e s'=>hCX w H s₁ e s'
def bN (s:Stmt)(j:Nat):Stmt:=match s with
 | .ClassDef _ _ _ body _ _ _ _ _ _ _=>body.getD j (.Pass ⟨0,0,0,0⟩)
 | _=>.Pass ⟨0,0,0,0⟩
def hJ (s:Stmt):Arguments:=match s with
 | .FunctionDef _ a _ _ _ _ _ _ _ _=>a
 | _=>{ posonlyargs:=[],args:=[],vararg:=none,kwonlyargs:=[],kw_defaults:=[],kwarg:=none,defaults:=[] }
def fA (s:Stmt):List Stmt:=match s with
 | .FunctionDef _ _ b _ _ _ _ _ _ _=>b
 | _=>[]
def ak (s:Stmt):Scope:=match s with
 | .FunctionDef _ _ _ _ _ _ sc _ _ _=>sc
 | _=>{ kind:=.function,names:=[],isGenerator:=false,isCoroutine:=false }
abbrev bV:zF:=fun _ _ _ _ _ _=>False
abbrev E0:XK:=fun _ _ _=>False
theorem cP {X:Cx}:fY bV X E0:=fun _ _ _ _ _ _ _ h=>h.elim
structure cG (K:PySem.W.Frag)(x qual:Str)(st:Stmt)(f:Addr)(fd:FuncData):Prop where
 ex:∃ (oc:Value)(od:Option Addr)(kV doc pm:Value)(an:Option Addr)(cdv ct:Value)(osl:Array (Option Value)),
  fd=PySem.W.fnOf x qual (hJ st) (fA st) (ak st) .none kV doc pm an cdv ct/\K.lookup f=some ⟨oc,od,.func fd,osl⟩/\PySem.W.codeIn K cdv qual=true
 kp:PySem.W.keepIn K (.ref f)=true
section
variable {P:Program}{w:World}{K:PySem.W.Frag}{mg:Str->Option Value}{base:Heap}
theorem cG.ok {x qual:Str}{st:Stmt}{f:Addr}{fd:FuncData}{N ps:List Str}{k:Nat}{sp:Sp}(F:cG K x qual st f fd)(S:av N ps (ak st))(len:∀ vs H Q E,sp vs H Q E->vs.length=ps.length)
  (hbody:∀ (cdv:Value)(A:Around)(outer:List Env)(s:Shared)(H:Hp)(vs:List V)(Q:VK)(E:XK),cH k (A.deeper (envOfC qual (ak st) s.heap.objs.size f cdv))->sp vs H Q E ->
   ∃ t,zK (uR bV P w K mg base N qual (ak st) f cdv A outer s H E).nox (fA st) t/\t { nx:=fun _ H'=>Q .non H',rt:=Q } (qM N vs) H):aZ P w K mg base bV (k+1) f fd ps sp:=by
 obtain⟨oc,od,kV,doc,pm,an,cdv,ct,osl,rfl,lk,hcd⟩:=F.ex;refine HS lk hcd S len fun A outer s H vs Q E hr hsp=>?_;obtain⟨t,h,q⟩:=hbody cdv A outer s H vs Q E hr hsp;exact⟨t,h.nox,q⟩
theorem cG.binds {x qual:Str}{st:Stmt}{f:Addr}{fd:FuncData}{ps:List Str}(F:cG K x qual st f fd)
  (h:∀ (kV doc pm:Value)(an:Option Addr)(cdv ct:Value)(us:List Value),us.length=ps.length->bindArgs (PySem.W.fnOf x qual (hJ st) (fA st) (ak st) .none kV doc pm an cdv ct) ⟨us,[]⟩=pure (ps.zip us)):fU K fd ps []:=by
 obtain⟨oc,od,kV,doc,pm,an,cdv,ct,osl,rfl,lk,hcd⟩:=F.ex;exact .all (h kV doc pm an cdv ct)
theorem Fd {x qual:Str}{st:Stmt}{f:Addr}{oc:Value}{od an:Option Addr}{osl:Array (Option Value)}{kV doc pm cdv ct:Value}(l:K.lookup f=some ⟨oc,od,.func (PySem.W.fnOf x qual (hJ st) (fA st) (ak st) .none kV doc pm an cdv ct),osl⟩)
  (c:PySem.W.codeIn K cdv qual=true) (k:PySem.W.keepIn K (.ref f)=true):cG K x qual st f (PySem.W.fnOf x qual (hJ st) (fA st) (ak st) .none kV doc pm an cdv ct):=⟨⟨oc,od,kV,doc,pm,an,cdv,ct,osl,rfl,l,c⟩,k⟩
end
theorem bR {A:Around}{k:Nat}(hr:cH k A):A.units+1<cLine:=NI (Nat.add_le_add_left (by decide:1<=64) _) hr.units
theorem aw {n:Nat}(h:n<=1000):n<sizeLine:=NI h (by decide)
section
variable {X:Cx}
theorem pv (i:Nat){x:Str}{pos:Pos}(hN:X.N[i]? = some x:=by rfl)(hv:K0 X.env.scope x:=by first | exact Or.inl rfl | exact Or.inr (Or.inl rfl) | exact Or.inr (Or.inr rfl))(hd:(x == ("__debug__" : Str))=false:=by decide)
  (hcd:(x == ("__classdict__" : Str))=false:=by decide):PE X (.Name x pos) (Gs i):=I0 hN hv hd hcd
end
theorem aV {A B:Prop}(h:B):if false=true then A else B:=by
 rw[Mg Mt];exact h
theorem bA {A B:Prop}(h:A):if true=true then A else B:=by
 rw[Mi rfl];exact h
theorem z8 {c A B:Prop} [Decidable c] (h1:c->A)(h2:¬ c->B):if c then A else B:=by
 by_cases h:c
 ·rw[Mi h]
  exact h1 h
 ·rw[Mg h]
  exact h2 h
def ax (H H':Hp):Prop:=∀ b o,H b=some o->H' b=some o
theorem ax.refl (H:Hp):ax H H:=fun _ _ h=>h
theorem ax.trans {H H1 H2:Hp}(a:ax H H1)(b:ax H1 H2):ax H H2:=fun c o h=>b c o (a c o h)
theorem ax.free {H H':Hp}(e:ax H H'){l:Addr}(h:H' l=Option.none):H l=Option.none:=by
 cases q:H l with
 | none=>rfl
 | some o =>
  rw[e l o q]at h;cases h
theorem ax.seq {K:PySem.W.Frag}{H H':Hp}{a:Addr}{xs:List V}(e:ax H H')(h:aW K H a xs):aW K H' a xs:=by
 rcases h with (h | ⟨o,h⟩) | h
 ·exact .inl (.inl (e _ _ h))
 ·exact .inl (.inr ⟨o,e _ _ h⟩)
 ·exact .inr h
section
variable {κ:Type} [DecidableEq κ]
theorem ny:∀ {l:List κ}{k:κ},l.Nodup->¬ k∈l->(l++[k]).Nodup
 | [],k,_,_=>by simp
 | a::r,k,h,hk=>by
  obtain⟨h1,h2⟩:=MN.mp h
  show (a::(r++[k])).Nodup
  refine MN.mpr ⟨fun m=>?_,ny h2 fun m=>hk (Ms.mpr (Or.inr m))⟩;rcases Ml.mp m with q | q
  ·exact h1 q
  ·exact hk (Ms.mpr (Or.inl (Mv.mp q).symm))
end
end L2
set_option maxHeartbeats 4000000
namespace L2
open PySem PySem.Spec PyProof.Rows
structure xu (so sc:Scope)(N N':List Str)(src:List (Option Nat)):Prop where
 kind:sc.kind=.function
 nocell:∀ y∈sc.names,y.2≠.cell
 loc:∀ y∈sc.names,y.2=.local->sc.names.lookup y.1=some .local
 fre:∀ y∈sc.names,y.2=.free->so.names.lookup y.1=some .cell\/so.names.lookup y.1=some .free
 nd:N'.Nodup
 len:src.length=N'.length
 cap:∀ p∈N'.zip src,(match p.2 with | none=>true | some j=>decide (N[j]? = some p.1/\sc.names.lookup p.1=some .free))=true
def jS (src:List (Option Nat))(σ:St):St:=src.map fun o=>o.bind fun j=>(σ[j]?).join
def cI (X:Cx)(sc:Scope)(cl:List (Str×Addr))(C:Addr)(N':List Str)(s:Shared)(H:Hp)(ex:List Addr):Cx where
 prog:=X.prog
 w:=X.w
 K:=X.K
 mg:=X.mg
 base:=X.base
 A:=X.A
 N:=N'
 s₀:=s
 H₀:=H
 env:=compEnvC sc cl C X.env
 outer:=X.stack
 stack:=X.stack
 ex:=ex
 fn:=fun _=>false
 calm:=X.calm
 pn:=[]
 xe:=fun _ _=>False
theorem jQ {env:Env}:∀ (names:List (Str×NameKind))(cs:List (Str×Addr)),(∀ y∈names,y.2=.free->∃ c,env.cells.lookup y.1=some c) ->
  (∀ x c,cs.lookup x=some c->env.cells.lookup x=some c) ->
  ∃ cl:List (Str×Addr),(forIn names cs fun x r=>if (x.2 == NameKind.free)=true then (do let a <-cellOf env x.1;pure (ForInStep.yield ((x.1,a)::r))) else pure (ForInStep.yield r):Sem (List (Str×Addr)))=pure cl /\
   (∀ x c,cl.lookup x=some c->env.cells.lookup x=some c)/\(∀ x,(∃ c,cs.lookup x=some c)->∃ c,cl.lookup x=some c)/\∀ y∈names,y.2=.free->∃ c,cl.lookup y.1=some c
 | [],cs,_,h2=>⟨cs,by rw[List.forIn_nil],h2,fun _ h=>h,fun _ h=>nomatch h⟩
 | (n,k)::r,cs,h1,h2=>by
  by_cases hk:k=.free
  ·subst hk
   obtain⟨c,hc⟩:=h1 (n,.free) Mm rfl
   have h2':∀ x d,((n,c)::cs).lookup x=some d->env.cells.lookup x=some d:=fun x d e=>by
    rw[Nq]at e;split at e
    ·rename_i hx
     cases e
     have:x=n:=by simpa using hx
     rw[this];exact hc
    ·exact h2 x d e
   obtain⟨cl,e,q1,q2,q3⟩:=jQ r ((n,c)::cs) (fun y hy=>h1 y (Mh _ hy)) h2';have has:∃ d,((n,c)::cs).lookup n=some d:=⟨c,by simp⟩;refine⟨cl,?_,q1,fun x ⟨d,hd⟩=>q2 x ?_,fun y hy hf=>?_⟩
   ·rw[List.forIn_cons,<-e]
    simp[cellOf,hc]
   ·rw[Nq]
    split
    ·exact⟨_,rfl⟩
    ·exact⟨d,hd⟩
   ·rcases Ms.mp hy with rfl | hy
    ·exact q2 _ has
    ·exact q3 y hy hf
  ·obtain⟨cl,e,q1,q2,q3⟩:=jQ r cs (fun y hy=>h1 y (Mh _ hy)) h2
   have hb:(k == NameKind.free)=false:=by simpa using hk
   refine⟨cl,?_,q1,q2,fun y hy hf=>?_⟩
   ·rw[List.forIn_cons,<-e]
    simp[hb]
   ·rcases Ms.mp hy with rfl | hy
    ·exact absurd hf hk
    ·exact q3 y hy hf
theorem jR {sc:Scope}{env:Env}(h:∀ y∈sc.names,y.2=.free->∃ c,env.cells.lookup y.1=some c) :
  ∃ cl:List (Str×Addr),closureFor sc env=pure cl/\(∀ x c,cl.lookup x=some c->env.cells.lookup x=some c)/\∀ y∈sc.names,y.2=.free->∃ c,cl.lookup y.1=some c:=by
 obtain⟨cl,e,q1,_,q3⟩:=jQ sc.names [] h (fun x c z=>by simp at z);refine⟨cl,?_,q1,q3⟩;unfold closureFor
 show (forIn sc.names [] _ >>= fun cs=>pure cs)=_
 refine Eq.trans (Ng (fun t=>t >>= fun cs=>pure cs) (Eq.trans ?_ e)) (by simp)
 congr 1
theorem qo {env:Env}:∀ {names:List (Str×NameKind)}{x:Str},(∀ y∈names,y.2≠.cell) ->
  ((names.map fun (n,k)=>if (k == NameKind.free&&env.scope.kind == .function&&env.kindOf n == some .cell) then (n,NameKind.cell) else (n,k)).lookup x=some .cell \/
    (names.map fun (n,k)=>if (k == NameKind.free&&env.scope.kind == .function&&env.kindOf n == some .cell) then (n,NameKind.cell) else (n,k)).lookup x=some .free)->(x,NameKind.free)∈names
 | [],_,_,h=>by simp at h
 | (n,k)::r,x,hc,h=>by
  have ih:=@qo env r x (fun y hy=>hc y (Mh _ hy));have h:List.lookup x ((if (k == NameKind.free&&env.scope.kind == .function&&env.kindOf n == some .cell)=true then (n,NameKind.cell) else (n,k))::_)=some .cell\/List.lookup x ((if (k == NameKind.free&&env.scope.kind == .function&&env.kindOf n == some .cell)=true then (n,NameKind.cell) else (n,k))::_)=some .free:=h
  by_cases hb:(k == NameKind.free&&env.scope.kind == .function&&env.kindOf n == some .cell)=true
  ·rw[Mi hb]at h
   cases hx:x == n with
   | true =>
    have e:x=n:=by simpa using hx
    subst e
    have:k=NameKind.free:=by
     simp only[N7,Oq]at hb;exact hb.1.1
    subst this;exact Mm
   | false =>
    simp only[Nq,hx]at h;exact Mh _ (ih h)
  ·rw[Mg hb]at h
   cases hx:x == n with
   | true =>
    have e:x=n:=by simpa using hx
    subst e;have hk:=hc (x,k) Mm;simp only[Nq,beq_self_eq_true,Option.some.injEq]at h;rcases h with h | h
    ·exact absurd h hk
    ·subst h;exact Mm
   | false =>
    simp only[Nq,hx]at h;exact Mh _ (ih h)
theorem oJ {env:Env}:∀ {names:List (Str×NameKind)}{x:Str},names.lookup x=some .free ->
  ((names.map fun (n,k)=>if (k == NameKind.free&&env.scope.kind == .function&&env.kindOf n == some .cell) then (n,NameKind.cell) else (n,k)).lookup x=some .cell \/
    (names.map fun (n,k)=>if (k == NameKind.free&&env.scope.kind == .function&&env.kindOf n == some .cell) then (n,NameKind.cell) else (n,k)).lookup x=some .free)
 | [],_,h=>by simp at h
 | (n,k)::r,x,h=>by
  have ih:=@oJ env r x
  show List.lookup x ((if (k == NameKind.free&&env.scope.kind == .function&&env.kindOf n == some .cell)=true then (n,NameKind.cell) else (n,k))::_)=some .cell\/List.lookup x ((if (k == NameKind.free&&env.scope.kind == .function&&env.kindOf n == some .cell)=true then (n,NameKind.cell) else (n,k))::_)=some .free
  cases hx:x == n with
  | true =>
   simp only[Nq,hx,Option.some.injEq]at h;subst h
   by_cases hb:(NameKind.free == NameKind.free&&env.scope.kind == .function&&env.kindOf n == some .cell)=true
   ·rw[Mi hb];left;simp only[Nq,hx]
   ·rw[Mg hb];right;simp only[Nq,hx]
  | false =>
   simp only[Nq,hx]at h
   by_cases hb:(k == NameKind.free&&env.scope.kind == .function&&env.kindOf n == some .cell)=true
   ·rw[Mi hb];simp only[Nq,hx];exact ih h
   ·rw[Mg hb];simp only[Nq,hx];exact ih h
theorem gJ {prog:Program}{w:World}{A:Around}{R:Result->Shared->Prop}{s:Shared}{elt target iter:Expr}{ifs:List Expr}{scope:Scope}{pos:Pos}{it acc:Value}{env:Env}(I:Nat->Shared->Prop)
  (turn:∀ n s,I n s->wpAny (model prog w) A (pyNext it) (fun r s₁=>match r with
   | none=>R (.ok .next) s₁
   | some v=>wpAny (model prog w) A (letOwnedTupleGo target it v) (fun _ s₁'=>wpAny (model prog w) A (assign target env v) (fun _ s₂ =>
     wpAny (model prog w) A (forIn ifs true fun c r=>if r=true then do let ok <-isTrue c env (eval c env);pure (ForInStep.yield ok) else pure (ForInStep.yield r)) (fun ok s₃ =>
      if ok=true then wpAny (model prog w) A (eval elt env) (fun x s₄ =>
       wpAny (model prog w) A (call (.builtin "list.append") [acc,x]) (fun _ s₅=>∃ m,m<n/\I m s₅) (fun _ _=>False) s₄) (fun _ _=>False) s₃
      else ∃ m,m<n/\I m s₃) (fun _ _=>False) s₂) (fun _ _=>False) s₁') (fun _ _=>False) s₁) (fun _ _=>False) s)
  (n:Nat) (h:I n s) :
  codeAny (model prog w) A (.compLoop (.ListComp elt [⟨target,iter,ifs,0⟩] scope pos) 0 it acc env) R s:=by
 refine codeAny_loop rfl I (fun n s hI=>?_) n h
 show wpAny _ A ((compTurn (.ListComp elt [⟨target,iter,ifs,0⟩] scope pos) 0 it acc env).onRaise (fun x=>do noteFrame x env;theTreesLotGoes x)) _ _ s
 refine wpAny_noted ?_;rw[compTurn_list];refine Mf (NB (Mf (MP (turn n s hI) (fun r s₁ h₁=>?_) fun _ _ h'=>h'.elim)))
 cases r with
 | none=>exact Mq h₁
 | some v =>
  refine Mf (MP h₁ (fun _ s₁' h₁'=>?_) fun _ _ h'=>h'.elim);refine Mf (MP h₁' (fun _ s₂ h₂=>Mf (MP h₂ (fun ok s₃ h₃=>?_) fun _ _ h'=>h'.elim)) fun _ _ h'=>h'.elim)
  cases ok with
  | false=>exact Mq ⟨rfl,h₃⟩
  | true =>
   exact Mf (Mf (MP h₃ (fun x s₄ h₄=>Mf (MP h₄ (fun _ s₅ h₅=>Mq (Mq ⟨rfl,h₅⟩)) fun _ _ h'=>h'.elim)) fun _ _ h'=>h'.elim))
def HQ (X:Cx)(ifs:List Expr)(t:TT):Prop :=
 ∀ (pins:List (Addr×Obj))(s:Shared)(σ:St)(H:Hp)(Q:Bool->Hp->Prop),aK X pins σ H s->t σ H Q ->
  wpAny (model X.prog X.w) X.A (forIn ifs true fun c r=>if r=true then do let ok <-isTrue c X.env (eval c X.env);pure (ForInStep.yield ok) else pure (ForInStep.yield r)) (TP X pins σ Q) X.xe s
def wv:TT:=fun _ H Q=>Q true H
theorem dh {X:Cx}:HQ X [] wv:=fun pins s σ H Q I h=>wpAny_tests_nil ⟨H,I,h⟩
theorem j5 {X:Cx}{c:Expr}{t:TT}(h:PT X c t):HQ X [c] t:=fun pins s σ H Q I hq=>wpAny_tests_one (h pins s σ H Q I hq)
def EF (tt:TT)(te:TE)(a:Addr):TS:=fun D σ H=>tt σ H fun b H1=>if b=true then te σ H1 fun y H2=>∃ ys,H2 a=some (.lst ys)/\ys.length<sizeLine/\D.nx σ (upd H2 a (.lst (ys++[y]))) else D.nx σ H1
def kT (J:It)(g:TG)(tb:TS)(D:kY)(σ:St)(H:Hp):Prop:=∃ W:Nat->Nat->St->Hp->Prop,(∃ m,W 0 m σ H)/\∀ i m σ H,W i m σ H ->
 (J.stop i H/\D.nx σ H)\/(J.go i H/\∃ N:St->Hp->Prop,(∀ σ' H',N σ' H'->∃ m',m'<m/\W (i+1) m' σ' H')/\∀ x H',J.yld i H x H'->g x σ H' fun σ2 H2=>tb { D with nx:=N,ct:=N,bk:=D.nx } σ2 H2)
def Kk (wi:TI)(g:TG)(tt:TT)(te:TE)(src:List (Option Nat)):TE:=fun σ H Q=>wi σ H fun J H1=>∀ a,H1 a=none ->
 kT J g (EF tt te a) { nx:=fun _ H'=>Q (.ref a) H',rt:=fun _ _=>False } (jS src σ) (upd H1 a (.lst []))
theorem p0 {X:Cx}{pins:List (Addr×Obj)}{σ:St}{H:Hp}{s:Shared}{sc so:Scope}{N':List Str}{src:List (Option Nat)}{cl:List (Str×Addr)}{fp:List Addr}{h':Heap}
  (I:aK X pins σ H s) (hso:X.env.scope=so) (S:xu so sc X.N N' src) (q1:∀ x c,cl.lookup x=some c->X.env.cells.lookup x=some c) (q3:∀ y∈sc.names,y.2=.free->∃ c,cl.lookup y.1=some c)
  (hf:∀ b∈fp,lK X pins H b) (hlt:∀ b∈fp,b<s.heap.objs.size) (hns:h'.Ns s.heap.objs.size fun _=>none) (hk:∀ b o,s.heap.get? b=some o->h'.get? b=some o) (tk:Nat) :
  aK (cI X sc cl s.heap.objs.size N' s H fp) [] (jS src σ) H { s with heap:=h',toks:=tk }:=by
 have hb:∀ b∈fp,b≠s.heap.objs.size/\∀ x c,cl.lookup x=some c->c≠b:=fun b z=>⟨MB (hlt b z),fun x c e=>(hf b z).2.2.2.2.1 x c (q1 x c e)⟩
 refine⟨⟨I.ok.mod,?_,I.ok.glob,I.ok.blt,Mn _,fun x y c h1 h2=>I.ok.inj x y c (q1 _ _ h1) (q1 _ _ h2),fun x hx=>?_,fun x c hx _=>(by cases hx),I.ok.hd,I.ok.frames,.inl rfl,hb,I.bs,MZ I.ok.bsz I.sz,fun b o e z=>?_,fun b z hz=>?_,I.stack,I.stkFree⟩,
  rfl,I.bare,Un.kept hk,⟨_,hns,fun i x v h1 h2 h3=>?_⟩,fun x c e=>?_,I.hok.fresh (Mn _),fun x c e=>I.freeC x c (q1 x c e),fun p hp=>absurd (show p∈([]:List (Addr×Obj)) from hp) (by simp),I.hok.kept hk,?_⟩
 ·show (relabel sc X.env).kind=_
  exact S.kind
 ·have hx':(x,NameKind.free)∈sc.names:=qo S.nocell hx
  exact q3 _ hx' rfl
 ·rcases (hf b z).2.2.2.1 with y | y
  ·exact I.ok.noex b o e y
  ·exact absurd (MR (Mw e) (MZ I.ok.bsz y)) (Nat.lt_irrefl _)
 ·rcases Ms.mp (I.stkSub b hz) with y | y
  ·exact (hf b z).2.1 y
  ·exact (hf b z).2.2.1 y
 ·-- the captured names
  have h1':N'[i]? = some x:=h1;have h2':(jS src σ)[i]? = some (some v):=h2;unfold jS at h2';rw[List.getElem?_map]at h2'
  cases hs:src[i]? with
  | none=>rw[hs]at h2';cases h2'
  | some o =>
   rw[hs]at h2';have h2'':(o.bind fun j=>(σ[j]?).join)=some v:=Mu h2'
   cases o with
   | none=>cases h2''
   | some j =>
    have hj:(σ[j]?).join=some v:=h2''
    have hσ:σ[j]? = some (some v):=by
     cases e:σ[j]? with
     | none=>rw[e]at hj;cases hj
     | some z=>rw[e]at hj;rw[show z=some v from hj]
    have hzip:(x,some j)∈N'.zip src:=by
     have:(N'.zip src)[i]? = some (x,some j):=by
      rw[List.getElem?_zip_eq_some];exact⟨h1',hs⟩
     exact MA this
    have hc:=Nl (S.cap _ hzip);obtain⟨hN,hfr⟩:X.N[j]? = some x/\sc.names.lookup x=some .free:=hc;have hmem:(x,NameKind.free)∈sc.names:=N4 hfr;have hvis:=S.fre _ hmem rfl;rw[<-hso]at hvis;obtain⟨m,hn,hl⟩:=I.loc;obtain⟨u,ru,lk⟩:=hl j x v hN hσ (.inr hvis);refine⟨u,ru,.inr ⟨oJ hfr,?_⟩⟩;obtain⟨c,hcl⟩:=q3 _ hmem rfl;refine⟨c,hcl,?_⟩;rcases lk with ⟨k,_⟩ | ⟨_,c',e',z⟩
    ·have k:X.env.scope.names.lookup x=some .local:=k
     rcases hvis with y | y<;>(rw[k]at y;cases y)
    ·have:=q1 x c hcl
     rw[e']at this;cases this;obtain⟨ob,e1,e2⟩:=z;exact⟨ob,hk _ _ e1,e2⟩
 ·obtain⟨v,ob,e1,e2⟩:=I.cell x c (q1 x c e)
  exact⟨v,ob,hk _ _ e1,e2⟩
 ·show (jS src σ).length=N'.length
  unfold jS;rw[Me];exact S.len
theorem lQ {X:Cx}{pins:List (Addr×Obj)}{σ:St}{H:Hp}{s:Shared}{l:Addr}{xs:List V}{y:V}{u:Value}{E:Value->Shared->Prop}(I:aK X pins σ H s)(hH:H l=some (.lst xs))(hz:xs.length<sizeLine)(ru:bu y u) :
  wpAny (model X.prog X.w) X.A (call (.builtin "list.append") [.ref l,u]) (fun _ s'=>aK X pins σ (upd H l (.lst (xs++[y]))) s') E s:=by
 obtain⟨z,its,n,r,hl,e⟩:=I.lstM hH;refine call_meets F.slot_list_append ⟨_,e,rfl⟩ F.entry_list_append (F.args_list_append_2 _ _) (PySem.list_append l its.toArray n u (by rw[My];omega)) ⟨e,?_⟩;refine I.lset (its':=its++[u]) hH e (by simp) (r.append (.cons ru .nil)) ?_;rw[Mj,MU];omega
theorem df {X:Cx}{elt tg iter:Expr}{ifs:List Expr}{sc so:Scope}{pos:Pos}{N':List Str}{src:List (Option Nat)}{wi:TI}{g:TG}{tt:TT}{te:TE}{N:List Str}(hso:X.env.scope=so)(hXN:X.N=N)(S:xu so sc N N' src)(hc:X.calm=true)(hi:PI X tg iter wi)
  (hb:∀ (cl:List (Str×Addr))(C:Addr)(s:Shared)(H:Hp)(ex:List Addr),PG (cI X sc cl C N' s H ex) tg g/\HQ (cI X sc cl C N' s H ex) ifs tt/\PE (cI X sc cl C N' s H ex) elt te)
  (hs:∀ x,foldedSetIterable iter X.env x=pure x:=by intro _;rfl):PE X (.ListComp elt [⟨tg,iter,ifs,0⟩] sc pos) (Kk wi g tt te src):=by
 subst hXN;intro pins s σ H Q I h
 obtain⟨cl,hcl,q1,q3⟩:=jR (sc:=sc) (env:=X.env) fun y hy hf=>by
  have:=S.fre y hy hf;rw[<-hso]at this;exact I.ok.has y.1 this
 rw[eval_ListComp];refine wpAny_comprehension_free (use:=none) rfl hs hcl S.kind S.loc (bH (hi pins s σ H _ I h) fun v s1 h1=>bH h1 fun itv s2 h2=>?_);obtain⟨it,fp,tn,J,H2,e,I2,T,st2,f2,hR⟩:=h2;subst e;refine Ni ?_
 have I3:aK X pins σ (upd H2 s2.heap.objs.size (.lst [])) { s2 with heap:=s2.heap.push { cls:=.type "list",dict:=none,data:=.seq ([]:List Value).toArray } } :=
  I2.laid (t':=s2.toks) (fun b u q=>Heap.get?_push_of_some _ q) (Mn _) ⟨MD _,[],0,.nil,Heap.get?_push_size _ rfl⟩
 have hfr:=I2.hok.fresh (Mn s2.heap.objs.size);obtain⟨W,⟨m0,w0⟩,turn⟩:=hR _ hfr
 have flt:∀ b∈fp,b<s2.heap.objs.size:=fun b hb=>by obtain⟨o,e,_⟩:=T.obj _ _ st2 b hb;exact Mw e
 generalize hs3:({ s2 with heap:=s2.heap.push { cls:=.type "list",dict:=none,data:=.seq ([]:List Value).toArray } }:Shared)=s3 at I3 ⊢
 have e3:s3.heap=s2.heap.push { cls:=.type "list",dict:=none,data:=.seq ([]:List Value).toArray }:=by rw[<-hs3]
 have sz3:s3.heap.objs.size=s2.heap.objs.size+1:=by rw[e3,NW]
 have hf3:∀ b∈fp,lK X pins (upd H2 s2.heap.objs.size (.lst [])) b:=fun b hb=>⟨by rw[af (MB (flt b hb))];exact (f2 b hb).1,(f2 b hb).2⟩
 have flt3:∀ b∈fp,b<s3.heap.objs.size:=fun b hb=>by rw[sz3];exact NM (flt b hb)
 have st3:tn 0 s3.heap:=T.keep _ _ _ st2 fun b _ o e=>by rw[e3];exact Heap.get?_push_of_some _ e
 refine wpAny_newFunctionEnv S.nocell (by intro y hy;simp at hy) (fun h4 hns4 hsb4=>?_) S.kind;have kp4:∀ b o,s3.heap.get? b=some o->h4.get? b=some o:=fun b o e=>hsb4.extBut b o (MB (Mw e)) (Heap.get?_push_of_some _ e);have I4:=p0 (h':=h4) I3 hso S q1 q3 hf3 flt3 (by simpa using hns4) kp4 (s3.toks+([]:List (Str×Value)).length);have st4:tn 0 h4:=T.keep _ _ _ st3 fun b _ o e=>kp4 b o e;generalize hC:s3.heap.objs.size=C at I4 hns4 hsb4 ⊢;obtain⟨hg,ht,he⟩:=hb cl C s3 (upd H2 s2.heap.objs.size (.lst [])) fp
 let Y:Cx:=cI X sc cl C N' s3 (upd H2 s2.heap.objs.size (.lst [])) fp
 have loop:∀ s5:Shared,s5={ s3 with heap:=h4,toks:=s3.toks+([]:List (Str×Value)).length }->codeAny (model X.prog X.w) X.A (.compLoop (.ListComp elt [⟨tg,iter,ifs,0⟩] sc pos) 0 (.ref it) (.ref s2.heap.objs.size) (compEnvC sc cl C X.env))
   (compPost (model X.prog X.w) X.A X.xe none (EP X pins σ Q) (.ref s2.heap.objs.size) C) s5:=by
  rintro s5 rfl
  have stat:∀ {H':Hp},(∀ b∈fp,H' b=none)->∀ b∈fp,lK Y [] H' b:=fun {H'} hn b hb=>by
   obtain⟨f0,f1,f2',f3,f4,f5⟩:=hf3 b hb;refine⟨hn b hb,?_,fun z=>?_,.inl hb,fun x c e=>f4 x c (q1 x c e),fun p hp=>absurd (show p∈([]:List (Addr×Obj)) from hp) (by simp)⟩
   ·show b≠C
    rw[<-hC];exact MB (flt3 b hb)
   ·have z:b∈jU X.stack:=z
    rcases Ms.mp (I3.stkSub b z) with y | y
    ·exact f1 y
    ·exact f2' y
  refine gJ (fun n s'=>∃ i σ' H',aK Y [] σ' H' s'/\tn i s'.heap/\(∀ b∈fp,H' b=none)/\W i n σ' H') ?_ m0 ⟨0,_,_,I4,st4,fun b hb=>(hf3 b hb).1,w0⟩;rintro n s6 ⟨i,σ6,H6,I6,st6,fr6,w6⟩;rcases turn i n σ6 H6 w6 with ⟨stop,qn⟩ | ⟨go,Nx,hN,step⟩
  ·refine bH (T.done Y rfl rfl rfl hc i [] s6 σ6 H6 _ I6 (stat fr6) st6 stop) fun r s7 ⟨hr,I7⟩=>?_
   subst hr;obtain⟨m,hn,_⟩:=id I7.loc;refine⟨m,hn,fun h' hsb=>?_⟩
   have neC:∀ b o,s3.heap.get? b=some o->b≠C:=fun b o e=>by rw[<-hC];exact MB (Mw e)
   have freeC:H6 C=none:=I7.free
   have un:Un (jU X.stack) fp (upd H2 s2.heap.objs.size (.lst [])) H6 s3.heap h' :=
    ⟨fun b o e n hb hx=>(hsb.2 b (neC b o e)).trans (I7.base.keep b o e n hb hx),fun b o e n hb hx=>by
      obtain⟨sl,q⟩:=I7.base.slot b o e n hb hx
      exact⟨sl,(hsb.2 b (neC b o e)).trans q⟩,I7.base.free,fun b o e hx=>by
      obtain⟨o',q⟩:=I7.base.there b o e hx
      exact⟨o',(hsb.2 b (neC b o e)).trans q⟩,I7.base.tups,I7.base.frzs,I7.base.tbls⟩
   have hok:kS X.prog X.w H6 h':=fun b ob e=>by
    refine (I7.hok b ob e).stay (fun c w' hc' q=>(hsb.2 c ?_).trans q) (fun _ q=>q) fun _ _ q=>q;rintro rfl;rcases hc' with z | z
    ·rw[<-z,freeC]at e;cases e
    ·rw[freeC]at z;cases z
   have J7:aK X pins σ H6 { s7 with heap:=h' }:=I3.call' (ch:=fp) (s':={ s7 with heap:=h' }) I7.os un hok I7.bare fun b hb=>⟨(hf3 b hb).2.2.2.1,(hf3 b hb).2.1,(hf3 b hb).2.2.2.2.1,(hf3 b hb).2.2.2.2.2⟩;exact⟨.ref s2.heap.objs.size,H6,J7,rfl,qn⟩
  ·refine bH (T.item Y rfl rfl rfl hc i [] s6 σ6 H6 _ I6 (stat fr6) st6 go) fun r s7 ⟨u,hr,h7⟩=>?_
   subst hr;refine bH h7 fun _ s8 ⟨x,H8,I8,r8,y8,st8,fr8⟩=>?_;have I8':=I8.pinned (stat fr8) (T.obj _ _ st8);refine bH (hg _ s8 σ6 H8 x u _ I8' r8 (step x H8 y8)) fun _ s9 ⟨σ9,H9,I9,q9⟩=>?_
   have again:∀ {s':Shared}{σ7:St}{H7:Hp},aK Y ([]++jZ fp s8.heap) σ7 H7 s'->Nx σ7 H7->∃ m,m<n/\∃ i σ' H',aK Y [] σ' H' s'/\tn i s'.heap/\(∀ b∈fp,H' b=none)/\W i m σ' H':=fun {s' σ7 H7} I7 n7=>by
    obtain⟨m',hm,w7⟩:=hN σ7 H7 n7;refine⟨m',hm,i+1,σ7,H7,I7.unpinned,T.keep _ _ _ st8 fun b hb o e=>(I7.pin (b,o) (MC _ (MC _ (b9 hb e)))).1,fun b hb=>?_,w7⟩;obtain⟨o,e,d⟩:=T.obj _ _ st8 b hb;exact (I7.pin (b,o) (MC _ (MC _ (b9 hb e)))).2.1
   refine bH (ht _ s9 σ9 H9 _ I9 q9) fun ok s10 ⟨H10,I10,q10⟩=>?_
   cases ok with
   | false =>
    rw[Mg Mt]at q10 ⊢;exact again I10 q10
   | true =>
    rw[Mi rfl]at q10 ⊢;refine bH (he _ s10 σ9 H10 _ I10 q10) fun y s11 ⟨yv,H11,I11,ry,ys,hys,hlen,q11⟩=>?_;exact bH (lQ (X:=Y) I11 hys hlen ry) fun _ s12 I12=>again I12 q11
 exact codeAny_compStart_list (loop _ rfl) (T.self _ 0 _ _ _ st4 (loop _ rfl))
def Jp (wi:TI)(g:TG)(tt:TT)(te:TE)(src:List (Option Nat))(i:Nat):TS:=fun D σ H=>wi σ H fun J H1=>∀ a,H1 a=none ->
 kT J g (EF tt te a) { nx:=fun _ H'=>D.nx (σ.set i (some (.ref a))) H',rt:=fun _ _=>False } (jS src σ) (upd H1 a (.lst []))
theorem y7 {X:Cx}{ix:Nat}{x:Str}{px spos:Pos}{elt tg iter:Expr}{ifs:List Expr}{sc so:Scope}{pos:Pos}{N':List Str}{src:List (Option Nat)}{wi:TI}{g:TG}{tt:TT}{te:TE}{N:List Str}(hso:X.env.scope=so)(hXN:X.N=N)(S:xu so sc N N' src)(hc:X.calm=true)(hi:PI X tg iter wi)
  (hb:∀ (cl:List (Str×Addr))(C:Addr)(s:Shared)(H:Hp)(ex:List Addr),PG (cI X sc cl C N' s H ex) tg g/\HQ (cI X sc cl C N' s H ex) ifs tt/\PE (cI X sc cl C N' s H ex) elt te)
  (hnd:X.N.Nodup) (hix:X.N[ix]? = some x) (hx:X.env.scope.names.lookup x=some .local)
  (hsw:swapsWith (.ListComp elt [⟨tg,iter,ifs,0⟩] sc pos) (some (.Name x px)) spos.line X.env=pure true:=by rfl)
  (hs:∀ x,foldedSetIterable iter X.env x=pure x:=by intro _;rfl):PS X (.Assign [.Name x px] (.ListComp elt [⟨tg,iter,ifs,0⟩] sc pos) spos) (Jp wi g tt te src ix):=by
 subst hXN;intro pins s σ H D I h
 obtain⟨cl,hcl,q1,q3⟩:=jR (sc:=sc) (env:=X.env) fun y hy hf=>by
  have:=S.fre y hy hf;rw[<-hso]at this;exact I.ok.has y.1 this
 rw[exec_Assign_Name_used _ _ _ _ hsw];refine Mf (NB (Mf ?_))
 show wpAny _ X.A (do let _ <-comprehension (.ListComp elt [⟨tg,iter,ifs,0⟩] sc pos) sc X.env _ (newList []) false (eval iter X.env) (some (assign (.Name x px) X.env))) _ _ s
 refine Mf (MP (wpAny_comprehension_free (use:=some (assign (.Name x px) X.env)) (Q:=fun _ s'=>SP X pins D .next s') rfl hs hcl S.kind S.loc (bH (hi pins s σ H _ I h) fun v s1 h1=>bH h1 fun itv s2 h2=>?_)) (fun _ s' hq=>Mq (Mq hq)) fun _ _ e=>e);obtain⟨it,fp,tn,J,H2,e,I2,T,st2,f2,hR⟩:=h2;subst e;refine Ni ?_
 have I3:aK X pins σ (upd H2 s2.heap.objs.size (.lst [])) { s2 with heap:=s2.heap.push { cls:=.type "list",dict:=none,data:=.seq ([]:List Value).toArray } } :=
  I2.laid (t':=s2.toks) (fun b u q=>Heap.get?_push_of_some _ q) (Mn _) ⟨MD _,[],0,.nil,Heap.get?_push_size _ rfl⟩
 have hfr:=I2.hok.fresh (Mn s2.heap.objs.size);obtain⟨W,⟨m0,w0⟩,turn⟩:=hR _ hfr
 have flt:∀ b∈fp,b<s2.heap.objs.size:=fun b hb=>by obtain⟨o,e,_⟩:=T.obj _ _ st2 b hb;exact Mw e
 generalize hs3:({ s2 with heap:=s2.heap.push { cls:=.type "list",dict:=none,data:=.seq ([]:List Value).toArray } }:Shared)=s3 at I3 ⊢
 have e3:s3.heap=s2.heap.push { cls:=.type "list",dict:=none,data:=.seq ([]:List Value).toArray }:=by rw[<-hs3]
 have sz3:s3.heap.objs.size=s2.heap.objs.size+1:=by rw[e3,NW]
 have hf3:∀ b∈fp,lK X pins (upd H2 s2.heap.objs.size (.lst [])) b:=fun b hb=>⟨by rw[af (MB (flt b hb))];exact (f2 b hb).1,(f2 b hb).2⟩
 have flt3:∀ b∈fp,b<s3.heap.objs.size:=fun b hb=>by rw[sz3];exact NM (flt b hb)
 have st3:tn 0 s3.heap:=T.keep _ _ _ st2 fun b _ o e=>by rw[e3];exact Heap.get?_push_of_some _ e
 refine wpAny_newFunctionEnv S.nocell (by intro y hy;simp at hy) (fun h4 hns4 hsb4=>?_) S.kind;have kp4:∀ b o,s3.heap.get? b=some o->h4.get? b=some o:=fun b o e=>hsb4.extBut b o (MB (Mw e)) (Heap.get?_push_of_some _ e);have I4:=p0 (h':=h4) I3 hso S q1 q3 hf3 flt3 (by simpa using hns4) kp4 (s3.toks+([]:List (Str×Value)).length);have st4:tn 0 h4:=T.keep _ _ _ st3 fun b _ o e=>kp4 b o e;generalize hC:s3.heap.objs.size=C at I4 hns4 hsb4 ⊢;obtain⟨hg,ht,he⟩:=hb cl C s3 (upd H2 s2.heap.objs.size (.lst [])) fp
 let Y:Cx:=cI X sc cl C N' s3 (upd H2 s2.heap.objs.size (.lst [])) fp
 have loop:∀ s5:Shared,s5={ s3 with heap:=h4,toks:=s3.toks+([]:List (Str×Value)).length }->codeAny (model X.prog X.w) X.A (.compLoop (.ListComp elt [⟨tg,iter,ifs,0⟩] sc pos) 0 (.ref it) (.ref s2.heap.objs.size) (compEnvC sc cl C X.env))
   (compPost (model X.prog X.w) X.A X.xe (some (assign (.Name x px) X.env)) (fun _ s'=>SP X pins D .next s') (.ref s2.heap.objs.size) C) s5:=by
  rintro s5 rfl
  have stat:∀ {H':Hp},(∀ b∈fp,H' b=none)->∀ b∈fp,lK Y [] H' b:=fun {H'} hn b hb=>by
   obtain⟨f0,f1,f2',f3,f4,f5⟩:=hf3 b hb;refine⟨hn b hb,?_,fun z=>?_,.inl hb,fun x c e=>f4 x c (q1 x c e),fun p hp=>absurd (show p∈([]:List (Addr×Obj)) from hp) (by simp)⟩
   ·show b≠C
    rw[<-hC];exact MB (flt3 b hb)
   ·have z:b∈jU X.stack:=z
    rcases Ms.mp (I3.stkSub b z) with y | y
    ·exact f1 y
    ·exact f2' y
  refine gJ (fun n s'=>∃ i σ' H',aK Y [] σ' H' s'/\tn i s'.heap/\(∀ b∈fp,H' b=none)/\W i n σ' H') ?_ m0 ⟨0,_,_,I4,st4,fun b hb=>(hf3 b hb).1,w0⟩;rintro n s6 ⟨i,σ6,H6,I6,st6,fr6,w6⟩;rcases turn i n σ6 H6 w6 with ⟨stop,qn⟩ | ⟨go,Nx,hN,step⟩
  ·refine bH (T.done Y rfl rfl rfl hc i [] s6 σ6 H6 _ I6 (stat fr6) st6 stop) fun r s7 ⟨hr,I7⟩=>?_
   subst hr;obtain⟨m,hn,_⟩:=id I7.loc;have freeC:H6 C=none:=I7.free;have J7:aK X pins σ H6 s7:=I3.call' (ch:=fp) (s':=s7) I7.os I7.base I7.hok I7.bare fun b hb=>⟨(hf3 b hb).2.2.2.1,(hf3 b hb).2.1,(hf3 b hb).2.2.2.2.1,(hf3 b hb).2.2.2.2.2⟩
   have hC3:∀ b o,s3.heap.get? b=some o->b≠C:=fun b o e=>by rw[<-hC];exact MB (Mw e)
   have hlC:X.env.locals≠C:=by obtain⟨m3,⟨o3,_,_,e3',_⟩,_⟩:=I3.loc;exact hC3 _ _ e3'
   have hcC:∀ y c,X.env.cells.lookup y=some c->c≠C:=fun y c e=>by obtain⟨v3,o3,e3',_⟩:=I3.cell y c e;exact hC3 _ _ e3'
   have hpC:∀ p∈X.pn++pins,p.1≠C:=fun p hp=>hC3 _ _ (I3.pin p hp).1;refine wpAny_assign_Name (x9 (i:=ix) (v:=.ref s2.heap.objs.size) J7 hnd hix (.inl hx) rfl (fun s8 I8 ⟨a8,sb8,ha8⟩=>?_) (.inr hx))
   have ha8C:C≠a8:=by
    rcases ha8 with z | z
    ·rw[z];exact ME hlC
    ·exact ME (hcC _ _ z)
   refine⟨m,hn.sameBut sb8 ha8C,fun h' hsb=>?_⟩
   have I9:aK X pins (σ.set ix (some (.ref s2.heap.objs.size))) H6 { s8 with heap:=h' } :=
    I8.turned (it:=C) (t':=s8.toks) (fun b o hb e=>(hsb.2 b hb).trans e) freeC (ME hlC) (.inr (by rw[<-hC];exact I3.sz)) hcC hpC
   exact⟨_,H6,I9,qn⟩
  ·refine bH (T.item Y rfl rfl rfl hc i [] s6 σ6 H6 _ I6 (stat fr6) st6 go) fun r s7 ⟨u,hr,h7⟩=>?_
   subst hr;refine bH h7 fun _ s8 ⟨x,H8,I8,r8,y8,st8,fr8⟩=>?_;have I8':=I8.pinned (stat fr8) (T.obj _ _ st8);refine bH (hg _ s8 σ6 H8 x u _ I8' r8 (step x H8 y8)) fun _ s9 ⟨σ9,H9,I9,q9⟩=>?_
   have again:∀ {s':Shared}{σ7:St}{H7:Hp},aK Y ([]++jZ fp s8.heap) σ7 H7 s'->Nx σ7 H7->∃ m,m<n/\∃ i σ' H',aK Y [] σ' H' s'/\tn i s'.heap/\(∀ b∈fp,H' b=none)/\W i m σ' H':=fun {s' σ7 H7} I7 n7=>by
    obtain⟨m',hm,w7⟩:=hN σ7 H7 n7;refine⟨m',hm,i+1,σ7,H7,I7.unpinned,T.keep _ _ _ st8 fun b hb o e=>(I7.pin (b,o) (MC _ (MC _ (b9 hb e)))).1,fun b hb=>?_,w7⟩;obtain⟨o,e,d⟩:=T.obj _ _ st8 b hb;exact (I7.pin (b,o) (MC _ (MC _ (b9 hb e)))).2.1
   refine bH (ht _ s9 σ9 H9 _ I9 q9) fun ok s10 ⟨H10,I10,q10⟩=>?_
   cases ok with
   | false =>
    rw[Mg Mt]at q10 ⊢;exact again I10 q10
   | true =>
    rw[Mi rfl]at q10 ⊢;refine bH (he _ s10 σ9 H10 _ I10 q10) fun y s11 ⟨yv,H11,I11,ry,ys,hys,hlen,q11⟩=>?_;exact bH (lQ (X:=Y) I11 hys hlen ry) fun _ s12 I12=>again I12 q11
 exact codeAny_compStart_list (loop _ rfl) (T.self _ 0 _ _ _ st4 (loop _ rfl))
section
variable {X:Cx}
def JH (i j:Int):Prop:=0<j/\j<1152921504606846976
theorem FM:sR X (binaryOp .FloorDiv) (rI JH fun i j=>.int (i/j)):=J6 fun i j _ _ _ _ _ hc q=>by
 have h1:(0:Int)<j:=hc.1;have h2:j<1152921504606846976:=hc.2;refine floordiv_int (by omega) (by rw[Int.fdiv_eq_ediv_of_nonneg i (by omega)];exact q) (.inl (PyProof.noPylong_of_log2 ?_))
 have h0:j.natAbs≠0:=by omega
 have:j.natAbs.log2<60:=(Nat.log2_lt h0).mpr (by omega);omega
theorem lR:kJ X (.builtin "isinstance") (fun xs H Q=>∃ x T t b,xs=[x,.ty T]/\kZ X.K H x t/\PySem.W.kitOne X.K t (.type T)=some b/\Q (.bl b) H):=by
 intro pins s σ H xs us Q I r h;obtain⟨x,T,t,b,rfl,ty,e,q⟩:=h
 cases r with
 | cons rx r2 =>
  cases r2 with
  | cons rt r3 =>
   cases r3;cases rt;exact DP I rx ty e fun tk=>⟨.bl b,H,I.tok tk,rfl,q⟩
theorem tE {A:Around}{bs:List Bool}{its:List Value}(r:bw (bs.map V.bl) its) :
  TruthOf X.prog X.w A (fun i v=>its.toArray[i]? = some v) (fun i=>bs.getD i false):=by
 intro i v s Q E hv hq
 have hv':its[i]? = some v:=by simpa using hv
 have hi:i<its.length:=(List.getElem?_eq_some_iff.mp hv').1;have hl:=r.length;rw[Me]at hl;obtain⟨u,hu,ru⟩:=r.get (i:=i) (x:=V.bl (bs[i]'(by omega))) (by rw[List.getElem?_map,List.getElem?_eq_getElem (by omega)];rfl);rw[hv']at hu;cases hu;cases ru
 have e:bs.getD i false=bs[i]'(by omega):=by simp[List.getD,List.getElem?_eq_getElem (show i<bs.length by omega)]
 have hq':Q (bs.getD i false) s:=hq;rw[e]at hq';exact NZ hq'
theorem Em (bs:List Bool):(List.range bs.length).all (fun i=>bs.getD i false)=bs.all id:=by
 have h:(List.range bs.length).map (fun i=>bs.getD i false)=bs:=by
  apply List.ext_getElem
  ·simp
  ·intro i h1 h2;simp[List.getD,List.getElem?_eq_getElem h2]
 have e:(List.range bs.length).all (fun i=>bs.getD i false)=((List.range bs.length).map (fun i=>bs.getD i false)).all id:=by rw[List.all_map];rfl
 rw[e,h]
theorem En (bs:List Bool):(List.range bs.length).any (fun i=>bs.getD i false)=bs.any id:=by
 have h:(List.range bs.length).map (fun i=>bs.getD i false)=bs:=by
  apply List.ext_getElem
  ·simp
  ·intro i h1 h2;simp[List.getD,List.getElem?_eq_getElem h2]
 have e:(List.range bs.length).any (fun i=>bs.getD i false)=((List.range bs.length).map (fun i=>bs.getD i false)).any id:=by rw[List.any_map];rfl
 rw[e,h]
theorem xU {pins:List (Addr×Obj)}{σ:St}{H:Hp}{s:Shared}{A:Around}{E:Value->Shared->Prop}{p:Addr}{xs:List V}{its:List Value}{R:Value->Shared->Prop}(I:aK X pins σ H s)(hA:A.handled=none)(pl:PlainL s.heap p its.toArray)
  (h:∀ (I':Addr)(St:Nat->Heap->Prop)(s2:Shared),s2.heap.objs.size=s.heap.objs.size+1->I'=s.heap.objs.size->Walks X.prog X.w A I' [I',p] [I'] its.length (fun i v=>its.toArray[i]? = some v) St->St 0 s2.heap->(∀ b o,s.heap.get? b=some o->s2.heap.get? b=some o)->(∀ h' tk,(∀ b o,b∉[I']->s2.heap.get? b=some o->h'.get? b=some o)->aK X pins σ H { s2 with heap:=h',toks:=tk })->R (.ref I') s2) :
  wpAny (model X.prog X.w) A (pyIter (.ref p)) R E s:=by
 refine wpAny_pyIter_list pl.isList ?_
 have hlt:p<s.heap.objs.size:=by obtain⟨o,n,e,_⟩:=pl;exact Mw e
 have W:=Walks.list (prog:=X.prog) (w:=X.w) hA s.heap.objs.size p (MB hlt) its.toArray;rw[My]at W;refine h _ _ _ (by rw[NW]) rfl W ⟨⟨_,Heap.get?_push_size _ rfl,rfl,rfl⟩,pl.isList.at fun o e=>Heap.get?_push_of_some _ e⟩ (fun b o e=>Heap.get?_push_of_some _ e) fun h' tk kp=>?_;exact I.kept (t':=tk) fun b o e=>kp b o (by simpa using MB (Mw e)) (Heap.get?_push_of_some _ e)
theorem xI (hc:X.calm=true):kJ X (.builtin "all") (fun xs H Q=>∃ (p:Addr)(bs:List Bool),xs=[.ref p]/\aW X.K H p (bs.map V.bl)/\Q (.bl (bs.all id)) H):=by
 intro pins s σ H xs us Q I r h;obtain⟨p,bs,rfl,hq,q⟩:=h;obtain⟨u,rfl,rx⟩:=wz r;cases rx;obtain⟨its,rv,pl,hz⟩:=I.list hq;have hl:=rv.length;rw[Me]at hl;refine call_all_walk (xU (xs:=bs.map V.bl) I (I.ok.hd hc) pl fun I' St s2 hs2 hI W st kp fin=>?_);refine⟨I',_,_,_,_,St,_,rfl,W,st,tE rv,fun h' tk k=>⟨.bl _,H,fin h' tk k,rfl,?_⟩⟩;rw[<-hl,Em];exact q
theorem qX (hc:X.calm=true):kJ X (.builtin "any") (fun xs H Q=>∃ (p:Addr)(bs:List Bool),xs=[.ref p]/\aW X.K H p (bs.map V.bl)/\Q (.bl (bs.any id)) H):=by
 intro pins s σ H xs us Q I r h;obtain⟨p,bs,rfl,hq,q⟩:=h;obtain⟨u,rfl,rx⟩:=wz r;cases rx;obtain⟨its,rv,pl,hz⟩:=I.list hq;have hl:=rv.length;rw[Me]at hl;refine call_any_walk (xU (xs:=bs.map V.bl) I (I.ok.hd hc) pl fun I' St s2 hs2 hI W st kp fin=>?_);refine⟨I',_,_,_,_,St,_,rfl,W,st,tE rv,fun h' tk k=>⟨.bl _,H,fin h' tk k,rfl,?_⟩⟩;rw[<-hl,En];exact q
theorem pZ:∀ {ns:List Int}{us:List Value},bw (ns.map V.int) us->IntsAre us ns
 | [],_,r=>by cases r;exact IntsAre.nil
 | n::ns,_,r=>by
  cases r with
  | cons r t=>obtain⟨tk,rfl⟩:=r;exact IntsAre.cons _ _ (pZ t)
theorem zB:∀ {ns:List Int}{us:List Value},IntsAre us ns->bw (ns.map V.int) us:=by
 intro ns
 induction ns with
 | nil=>intro us h;cases h;exact .nil
 | cons n ns ih =>
  intro us h
  cases h with
  | cons _ _ t=>exact .cons ⟨_,rfl⟩ (ih t)
def bn:List Int->List Int:=fun l=>l.mergeSort (fun a b=>decide (a<=b))
theorem Ba {l m:List Int}(hp:m.Perm l)(hs:m.Pairwise (·<=·)):m=bn l:=by
 have h1:(bn l).Pairwise (fun a b=>decide (a<=b)=true):=List.pairwise_mergeSort (by intro a b c;simp;omega) (by intro a b;simp;omega) l;have h2:(bn l).Pairwise (·<=·):=h1.imp (by simp);have h3:m.Perm (bn l):=hp.trans (Om l _).symm;exact h3.eq_of_pairwise (fun a b _ _ h1 h2=>Int.le_antisymm h1 h2) hs h2
theorem zC:∀ {xs:List V}{us:List Value},xs.length=us.length->(∀ (i:Nat) x u,xs[i]? = some x->us[i]? = some u->bu x u)->bw xs us
 | [],[],_,_=>.nil
 | x::xs,u::us,hl,h=>.cons (h 0 x u rfl rfl) (zC (by simpa using hl) fun i y v e1 e2=>h (i+1) y v (by simpa using e1) (by simpa using e2))
 | [],_::_,hl,_=>by simp at hl
 | _::_,[],hl,_=>by simp at hl
theorem dS (hc:X.calm=true):kJ X (.builtin "sorted") (fun xs H Q=>∃ (p:Addr)(kvs:List (cf×V))(ns:List Int),xs=[.ref p]/\H p=some (.dK kvs)/\kvs.map (·.1)=ns.map Sum.inl/\ns.length<64/\∀ l,H l=none->Q (.ref l) (upd H l (.lst ((bn ns).map V.int)))):=by
 intro pins s σ H xs us Q I r h;obtain⟨p,kvs,ns,rfl,hH,hk,h64,q⟩:=h;obtain⟨u,rfl,rx⟩:=wz r;cases rx;obtain⟨hz,lo,vs,rel,dd⟩:=(show bD X.prog X.w H s.heap p (.dK kvs) from I.hok p _ hH);obtain⟨ep,hat⟩:=dd.dictAt
 have hlk:kvs.length=ns.length:=by have:=Ng List.length hk;simpa using this
 have hlv:kvs.length=vs.length:=Mo rel;refine PySem.Calls.call_function_entry kind_sorted plain_sorted entry_sorted (args_sorted1 _) ?_;unfold Builtin.«sorted»;refine Mf (m:=checkCount "sorted" 1 1 _) (Mq ?_);refine Mf (PySem.W.kdu_collect (A:=X.A.in1) (PySem.W.kdl_dict (knd:=bz X.prog X.w) (kvs:=vs) (ep:=ep) lo) (I.ok.hd hc) hat (by rw[<-hlv];exact hz) fun h' tk acc kp hacc=>?_)
 have hal:acc.toList.length=vs.length:=by rw[N3];exact hacc.1
 refine Mf (wpAny_newList ?_ (by rw[hal,<-hlv];exact hz))
 have rI:bw (ns.map V.int) acc.toList:=zC (by rw[Me,hal];omega) fun i x v e1 e2=>by
  obtain⟨k,y,hx,hks⟩:=hacc.2 i v (by rw[<-Array.getElem?_toList];exact e2)
  have e3:(vs.map (·.1))[i]? = some k:=by rw[List.getElem?_map,hx];rfl
  rw[<-rel.keys,hk,List.getElem?_map]at e3;rw[List.getElem?_map]at e1
  cases en:ns[i]? with
  | none=>rw[en]at e1;cases e1
  | some n =>
   rw[en]at e1 e3;have e1':V.int n=x:=Mu e1;subst e1';have e4:(Sum.inl n:cf)=k:=Mu e3;subst e4;rcases bU (k:=Sum.inl n) (v:=v) hks with ⟨j,t,ej,ev⟩ | ⟨j,t,ej,_⟩
   ·cases ej;exact⟨t,ev⟩
   ·cases ej
 have hoL:(h'.push (seqObj "list" acc.toList.toArray 0)).get? h'.objs.size=some (seqObj "list" acc.toList.toArray 0):=Heap.get?_push_size _ rfl;refine Mf (NA (N6 slot_list_sort ⟨_,hoL,rfl⟩ entry_list_sort (list_sort_tree hoL (pZ rI) (by rw[hal];omega) fun out ns' a1 a2 a3=>⟨_,rfl,?_⟩) (args_list_sort _)));refine Mq ⟨_,rfl,?_⟩;have en:ns'=bn ns:=Ba a2 a3;subst en;obtain⟨e,he⟩:=sortedHeap_at (vs:=acc.toList) (out:=out) hoL;have I1:aK X pins σ H { s with heap:=h',toks:=tk }:=I.kept kp;refine⟨.ref h'.objs.size,_,I1.laid (t':=tk) (a:=h'.objs.size) (o:=.lst ((bn ns).map V.int)) (fun b o e=>?_) (Mn _) ⟨?_,out.toList,e,zB a1,by simpa using he⟩,rfl,q _ (I1.hok.fresh (Mn _))⟩
 ·rw[sortedHeap_old (MB (Mw e)) (by rw[size_push'];exact NM (Mw e))]
  exact Heap.get?_push_of_some _ e
 ·have:=a2.length_eq
  rw[Me];omega
end
inductive Dt where
 | at (v:V)
 | sq (tup:Bool) (ds:List Dt)
def lU:V->Bool
 | .non=>true
 | .int _=>true
 | .str _=>true
 | _=>false
theorem u0 {v:V}(h:lU v=true):pV v=true:=by cases v<;>first | rfl | cases h
theorem GV {x y:V}(hx:lU x=true)(hy:lU y=true):E9 x y=true↔x=y:=by
 cases x<;>cases y<;>first | (cases hx;done) | (cases hy;done) | simp[E9]
def tH (K:PySem.W.Frag)(H:Hp)(t:Bool)(a:Addr)(xs:List V):Prop:=if t=true then eZ K H a xs else aW K H a xs
def RD (K:PySem.W.Frag)(H:Hp):Nat->V->Dt->Prop
 | 0,v,d=>lU v=true/\d=.at v
 | n+1,v,d=>(lU v=true/\d=.at v)\/∃ a t xs ds,v=.ref a/\d=.sq t ds/\tH K H t a xs/\Paired (RD K H n) xs ds
theorem RD.flat {K:PySem.W.Frag}{H:Hp}{v:V}(h:lU v=true):∀ n,RD K H n v (.at v)
 | 0=>⟨h,rfl⟩
 | _+1=>.inl ⟨h,rfl⟩
theorem RD.lst {K:PySem.W.Frag}{H:Hp}{a:Addr}{xs:List V}{ds:List Dt}{n:Nat}(h:aW K H a xs)(r:Paired (RD K H n) xs ds):RD K H (n+1) (.ref a) (.sq false ds) :=
 .inr ⟨a,false,xs,ds,rfl,rfl,by unfold tH;rw[Mg Mt];exact h,r⟩
theorem RD.tup {K:PySem.W.Frag}{H:Hp}{a:Addr}{xs:List V}{ds:List Dt}{n:Nat}(h:eZ K H a xs)(r:Paired (RD K H n) xs ds):RD K H (n+1) (.ref a) (.sq true ds) :=
 .inr ⟨a,true,xs,ds,rfl,rfl,by unfold tH;rw[Mi rfl];exact h,r⟩
section
variable {X:Cx}{pins:List (Addr×Obj)}{σ:St}{H:Hp}{s:Shared}
theorem RD.inj (I:aK X pins σ H s):∀ {n m:Nat}{v:V}{d e:Dt},RD X.K H n v d->RD X.K H m v e->d=e:=by
 intro n
 induction n with
 | zero =>
  intro m v d e h1 h2;obtain⟨f,rfl⟩:=h1
  cases m with
  | zero=>exact h2.2.symm
  | succ m =>
   rcases h2 with h2 | ⟨a,t,xs,ds,rfl,_⟩
   ·exact h2.2.symm
   ·cases f
 | succ n ih =>
  intro m v d e h1 h2;rcases h1 with h1 | ⟨a,t,xs,ds,rfl,rfl,q,r⟩
  ·obtain⟨f,rfl⟩:=h1
   cases m with
   | zero=>exact h2.2.symm
   | succ m =>
    rcases h2 with h2 | ⟨a,t,xs,ds,rfl,_⟩
    ·exact h2.2.symm
    ·cases f
  ·cases m with
   | zero=>cases h2.1
   | succ m =>
    rcases h2 with h2 | ⟨a',t',xs',ds',ea,rfl,q',r'⟩
    ·cases h2.1
    ·cases ea
     have pr:∀ {l:List V}{l1 l2:List Dt},Paired (RD X.K H n) l l1->Paired (RD X.K H m) l l2->l1=l2:=by
      intro l
      induction l with
      | nil=>intro l1 l2 p1 p2;cases p1;cases p2;rfl
      | cons z l ihl =>
       intro l1 l2 p1 p2
       cases p1 with
       | cons r1 t1 =>
        cases p2 with
        | cons r2 t2=>rw[ih r1 r2,ihl t1 t2]
     cases t with
     | false =>
      have q:aW X.K H a xs:=by unfold tH at q;rwa [Mg Mt]at q
      cases t' with
      | false =>
       have q':aW X.K H a xs':=by unfold tH at q';rwa [Mg Mt]at q'
       have:=I.list_inj q q';subst this;rw[pr r r']
      | true =>
       have q':eZ X.K H a xs':=by unfold tH at q';rwa [Mi rfl]at q'
       obtain⟨_,_,p1,_⟩:=I.list q;obtain⟨_,_,p2,_⟩:=I.tuple q';exact absurd rfl (SeqAt.ne_of_list_tuple p1.isList p2)
     | true =>
      have q:eZ X.K H a xs:=by unfold tH at q;rwa [Mi rfl]at q
      cases t' with
      | false =>
       have q':aW X.K H a xs':=by unfold tH at q';rwa [Mg Mt]at q'
       obtain⟨_,_,p1,_⟩:=I.tuple q;obtain⟨_,_,p2,_⟩:=I.list q';exact absurd rfl (SeqAt.ne_of_list_tuple p2.isList p1)
      | true =>
       have q':eZ X.K H a xs':=by unfold tH at q';rwa [Mi rfl]at q'
       have:=I.tuple_inj q q';subst this;rw[pr r r']
theorem Gf (I:aK X pins σ H s):∀ (n:Nat){A:Around}{l b:Addr}{d e:Dt},A.units+n<cLine->RD X.K H (n+1) (.ref l) d->RD X.K H (n+1) (.ref b) e ->
  (∀ {A:Around}{y x:V}{u v:Value}{d e:Dt},A.units+n<cLine+1->RD X.K H n y d->RD X.K H n x e->bu y u->bu x v->∃ k:Bool,(k=true↔d=e)/\SeqAt.EqAt A s u v k) ->
  ∃ k:Bool,(k=true↔d=e)/\SeqAt.RcAt A s (.ref l) (.ref b) k:=by
 intro n A l b d e hu h1 h2 ih;rcases h1 with h1 | ⟨a,t,xs,ds,ea,rfl,q,r⟩
 ·cases h1.1
 cases ea;rcases h2 with h2 | ⟨a',t',xs',ds',ea,rfl,q',r'⟩
 ·cases h2.1
 cases ea
 have pw:∀ {us us':List Value},bw xs us->bw xs' us'->∃ ks:Nat->Bool,(∀ j (h1:j<us.length) (h2:j<us'.length),SeqAt.EqAt A.in1 s us[j] us'[j] (ks j)) /\
   (∀ j d1 d2,ds[j]? = some d1->ds'[j]? = some d2->(ks j=true↔d1=d2)):=by
  intro us us' rv rv'
  have ex:∀ j:Nat,∃ k:Bool,(∀ (h1:j<us.length)(h2:j<us'.length),SeqAt.EqAt A.in1 s us[j] us'[j] k)/\(∀ d1 d2,ds[j]? = some d1->ds'[j]? = some d2->(k=true↔d1=d2)):=by
   intro j
   by_cases hj:j<us.length/\j<us'.length
   ·obtain⟨h1,h2⟩:=hj
    have l1:=rv.length;have l2:=rv'.length;have l3:=Mo r;have l4:=Mo r';have gx:xs[j]? = some xs[j]:=List.getElem?_eq_getElem (by omega);have gx':xs'[j]? = some xs'[j]:=List.getElem?_eq_getElem (by omega);obtain⟨u,eu,ru⟩:=rv.get gx;obtain⟨u',eu',ru'⟩:=rv'.get gx'
    have eu2:us[j]=u:=by rw[List.getElem?_eq_getElem h1]at eu;exact Mu eu
    have eu2':us'[j]=u':=by rw[List.getElem?_eq_getElem h2]at eu';exact Mu eu'
    have pget:∀ {m:Nat}{zs:List V}{es:List Dt}(j:Nat){z:V},Paired (RD X.K H m) zs es->zs[j]? = some z->∃ f,es[j]? = some f/\RD X.K H m z f:=by
     intro m zs
     induction zs with
     | nil=>intro es j z p hz;simp at hz
     | cons z0 zs ihz =>
      intro es j z p hz
      cases p with
      | cons p1 p2 =>
       cases j with
       | zero=>simp at hz;subst hz;exact⟨_,rfl,p1⟩
       | succ j=>obtain⟨f,e1,e2⟩:=ihz j p2 (by simpa using hz);exact⟨f,by simpa using e1,e2⟩
    obtain⟨f,ef,rf⟩:=pget j r gx;obtain⟨f',ef',rf'⟩:=pget j r' gx';obtain⟨k,hk,he⟩:=ih (A:=A.in1) (by show A.units+1+n<cLine+1;omega) rf rf' ru ru';refine⟨k,fun _ _=>by rw[eu2,eu2'];exact he,fun d1 d2 e1 e2=>?_⟩;rw[ef]at e1;rw[ef']at e2;cases e1;cases e2;exact hk
   ·refine⟨false,fun h1 h2=>absurd ⟨h1,h2⟩ hj,fun d1 d2 e1 e2=>?_⟩
    have l1:=rv.length;have l2:=rv'.length;have l3:=Mo r;have l4:=Mo r';have:=(List.getElem?_eq_some_iff.mp e1).1;have:=(List.getElem?_eq_some_iff.mp e2).1;exact absurd ⟨by omega,by omega⟩ hj
  exact⟨fun j=>Classical.choose (ex j),fun j h1 h2=>(Classical.choose_spec (ex j)).1 h1 h2,fun j=>(Classical.choose_spec (ex j)).2⟩
 have allEq:∀ (ks:Nat->Bool),(∀ j d1 d2,ds[j]? = some d1->ds'[j]? = some d2->(ks j=true↔d1=d2))->ds.length=ds'.length->((List.range ds.length).all ks=true↔ds=ds'):=by
  intro ks hk hl;rw[List.all_eq_true];constructor
  ·intro h
   apply List.ext_getElem hl
   intro j h1 h2;exact (hk j _ _ (List.getElem?_eq_getElem h1) (List.getElem?_eq_getElem h2)).mp (h j (Nd.mpr h1))
  ·rintro rfl j hj
   have h1:=Nd.mp hj;exact (hk j _ _ (List.getElem?_eq_getElem h1) (List.getElem?_eq_getElem h1)).mpr rfl
 have l3:=Mo r;have l4:=Mo r'
 cases t with
 | false =>
  have q:aW X.K H l xs:=by unfold tH at q;rwa [Mg Mt]at q
  obtain⟨us,rv,p1,_⟩:=I.list q;have l1:=rv.length
  cases t' with
  | true =>
   have q':eZ X.K H b xs':=by unfold tH at q';rwa [Mi rfl]at q'
   obtain⟨us',rv',p2,_⟩:=I.tuple q';exact⟨false,by simp,SeqAt.RcAt.list_tuple p1.isList p2 (by omega)⟩
  | false =>
   have q':aW X.K H b xs':=by unfold tH at q';rwa [Mg Mt]at q'
   obtain⟨us',rv',p2,_⟩:=I.list q';have l2:=rv'.length
   by_cases hl:us.length=us'.length
   ·obtain⟨ks,he,hk⟩:=pw rv rv'
    refine⟨(List.range us.toArray.size).all ks,?_,SeqAt.RcAt.lists p1.isList p2.isList (by simpa using hl) (by omega) fun j h1 h2=>by simpa using he j (by simpa using h1) (by simpa using h2)⟩;rw[My,show us.length=ds.length by omega,allEq ks hk (by omega)];constructor
    ·rintro rfl;rfl
    ·intro h;injection h
   ·refine⟨false,?_,SeqAt.RcAt.lists_lengths p1.isList p2.isList (by simpa using hl) (by omega)⟩
    constructor
    ·intro h;cases h
    ·intro h
     injection h with _ h;exact absurd (by rw[<-l1,l3,h,<-l4,l2]) hl
 | true =>
  have q:eZ X.K H l xs:=by unfold tH at q;rwa [Mi rfl]at q
  obtain⟨us,rv,p1,_⟩:=I.tuple q;have l1:=rv.length
  cases t' with
  | false =>
   have q':aW X.K H b xs':=by unfold tH at q';rwa [Mg Mt]at q'
   obtain⟨us',rv',p2,_⟩:=I.list q';exact⟨false,by simp,SeqAt.RcAt.tuple_list p1 p2.isList (by omega)⟩
  | true =>
   have q':eZ X.K H b xs':=by unfold tH at q';rwa [Mi rfl]at q'
   obtain⟨us',rv',p2,_⟩:=I.tuple q';have l2:=rv'.length;obtain⟨ks,he,hk⟩:=pw rv rv';refine⟨_,?_,SeqAt.RcAt.tuples (e:=ks) (show s.heap.IsTuple l us.toArray from p1) (show s.heap.IsTuple b us'.toArray from p2) (by omega) fun j h1 h2=>by simpa using he j (by simpa using h1) (by simpa using h2)⟩
   by_cases hl:us.length=us'.length
   ·rw[My,My,<-hl,Nat.min_self,beq_self_eq_true,Bool.and_true,show us.length=ds.length by omega,allEq ks hk (by omega)]
    constructor
    ·rintro rfl;rfl
    ·intro h;injection h
   ·have:(us.toArray.size == us'.toArray.size)=false:=by simpa using hl
    rw[this,Bool.and_false];constructor
    ·intro h;cases h
    ·intro h
     injection h with _ h;exact absurd (by rw[<-l1,l3,h,<-l4,l2]) hl
theorem Gg (I:aK X pins σ H s):∀ (n:Nat){A:Around}{l b:Addr}{d e:Dt},A.units+n<cLine->RD X.K H (n+1) (.ref l) d->RD X.K H (n+1) (.ref b) e ->
  (∀ {A:Around}{y x:V}{u v:Value}{d e:Dt},A.units+n<cLine+1->RD X.K H n y d->RD X.K H n x e->bu y u->bu x v->∃ k:Bool,(k=true↔d=e)/\SeqAt.EqAt A s u v k) ->
  ∃ k:Bool,(k=true↔d=e)/\SeqAt.RcNeAt A s (.ref l) (.ref b) (!k):=by
 intro n A l b d e hu h1 h2 ih;rcases h1 with h1 | ⟨a,t,xs,ds,ea,rfl,q,r⟩
 ·cases h1.1
 cases ea;rcases h2 with h2 | ⟨a',t',xs',ds',ea,rfl,q',r'⟩
 ·cases h2.1
 cases ea
 have pw:∀ {us us':List Value},bw xs us->bw xs' us'->∃ ks:Nat->Bool,(∀ j (h1:j<us.length) (h2:j<us'.length),SeqAt.EqAt A.in1 s us[j] us'[j] (ks j)) /\
   (∀ j d1 d2,ds[j]? = some d1->ds'[j]? = some d2->(ks j=true↔d1=d2)):=by
  intro us us' rv rv'
  have ex:∀ j:Nat,∃ k:Bool,(∀ (h1:j<us.length)(h2:j<us'.length),SeqAt.EqAt A.in1 s us[j] us'[j] k)/\(∀ d1 d2,ds[j]? = some d1->ds'[j]? = some d2->(k=true↔d1=d2)):=by
   intro j
   by_cases hj:j<us.length/\j<us'.length
   ·obtain⟨h1,h2⟩:=hj
    have l1:=rv.length;have l2:=rv'.length;have l3:=Mo r;have l4:=Mo r';have gx:xs[j]? = some xs[j]:=List.getElem?_eq_getElem (by omega);have gx':xs'[j]? = some xs'[j]:=List.getElem?_eq_getElem (by omega);obtain⟨u,eu,ru⟩:=rv.get gx;obtain⟨u',eu',ru'⟩:=rv'.get gx'
    have eu2:us[j]=u:=by rw[List.getElem?_eq_getElem h1]at eu;exact Mu eu
    have eu2':us'[j]=u':=by rw[List.getElem?_eq_getElem h2]at eu';exact Mu eu'
    have pget:∀ {m:Nat}{zs:List V}{es:List Dt}(j:Nat){z:V},Paired (RD X.K H m) zs es->zs[j]? = some z->∃ f,es[j]? = some f/\RD X.K H m z f:=by
     intro m zs
     induction zs with
     | nil=>intro es j z p hz;simp at hz
     | cons z0 zs ihz =>
      intro es j z p hz
      cases p with
      | cons p1 p2 =>
       cases j with
       | zero=>simp at hz;subst hz;exact⟨_,rfl,p1⟩
       | succ j=>obtain⟨f,e1,e2⟩:=ihz j p2 (by simpa using hz);exact⟨f,by simpa using e1,e2⟩
    obtain⟨f,ef,rf⟩:=pget j r gx;obtain⟨f',ef',rf'⟩:=pget j r' gx';obtain⟨k,hk,he⟩:=ih (A:=A.in1) (by show A.units+1+n<cLine+1;omega) rf rf' ru ru';refine⟨k,fun _ _=>by rw[eu2,eu2'];exact he,fun d1 d2 e1 e2=>?_⟩;rw[ef]at e1;rw[ef']at e2;cases e1;cases e2;exact hk
   ·refine⟨false,fun h1 h2=>absurd ⟨h1,h2⟩ hj,fun d1 d2 e1 e2=>?_⟩
    have l1:=rv.length;have l2:=rv'.length;have l3:=Mo r;have l4:=Mo r';have:=(List.getElem?_eq_some_iff.mp e1).1;have:=(List.getElem?_eq_some_iff.mp e2).1;exact absurd ⟨by omega,by omega⟩ hj
  exact⟨fun j=>Classical.choose (ex j),fun j h1 h2=>(Classical.choose_spec (ex j)).1 h1 h2,fun j=>(Classical.choose_spec (ex j)).2⟩
 have allEq:∀ (ks:Nat->Bool),(∀ j d1 d2,ds[j]? = some d1->ds'[j]? = some d2->(ks j=true↔d1=d2))->ds.length=ds'.length->((List.range ds.length).all ks=true↔ds=ds'):=by
  intro ks hk hl;rw[List.all_eq_true];constructor
  ·intro h
   apply List.ext_getElem hl
   intro j h1 h2;exact (hk j _ _ (List.getElem?_eq_getElem h1) (List.getElem?_eq_getElem h2)).mp (h j (Nd.mpr h1))
  ·rintro rfl j hj
   have h1:=Nd.mp hj;exact (hk j _ _ (List.getElem?_eq_getElem h1) (List.getElem?_eq_getElem h1)).mpr rfl
 have l3:=Mo r;have l4:=Mo r'
 cases t with
 | false =>
  have q:aW X.K H l xs:=by unfold tH at q;rwa [Mg Mt]at q
  obtain⟨us,rv,p1,_⟩:=I.list q;have l1:=rv.length
  cases t' with
  | true =>
   have q':eZ X.K H b xs':=by unfold tH at q';rwa [Mi rfl]at q'
   obtain⟨us',rv',p2,_⟩:=I.tuple q';exact⟨false,by simp,SeqAt.RcNeAt.list_tuple p1.isList p2 (by omega)⟩
  | false =>
   have q':aW X.K H b xs':=by unfold tH at q';rwa [Mg Mt]at q'
   obtain⟨us',rv',p2,_⟩:=I.list q';have l2:=rv'.length
   by_cases hl:us.length=us'.length
   ·obtain⟨ks,he,hk⟩:=pw rv rv'
    refine⟨(List.range us.toArray.size).all ks,?_,SeqAt.RcNeAt.lists p1.isList p2.isList (by simpa using hl) (by omega) fun j h1 h2=>by simpa using he j (by simpa using h1) (by simpa using h2)⟩;rw[My,show us.length=ds.length by omega,allEq ks hk (by omega)];constructor
    ·rintro rfl;rfl
    ·intro h;injection h
   ·refine⟨false,?_,SeqAt.RcNeAt.lists_lengths p1.isList p2.isList (by simpa using hl) (by omega)⟩
    constructor
    ·intro h;cases h
    ·intro h
     injection h with _ h;exact absurd (by rw[<-l1,l3,h,<-l4,l2]) hl
 | true =>
  have q:eZ X.K H l xs:=by unfold tH at q;rwa [Mi rfl]at q
  obtain⟨us,rv,p1,_⟩:=I.tuple q;have l1:=rv.length
  cases t' with
  | false =>
   have q':aW X.K H b xs':=by unfold tH at q';rwa [Mg Mt]at q'
   obtain⟨us',rv',p2,_⟩:=I.list q';exact⟨false,by simp,SeqAt.RcNeAt.tuple_list p1 p2.isList (by omega)⟩
  | true =>
   have q':eZ X.K H b xs':=by unfold tH at q';rwa [Mi rfl]at q'
   obtain⟨us',rv',p2,_⟩:=I.tuple q';have l2:=rv'.length;obtain⟨ks,he,hk⟩:=pw rv rv';refine⟨(List.range (min us.toArray.size us'.toArray.size)).all ks&&us.toArray.size == us'.toArray.size,?_,SeqAt.RcNeAt.tuples (e:=ks) (show s.heap.IsTuple l us.toArray from p1) (show s.heap.IsTuple b us'.toArray from p2) (by omega) fun j h1 h2=>by simpa using he j (by simpa using h1) (by simpa using h2)⟩
   by_cases hl:us.length=us'.length
   ·rw[My,My,<-hl,Nat.min_self,beq_self_eq_true,Bool.and_true,show us.length=ds.length by omega,allEq ks hk (by omega)]
    constructor
    ·rintro rfl;rfl
    ·intro h;injection h
   ·have:(us.toArray.size == us'.toArray.size)=false:=by simpa using hl
    rw[this,Bool.and_false];constructor
    ·intro h;cases h
    ·intro h
     injection h with _ h;exact absurd (by rw[<-l1,l3,h,<-l4,l2]) hl
theorem E6 (I:aK X pins σ H s):∀ (n:Nat){A:Around}{y x:V}{u v:Value}{d e:Dt},A.units+n<cLine+1->RD X.K H n y d->RD X.K H n x e->bu y u->bu x v->∃ k:Bool,(k=true↔d=e)/\SeqAt.EqAt A s u v k:=by
 intro n
 have flatCase:∀ {A:Around}{y x:V}{u v:Value},lU y=true->lU x=true->bu y u->bu x v->∃ k:Bool,(k=true↔Dt.at y=Dt.at x)/\SeqAt.EqAt A s u v k:=by
  intro A y x u v fy fx ry rx;refine⟨E9 y x,?_,E7 ry rx (u0 fy) (u0 fx)⟩;rw[GV fy fx];constructor
  ·rintro rfl;rfl
  ·intro h;injection h
 induction n with
 | zero =>
  intro A y x u v d e hu h1 h2 ry rx;obtain⟨f1,rfl⟩:=h1;obtain⟨f2,rfl⟩:=h2;exact flatCase f1 f2 ry rx
 | succ n ih =>
  intro A y x u v d e hu h1 h2 ry rx;rcases id h1 with ⟨f1,rfl⟩ | ⟨a,t,xs,ds,rfl,rfl,q,r⟩
  ·rcases id h2 with ⟨f2,rfl⟩ | ⟨a',t',xs',ds',rfl,rfl,q',r'⟩
   ·exact flatCase f1 f2 ry rx
   ·cases rx
    refine⟨false,by simp,?_⟩
    cases t' with
    | false =>
     have q':aW X.K H a' xs':=by unfold tH at q';rwa [Mg Mt]at q'
     obtain⟨_,_,p,_⟩:=I.list q'
     cases y with
     | non=>cases ry;exact SeqAt.EqAt.none_list p.isList (by omega)
     | int _=>obtain⟨tk,rfl⟩:=ry;exact SeqAt.EqAt.int_list _ _ p.isList (by omega)
     | str _=>obtain⟨tk,rfl⟩:=ry;exact SeqAt.EqAt.str_list _ _ p.isList (by omega)
     | _=>cases f1
    | true =>
     have q':eZ X.K H a' xs':=by unfold tH at q';rwa [Mi rfl]at q'
     obtain⟨_,_,p,_⟩:=I.tuple q'
     cases y with
     | non=>cases ry;exact SeqAt.EqAt.none_tuple p (by omega)
     | int _=>obtain⟨tk,rfl⟩:=ry;exact SeqAt.EqAt.int_tuple _ _ p (by omega)
     | str _=>obtain⟨tk,rfl⟩:=ry;exact SeqAt.EqAt.str_tuple _ _ p (by omega)
     | _=>cases f1
  ·cases ry
   rcases id h2 with ⟨f2,rfl⟩ | ⟨a',t',xs',ds',rfl,rfl,q',r'⟩
   ·refine⟨false,by simp,?_⟩
    cases t with
    | false =>
     have q:aW X.K H a xs:=by unfold tH at q;rwa [Mg Mt]at q
     obtain⟨_,_,p,_⟩:=I.list q
     cases x with
     | non=>cases rx;exact SeqAt.EqAt.list_none p.isList (by omega)
     | int _=>obtain⟨tk,rfl⟩:=rx;exact SeqAt.EqAt.list_int _ _ p.isList (by omega)
     | str _=>obtain⟨tk,rfl⟩:=rx;exact SeqAt.EqAt.list_str _ _ p.isList (by omega)
     | _=>cases f2
    | true =>
     have q:eZ X.K H a xs:=by unfold tH at q;rwa [Mi rfl]at q
     obtain⟨_,_,p,_⟩:=I.tuple q
     cases x with
     | non=>cases rx;exact SeqAt.EqAt.tuple_none p (by omega)
     | int _=>obtain⟨tk,rfl⟩:=rx;exact SeqAt.EqAt.tuple_int _ _ p (by omega)
     | str _=>obtain⟨tk,rfl⟩:=rx;exact SeqAt.EqAt.tuple_str _ _ p (by omega)
     | _=>cases f2
   ·cases rx
    by_cases hab:a=a'
    ·subst hab
     exact⟨true,by rw[RD.inj I h1 h2];simp,SeqAt.EqAt.same _⟩
    ·obtain⟨k,hk,hr⟩:=Gf I n (A:=A) (by omega) h1 h2 (fun hu'=>ih hu')
     exact⟨k,hk,.of_refs hab hr⟩
end
inductive LH (K:PySem.W.Frag) (n:Nat) (neg:Bool) (x y:V) (H:Hp) (Q:VK):Prop
 | mk (a b:Addr) (d e:Dt) (e1:x=.ref a) (e2:y=.ref b) (r1:RD K H (n+1) x d) (r2:RD K H (n+1) y e) (h:∀ k:Bool,(k=true↔d=e)->Q (.bl (if neg then !k else k)) H):LH K n neg x y H Q
def Ji (K:PySem.W.Frag)(n:Nat)(neg:Bool):R2:=fun x y H Q=>LH K n neg x y H Q
section
variable {X:Cx}
theorem Cf (n:Nat)(hu:X.A.units+n<cLine):sR X (compareOp .Eq) (Ji X.K n false):=by
 intro pins s σ H x y v u Q I rx ry h;obtain⟨a,b,d,e,rfl,rfl,h1,h2,q⟩:=h;cases rx;cases ry;obtain⟨k,hk,hr⟩:=Gf I n (A:=X.A) hu h1 h2 (fun hu'=>E6 I n hu');exact hr _ _ _ _ ⟨.bl k,H,I,rfl,q k hk⟩
theorem vJ (n:Nat)(hu:X.A.units+n<cLine):sR X (compareOp .NotEq) (Ji X.K n true):=by
 intro pins s σ H x y v u Q I rx ry h;obtain⟨a,b,d,e,rfl,rfl,h1,h2,q⟩:=h;cases rx;cases ry;obtain⟨k,hk,hr⟩:=Gg I n (A:=X.A) hu h1 h2 (fun hu'=>E6 I n hu');exact hr _ _ _ _ ⟨.bl (!k),H,I,rfl,q k hk⟩
end
open PySem PySem.Spec PyProof.Rows PySem.Calls
theorem Hc:typeLookup (.type "list_reverseiterator") "__len__" = pure none:=by rw[typeLookup_type,builtinLookup_eq_fast];kernel_rfl
theorem Fz:typeLookup (.type "list_reverseiterator") "__length_hint__" = pure (some (.builtin "list_reverseiterator.__length_hint__")):=by rw[typeLookup_type,builtinLookup_eq_fast];kernel_rfl
section
variable {prog:Program}{w:World}{A:Around}{E:Value->Shared->Prop}{s:Shared}{r d:Addr}{items:Array Value}
theorem Fk {Q:Bool->Shared->Prop}(hT:s.TypeIs (.ref r) "list_reverseiterator")(h:Q false s):wpAny (model prog w) A (Builtin.List.listLengthHint (.ref r)) Q E s:=by
 unfold Builtin.List.listLengthHint;refine Mf (wpAny_specialOf hT Hc ?_)
 wp_delta
 refine Ou (fun hab=>absurd hab (by decide +kernel)) (fun _=>?_);refine Ou (fun hab=>absurd hab (by decide +kernel)) (fun _=>?_);refine Mf (wpAny_specialOf hT Fz ?_);generalize hid:("list_reverseiterator.__length_hint__" : String)=id0
 wp_delta
 rw[show splitId id0=some ("list_reverseiterator","__length_hint__") from by subst hid;decide +kernel];subst hid;refine Mf (wpAny_isInstance (T:="list_reverseiterator") (b:=true) hT (by rw[isSubtype_type];kernel_rfl) ?_);refine Ou (fun hab=>absurd hab (by decide)) (fun _=>?_);refine Ou (fun _=>?_) (fun hab=>absurd (by decide +kernel) hab);refine Ou (fun hab=>absurd hab (by decide +kernel)) (fun _=>?_);exact Mq h
theorem BD {R:Result->Shared->Prop}(hh:A.handled=none)(hit:s.heap.IsRevIter r d ((items.size:Int)-1))(hl:s.heap.IsList d items)(hrd:d≠r)(S:Addr)(hSr:S≠r)(hSd:S≠d)(res:Value)(c0:Nat)(hS:s.heap.get? S=some { cls:=.type "list",data:=.seq #[] c0 })
  (hR:∀ h' tk acc' c',(∀ b o,b≠S->b≠r->s.heap.get? b=some o->h'.get? b=some o)->h'.get? S=some { cls:=.type "list",dict:=none,data:=.seq acc' c',slots:=#[] }->ItemsOf (fun i v=>items[items.size-1-i]? = some v) acc' items.size->R (.ok (.ret res)) { s with heap:=h',toks:=tk }) (hn:items.size<=sizeLine) :
  wpAny (model prog w) A.in1 (Builtin.List.listExtendWith (.ref S) (.ref r) res)
   (fun fin s'=>match fin with | .done f=>R (.ok f) s' | .again c'=>c'.quiet=true/\codeAny (model prog w) A c' R s') (fun e s'=>R (.error e) s') s:=by
 have hSf:S∉[r,d]:=by simp only[Ms,List.not_mem_nil,or_false,not_or];exact⟨hSr,hSd⟩
 have W:=Walks.listRev (prog:=prog) (w:=w) (A:=A.in1) hh r d hrd items;have hT:s.TypeIs (.ref r) "list_reverseiterator":=hit.typeIs;unfold Builtin.List.listExtendWith;refine Mf (wpAny_typeOf (T:="list_reverseiterator") hT ?_)
 have h1:Builtin.List.listSameRef (.ref S) (.ref r)=false:=by simp[Builtin.List.listSameRef,hSr]
 have h2:(Value.type "list_reverseiterator" == Value.type "list")=false:=by decide
 have h3:(Value.type "list_reverseiterator" == Value.type "tuple")=false:=by decide
 simp only[h1,h2,h3,Bool.or_false,Ov,OA];refine Mf (wpAny_pyIter_revIter hit ?_);refine Mf (NA (Fk hT ?_));refine Ou (fun hab=>absurd hab (by decide +kernel)) (fun _=>Mq ⟨plainId_quiet PySem.F.plain_extend_loop _,?_⟩);refine codeAny_extend_loopS W.toS hn S hSf res items.size 0 _ #[] c0 rfl (MD _) ⟨MD _,by simpa using hit,hl⟩ hS (ItemsOf.nil _) fun s' acc' c' hm hS' hacc=>?_;rw[Moved.eq_with hm];refine hR s'.heap s'.toks acc' c' (fun b o hb hbr e=>hm.heap b o (fun hmem=>?_) e) hS' hacc
 ·rcases Ms.mp hmem with e' | hmem
  ·exact hb e'
  ·exact hbr (Mv.mp hmem)
theorem wE {Q:Value->Shared->Prop}(hh:A.handled=none)(hit:s.heap.IsRevIter r d ((items.size:Int)-1))(hl:s.heap.IsList d items)(hrd:d≠r)(hn:items.size<=sizeLine)
  (hQ:∀ h' tk acc' c',(∀ b o,b≠r->s.heap.get? b=some o->h'.get? b=some o)->h'.get? s.heap.objs.size=some { cls:=.type "list",dict:=none,data:=.seq acc' c',slots:=#[] }->ItemsOf (fun i v=>items[items.size-1-i]? = some v) acc' items.size->Q (.ref s.heap.objs.size) { s with heap:=h',toks:=tk }) :
  wpAny (model prog w) A (call (.type "list") [.ref r]) Q E s:=by
 refine callType_codes (Q₁:=fun obj s1=>obj=.ref s.heap.objs.size/\s1={ s with heap:=s.heap.push { cls:=.type "list",data:=.seq #[] } }) PySem.F.called_list (PySem.F.typeCall_list_1 _) PySem.F.entry_list_init (code_list_new _ ⟨rfl,rfl⟩) fun obj s1 h1=>?_;obtain⟨rfl,rfl⟩:=h1;have hS:(s.heap.push { cls:=.type "list",data:=.seq #[] }).get? s.heap.objs.size=some { cls:=.type "list",data:=.seq #[] }:=Heap.get?_push_size _ rfl
 have hr:r<s.heap.objs.size:=by obtain⟨o,e,_⟩:=hit;exact Mw e
 have hd:d<s.heap.objs.size:=by obtain⟨o,e,_⟩:=hl;exact Mw e
 refine⟨⟨_,hS,rfl⟩,PySem.F.args_list_init_2 _ _,?_⟩
 show wpAny _ _ (do let old <-Builtin.List.listItems (.ref s.heap.objs.size);Builtin.List.listUpdate (.ref s.heap.objs.size) (fun _=>#[]);letGo old.toList.reverse;Builtin.List.listExtendWith (.ref s.heap.objs.size) (.ref r) .none) _ _ _
 refine Mf ?_;unfold Builtin.List.listItems;refine Mf (wpAny_seqItems hS rfl (Mq ?_))
 show wpAny _ _ (updateSeq s.heap.objs.size (fun _=>#[]) >>= fun _=>letGo (#[]:Array Value).toList.reverse >>= fun _=>Builtin.List.listExtendWith (.ref s.heap.objs.size) (.ref r) .none) _ _ _
 refine Mf (wpAny_updateSeq hS rfl ?_);have hS2:=Heap.get?_update_self (Obj.mapSeq (fun _=>(#[]:Array Value))) hS rfl
 have oth:∀ b o,s.heap.get? b=some o->((s.heap.push { cls:=.type "list",data:=.seq #[] }).update s.heap.objs.size (Obj.mapSeq (fun _=>(#[]:Array Value)))).get? b=some o :=
  fun b o e=>(Heap.get?_update_other _ _ (Nat.ne_of_gt (Mw e))).trans (Heap.get?_push_of_some _ e)
 refine Mf (wpAny_letGo ?_);refine BD (A:=A.in1) hh (hit.at fun o e=>oth _ _ e) (hl.at fun o e=>oth _ _ e) hrd s.heap.objs.size (Nat.ne_of_gt hr) (Nat.ne_of_gt hd) .none _ hS2 (fun h' tk acc' c' hk hS' hacc=>?_) hn;exact⟨rfl,hQ h' tk acc' c' (fun b o hb e=>hk b o (MB (Mw e)) hb (oth b o e)) hS' hacc⟩
end
def Gr (K:PySem.W.Frag)(te:TE):TE:=fun σ H Q=>te σ H fun x H1=>∃ a xs,x=.ref a/\aW K H1 a xs/\∀ l,H1 l=none->Q (.ref l) (upd H1 l (.lst xs.reverse))
theorem Ci {X:Cx}{e:Expr}{te:TE}{p p2 pos pos2:Pos}(hc:X.calm=true)(he:PE X e te)(hg:Gl X "list")(hm:X.mg "list" = none)(hg2:Gl X "reversed")(hm2:X.mg "reversed" = none)
  (hs:starEach [e] X.env=[(false,eval e X.env)]:=by rfl)
  (hs2:starEach [.Call (.Name "reversed" p2) [e] [] pos2] X.env=[(false,eval (.Call (.Name "reversed" p2) [e] [] pos2) X.env)]:=by rfl) :
  PE X (.Call (.Name "list" p) [.Call (.Name "reversed" p2) [e] [] pos2] [] pos) (Gr X.K te):=by
 intro pins s σ H Q I h;refine Nn (lW I hg hm boot_list ?_ (by decide) (by decide));refine NP ?_ hs2 rfl;rw[hs2];refine spliced_cons (Nn (lW I hg2 hm2 boot_reversed ?_ (by decide) (by decide)));refine NP ?_ hs rfl;rw[hs];refine spliced_cons (bH (he pins s σ H _ I h) fun u s1 ⟨x,H1,I1,rx,a,xs,ex,hq,q⟩=>spliced_nil ?_);subst ex;cases rx;obtain⟨its,rv,pl,hz⟩:=I1.list hq;refine call_reversed_list pl.isList (spliced_nil ?_)
 have hlt:a<s1.heap.objs.size:=by obtain⟨o,n,e,_⟩:=pl;exact Mw e
 have hl:=rv.length;refine wE (r:=s1.heap.objs.size) (d:=a) (items:=its.toArray) (I1.ok.hd hc) ⟨_,Heap.get?_push_size _ rfl,rfl,rfl⟩ (pl.isList.at fun o e=>Heap.get?_push_of_some _ e) (MB hlt) (by rw[My];omega) fun h' tk acc' c' hk hS hacc=>?_
 have sz:(s1.heap.push (revObj a ((its.toArray.size:Int)-1))).objs.size=s1.heap.objs.size+1:=by rw[NW]
 have hge:s1.heap.objs.size<=(s1.heap.push (revObj a ((its.toArray.size:Int)-1))).objs.size:=by rw[sz];exact Nat.le_succ _
 have rr:bw xs.reverse acc'.toList:=zC (by have:=hacc.1;simp at this;simp;omega) fun i y v e1 e2=>by
  have hv:=hacc.2 i v (by rw[<-Array.getElem?_toList];exact e2)
  have hi:i<xs.length:=by have:=(List.getElem?_eq_some_iff.mp e1).1;simpa using this
  rw[List.getElem?_reverse hi]at e1;obtain⟨u,eu,ru⟩:=rv.get e1
  have hv':its[its.length-1-i]? = some v:=by simpa using hv
  rw[hl]at eu;rw[eu]at hv';cases hv';exact ru
 refine⟨.ref _,_,I1.laid (t':=tk) (a:=(s1.heap.push (revObj a ((its.toArray.size:Int)-1))).objs.size) (o:=.lst xs.reverse) (fun b o e=>hk b o (MB (Mw e)) (Heap.get?_push_of_some _ e)) hge ⟨by rw[N5];exact hz,acc'.toList,c',rr,by simpa using hS⟩,rfl,q _ (I1.hok.fresh hge)⟩
end L2
namespace Wz
open PySem L2
def iB (c:Int):Int:=if c<0 then -c else c
def de (ns:List Int)(k:Int):Int:=if k<(ns.length:Int) then ns.getD k.toNat 0 else 0
def d7 (k c:Int):Int :=
 let left:=iB c
 let number:=(k*(1+left*1234567891%2147483646)+left/2147483646)%2147483647
 if left%5=4 then number+997852516353 else number
def dk (l:List (Int×Int)):List (cf×V):=l.map fun p=>(Sum.inl p.1,V.int p.2)
def look:List (Int×Int)->Int->Option Int
 | [],_=>none
 | p::r,g=>if p.1=g then some p.2 else look r g
def put (l:List (Int×Int))(g m:Int):List (Int×Int):=if (l.any fun p=>decide (p.1=g))=true then l.map (fun p=>if p.1=g then (p.1,m) else p) else l++[(g,m)]
def wr (l:List (Int×Int))(g:Int):Int:=(look l g).getD g
def oO (l:List (Int×Int))(p:Int×Int):List (Int×Int):=put (put l p.1 (wr l p.2)) p.2 (wr l p.1)
def cZ (w:List (Int×Int))(ps:List (Int×Int)):List (Int×Int):=ps.foldl oO w
def aq (l:List (Int×Int)):List Int:=l.map (·.1)
def aU (l:List (Int×Int)):List Int:=(bn (aq l)).filter fun g=>decide (wr l g≠g)
def BQ (l:List (Int×Int)):List (Int×Int):=(aU l).map fun g=>(g,wr l g)
theorem cR:∀ (l:List (Int×Int))(g:Int),dI (dk l) (Sum.inl g:cf)=(look l g).map V.int
 | [],_=>rfl
 | p::r,g=>by
  by_cases h:p.1=g
  ·have e:dI (dk (p::r)) (Sum.inl g:cf)=some (V.int p.2):=nc (p:=(Sum.inl p.1,V.int p.2)) (r:=dk r) (by rw[h])
   rw[e];simp[look,h]
  ·have e:dI (dk (p::r)) (Sum.inl g:cf)=dI (dk r) (Sum.inl g):=jI (p:=(Sum.inl p.1,V.int p.2)) (r:=dk r) (fun z=>h (Sum.inl.inj z))
   rw[e,cR r g];simp[look,h]
theorem IC (l:List (Int×Int))(g:Int):((dk l).any fun kv=>decide (kv.1=(Sum.inl g:cf)))=l.any fun p=>decide (p.1=g):=by
 unfold dk;rw[List.any_map]
 congr 1
 funext p
 simp[Function.comp]
theorem i9 (l:List (Int×Int))(g m:Int):gL (dk l) (Sum.inl g:cf) (V.int m)=dk (put l g m):=by
 unfold gL put;rw[IC]
 by_cases h:(l.any fun p=>decide (p.1=g))=true
 ·rw[Mi h,Mi h]
  unfold dk;rw[M8,M8]
  apply NT
  intro p _;simp only[Function.comp]
  by_cases e:p.1=g
  ·rw[Mi (by rw[e]),Mi e]
  ·rw[Mg (fun z=>e (Sum.inl.inj z)),Mg e]
 ·rw[Mg h,Mg h]
  unfold dk;simp
theorem vb (l:List (Int×Int))(g:Int):(l.any fun p=>decide (p.1=g))=(look l g).isSome:=by
 induction l with
 | nil=>rfl
 | cons p r ih =>
  rw[N2,ih]
  show _=(if p.1=g then some p.2 else look r g).isSome
  by_cases h:p.1=g<;>simp[h]
theorem bd {l:List (Int×Int)}{g:Int}:(look l g).isSome=true↔g∈aq l:=by
 rw[<-vb,List.any_eq_true];unfold aq;simp
theorem Fy (l:List (Int×Int))(g m h:Int):look (l.map (fun p=>if p.1=g then (p.1,m) else p)) h=if h=g then (look l g).map (fun _=>m) else look l h:=by
 induction l with
 | nil=>simp[look]
 | cons p r ih =>
  rw[MQ]
  by_cases hp:p.1=g
  ·rw[Mi hp]
   show (if p.1=h then some m else look _ h)=_
   rw[ih]
   by_cases hh:h=g
   ·subst hh;simp[hp,look]
   ·have:¬ p.1=h:=fun z=>hh (z.symm.trans hp)
    simp[hh,this,look]
  ·rw[Mg hp]
   show (if p.1=h then some p.2 else look _ h)=_
   rw[ih]
   by_cases hh:h=g
   ·subst hh;simp[hp,look]
   ·simp[hh,look]
theorem Ac (l r:List (Int×Int))(h:Int):look (l++r) h=(look l h).orElse fun _=>look r h:=by
 induction l with
 | nil=>rfl
 | cons p l ih =>
  show (if p.1=h then some p.2 else look (l++r) h)=_
  rw[ih]
  by_cases e:p.1=h<;>simp[look,e]
theorem dj (l:List (Int×Int))(g m h:Int):look (put l g m) h=if h=g then some m else look l h:=by
 unfold put;rw[vb]
 by_cases e:(look l g).isSome=true
 ·rw[Mi e,Fy]
  obtain⟨v,hv⟩:=MY.mp e
  by_cases hh:h=g
  ·simp[hh,hv]
  ·simp[hh]
 ·rw[Mg e,Ac]
  have hn:look l g=none:=by simpa using e
  by_cases hh:h=g
  ·subst hh;simp[hn,look]
  ·have:¬ g=h:=fun z=>hh z.symm
   simp[hh,look,this]
theorem p9 (l:List (Int×Int))(g m:Int):aq (put l g m)=if g∈aq l then aq l else aq l++[g]:=by
 unfold put;rw[vb]
 by_cases e:(look l g).isSome=true
 ·rw[Mi e,Mi (bd.mp e)]
  unfold aq;rw[M8]
  apply NT
  intro p _;simp only[Function.comp];split<;>rfl
 ·rw[Mg e,Mg (fun z=>e (bd.mpr z))]
  simp[aq]
theorem x0 {l:List (Int×Int)}(g m:Int)(h:(aq l).Nodup):(aq (put l g m)).Nodup:=by
 rw[p9];split
 ·exact h
 ·rename_i hn
  exact ny h hn
theorem CY {l:List (Int×Int)}{g m h:Int}:h∈aq (put l g m)↔h=g\/h∈aq l:=by
 rw[p9];split
 ·rename_i hn
  constructor
  ·exact .inr
  ·rintro (rfl | z)
   ·exact hn
   ·exact z
 ·simp[or_comm]
theorem B7 {l:List (Int×Int)}(p:Int×Int)(h:(aq l).Nodup):(aq (oO l p)).Nodup:=x0 _ _ (x0 _ _ h)
theorem FD {l:List (Int×Int)}{p:Int×Int}{h:Int}:h∈aq (oO l p)↔h=p.2\/h=p.1\/h∈aq l:=by
 unfold oO;rw[CY,CY]
theorem tu:∀ (ps:List (Int×Int)){w:List (Int×Int)},(aq w).Nodup->(aq (cZ w ps)).Nodup
 | [],_,h=>h
 | p::r,_,h=>tu r (B7 p h)
theorem rp:∀ (ps:List (Int×Int)){w:List (Int×Int)}{h:Int},h∈aq (cZ w ps)↔h∈aq w\/∃ p∈ps,h=p.1\/h=p.2
 | [],_,_=>by simp[cZ]
 | p::r,w,h=>by
  show h∈aq (cZ (oO w p) r)↔_
  rw[rp r,FD];constructor
  ·rintro ((e | e | e) | ⟨q,hq,e⟩)
   ·exact .inr ⟨p,Mm,.inr e⟩
   ·exact .inr ⟨p,Mm,.inl e⟩
   ·exact .inl e
   ·exact .inr ⟨q,Mh _ hq,e⟩
  ·rintro (e | ⟨q,hq,e⟩)
   ·exact .inl (.inr (.inr e))
   ·rcases Ms.mp hq with rfl | hq
    ·rcases e with e | e
     ·exact .inl (.inr (.inl e))
     ·exact .inl (.inl e)
    ·exact .inr ⟨q,hq,e⟩
theorem nu (l:List (Int×Int))(g m:Int):(put l g m).length<=l.length+1:=by
 unfold put;split<;>simp
theorem Fx (l:List (Int×Int))(p:Int×Int):(oO l p).length<=l.length+2:=by
 unfold oO;have h1:=nu (put l p.1 (wr l p.2)) p.2 (wr l p.1);have h2:=nu l p.1 (wr l p.2);omega
theorem xS:∀ (ps w:List (Int×Int)),(cZ w ps).length<=w.length+2*ps.length
 | [],_=>by simp[cZ]
 | p::r,w=>by
  have h1:=xS r (oO w p);have h2:=Fx w p
  show (cZ (oO w p) r).length<=_
  rw[MX];omega
def aG (f:Int->Int)(p:Int×Int):Int->Int:=fun h=>if h=p.2 then f p.1 else if h=p.1 then f p.2 else f h
theorem b7:∀ {l m:List Int},l.Nodup->(∀ x∈l,x∈m)->l.length<=m.length
 | [],_,_,_=>MD _
 | a::r,m,h,hs=>by
  obtain⟨h1,h2⟩:=MN.mp h;have ha:a∈m:=hs a Mm;have hl:(m.erase a).length=m.length-1:=List.length_erase_of_mem ha;have hpos:0<m.length:=List.length_pos_of_mem ha;have ih:=b7 (l:=r) (m:=m.erase a) h2 fun x hx=>(List.mem_erase_of_ne (show x≠a from fun e=>h1 (by rw[<-e];exact hx))).mpr (hs x (Mh _ hx));rw[MX];omega
theorem f6 {l:List Int}{x:Int}:x∈bn l↔x∈l:=(Om l _).mem_iff
theorem ir (l:List Int):(bn l).length=l.length:=(Om l _).length_eq
theorem CT (l:List (Int×Int)):(dk l).map (·.1)=(aq l).map Sum.inl:=by
 unfold dk aq;rw[M8,M8];rfl
theorem yx (l:List (Int×Int)):(dk l).length=l.length:=by unfold dk;simp
def ar (P:Program)(w:World)(K:PySem.W.Frag)(mg:Str->Option Value)(base:Heap)(x:Str)(k:Nat)(ps:List Str)(sp:Sp):Prop :=
 ∃ (f:Addr)(fd:FuncData),aZ P w K mg base bV k f fd ps sp/\mg x=some (.ref f)/\PySem.W.keepIn K (.ref f)=true/\fU K fd ps []
theorem aO {X:Cx}{x:Str}{k:Nat}{ps:List Str}{sp:Sp}{e:Expr}{es:List Expr}{t:TA}{p pos:Pos}(C:ar X.prog X.w X.K X.mg X.base x k ps sp)(hr:cH k X.A)(hg:Gl X x)(ha:PA X (e::es) t)
  (hdb:(x == ("__debug__" : Str))=false:=by decide) (he:starEach (e::es) X.env=(false,eval e X.env)::starEach es X.env:=by rfl) (hpl:(backTo pos (starEach es X.env)).any (·.1)=false:=by rfl) :
  PE X (.Call (.Name x p) (e::es) [] pos) (Gq sp [] E0 t):=by
 obtain⟨f,fd,G,hm,hk,hb⟩:=C;exact Db G hr hg hm hk hb .nil cP ha hdb he hpl
theorem Aa {X:Cx}(K:PySem.W.Frag)(hK:X.K=K:=by rfl):JN X (Ke K):=by subst hK;exact cQ
theorem CS {X:Cx}(K:PySem.W.Frag)(hK:X.K=K:=by rfl):JN X (Hv K):=by subst hK;exact bF
def aY (H:Hp)(l:Addr)(ps:List (Int×Int)):Prop:=∃ as:List Addr,H l=some (.lst (as.map V.ref))/\Paired (fun a (p:Int×Int)=>H a=some (.tup [.int p.1,.int p.2])) as ps
theorem aY.mono {H H':Hp}{l:Addr}{ps:List (Int×Int)}(r:aY H l ps)(s:ax H H'):aY H' l ps:=by
 obtain⟨as,h,p⟩:=r;exact⟨as,s _ _ h,Paired.mapP p fun a q z=>s _ _ z⟩
theorem ag {H:Hp}{l:Addr}{o:HO}(h:H l=none):ax H (upd H l o):=fun b u e=>by rw[af (aj e h)];exact e
theorem aR {H H':Hp}{l:Addr}{o:HO}(s:ax H H')(h:H l=none):ax H (upd H' l o):=fun b u e=>by rw[af (aj e h)];exact s b u e
theorem paired_get {α β:Type}{F:α->β->Prop}:∀ {l:List α}{m:List β}{i:Nat}{a:α},Paired F l m->l[i]? = some a->∃ b,m[i]? = some b/\F a b
 | _,_,_,_,.nil,h=>by simp at h
 | _,_,0,_,.cons r _,h=>by simp at h;subst h;exact⟨_,rfl,r⟩
 | _,_,i+1,a,.cons _ t,h=>by
  obtain⟨b,e1,e2⟩:=paired_get (i:=i) (a:=a) t (by simpa using h);exact⟨b,by simpa using e1,e2⟩
theorem aJ {α β:Type}{F:α->β->Prop}:∀ {l l':List α}{m m':List β},Paired F l m->Paired F l' m'->Paired F (l++l') (m++m')
 | _,_,_,_,.nil,s=>s
 | _,_,_,_,.cons r t,s=>.cons r (aJ t s)
theorem mx {α β:Type}{F:α->β->Prop}:∀ {l:List α}{m:List β},Paired F l m->Paired F l.reverse m.reverse
 | _,_,.nil=>.nil
 | _,_,.cons r t=>by
  rw[List.reverse_cons,List.reverse_cons];exact aJ (mx t) (.cons r .nil)
theorem bg {α β:Type}{f:α->β}{l:List α}{i:Nat}{y:β}(h:(l.map f)[i]? = some y):∃ x,l[i]? = some x/\y=f x:=by
 rw[List.getElem?_map]at h
 cases e:l[i]? with
 | none=>rw[e]at h;cases h
 | some x=>rw[e]at h;exact⟨x,rfl,(Mu h).symm⟩
theorem se {α:Type}{l:List α}{i:Nat}{x:α}(h:l[i]? = some x):l.take (i+1)=l.take i++[x]:=by
 rw[MG,h];rfl
theorem gH {te:TE}{a:Addr}{D:kY}{σ:St}{H:Hp}(h:te σ H fun y H2=>∃ ys,H2 a=some (.lst ys)/\ys.length<sizeLine/\D.nx σ (upd H2 a (.lst (ys++[y])))):EF wv te a D σ H:=by
 unfold EF wv;dsimp only;rw[Mi rfl];exact h
theorem pF {tt:TT}{te:TE}{a:Addr}{D:kY}{σ:St}{H:Hp}(h:tt σ H fun b H1=>if b=true then te σ H1 fun y H2=>∃ ys,H2 a=some (.lst ys)/\ys.length<sizeLine/\D.nx σ (upd H2 a (.lst (ys++[y]))) else D.nx σ H1):EF tt te a D σ H:=h
inductive rX (K:PySem.W.Frag) (vs:List V) (H:Hp) (Q:VK) (E_:XK):Prop
 | mk (a:Addr) (ns:List Int) (k:Int) (h_0:vs=[.ref a,.int k]) (h_1:aW K H a (ns.map V.int)) (h_2:0<=k) (h_3:Q (.int (de ns k)) H):rX K vs H Q E_
inductive wj (vs:List V) (H:Hp) (Q:VK) (E_:XK):Prop
 | mk (c:Int) (h_0:vs=[.int c]) (h_1:Q (.int (iB c)) H):wj vs H Q E_
inductive qz (vs:List V) (H:Hp) (Q:VK) (E_:XK):Prop
 | mk (c m b:Int) (h_0:vs=[.int c,.int m,.int b]) (h_1:(0<=m/\m<=1000)) (h_2:(0<b/\b<1073741824)) (h_3:∀ (l:Addr)(ds:List Int),H l=none->(∀ d∈ds,0<=d/\d<b)->(ds.length:Int)<=m->Q (.ref l) (upd H l (.lst (ds.map V.int)))):qz vs H Q E_
inductive zq (K:PySem.W.Frag) (vs:List V) (H:Hp) (Q:VK) (E_:XK):Prop
 | mk (a:Addr) (ns:List Int) (st m b:Int) (h_0:vs=[.ref a,.int st,.int m,.int b]) (h_1:aW K H a (ns.map V.int)) (h_2:(0<=st/\st<=63)) (h_3:(0<=m/\m<=1000)) (h_4:(0<b/\b<1073741824)) (h_5:∀ (l:Addr)(H':Hp)(ds:List Int),H l=none->ax H H'->H' l=some (.lst (ds.map V.int))->(∀ d∈ds,0<=d/\d<b)->(ds.length:Int)<=m->Q (.ref l) H'):zq K vs H Q E_
inductive kf (vs:List V) (H:Hp) (Q:VK) (E_:XK):Prop
 | mk (k c:Int) (h_0:vs=[.int k,.int c]) (h_1:(0<=k/\k<=1000000)) (h_2:Q (.int (d7 k c)) H):kf vs H Q E_
inductive uz (vs:List V) (H:Hp) (Q:VK) (E_:XK):Prop
 | mk (i:Int) (h_0:vs=[.int i]) (h_1:Q (.bl true) H):uz vs H Q E_
inductive ut (vs:List V) (H:Hp) (Q:VK) (E_:XK):Prop
 | mk (a:Addr) (p:Int×Int) (h_0:vs=[.ref a]) (h_1:H a=some (.tup [.int p.1,.int p.2])) (h_2:Q (.bl true) H):ut vs H Q E_
inductive zy (vs:List V) (H:Hp) (Q:VK) (E_:XK):Prop
 | mk (l:Addr) (ps:List (Int×Int)) (h_0:vs=[.ref l]) (h_1:aY H l ps) (h_2:ps.length<=1000) (h_3:∀ H',ax H H'->Q (.bl true) H'):zy vs H Q E_
inductive uu (vs:List V) (H:Hp) (Q:VK) (E_:XK):Prop
 | mk (l d:Addr) (ps w:List (Int×Int)) (h_0:vs=[.ref l,.ref d]) (h_1:aY H l ps) (h_2:ps.length<=1000) (h_3:H d=some (.dK (dk w))) (h_4:w.length<=1000) (h_5:Q (.ref d) (upd H d (.dK (dk (cZ w ps))))):uu vs H Q E_
inductive uB (vs:List V) (H:Hp) (Q:VK) (E_:XK):Prop
 | mk (d:Addr) (w:List (Int×Int)) (h_0:vs=[.ref d]) (h_1:H d=some (.dK (dk w))) (h_2:w.length<64) (h_3:∀ (l':Addr)(H':Hp),H l'=none->ax H H'->H' l'=some (.lst ((aU w).map V.int))->Q (.ref l') H'):uB vs H Q E_
inductive Bb (K:PySem.W.Frag) (vs:List V) (H:Hp) (Q:VK) (E_:XK):Prop
 | mk (a:Addr) (ns:List Int) (h_0:vs=[.ref a]) (h_1:aW K H a (ns.map V.int)) (h_2:ns.length<=63) (h_3:∀ H',Q (.bl true) H'):Bb K vs H Q E_
def Kb (p:Int×Int):Dt:=.sq true [.at (.int p.1),.at (.int p.2)]
def Lp (ps:List (Int×Int)):Dt:=.sq false (ps.map Kb)
theorem rP {K:PySem.W.Frag}{H:Hp}{l:Addr}{ps:List (Int×Int)}(r:aY H l ps):RD K H 2 (.ref l) (Lp ps):=by
 obtain⟨as,h,p⟩:=r;refine RD.lst (aW.of h) ?_;clear h
 induction p with
 | nil=>exact .nil
 | cons h _ ih=>exact .cons (RD.tup (eZ.of h) (.cons (RD.flat rfl 0) (.cons (RD.flat rfl 0) .nil))) ih
def x5 (ns:List Int):Dt:=.sq false (ns.map fun n=>.at (.int n))
theorem eG {σ:St}{H:Hp}{Q:Option Int->Hp->Prop}(h:Q none H):Dp σ H Q:=h
theorem my {α β:Type}{F:α->β->Prop}:∀ {l:List α}{m:List β}(n:Nat),Paired F l m->Paired F (l.take n) (m.take n)
 | _,_,0,_=>by rw[List.take_zero,List.take_zero];exact .nil
 | _,_,_+1,.nil=>.nil
 | _,_,n+1,.cons r t=>.cons r (my n t)
theorem mj {α β:Type}{F:α->β->Prop}:∀ {l:List α}{m:List β}(n:Nat),Paired F l m->Paired F (l.drop n) (m.drop n)
 | _,_,0,h=>h
 | _,_,_+1,.nil=>.nil
 | _,_,n+1,.cons _ t=>mj n t
inductive zw (vs:List V) (H:Hp) (Q:VK) (E_:XK):Prop
 | mk (a b c d:Int) (h_0:vs=[.int a,.int b,.int c,.int d]) (h_1:∀ (l:Addr)(H':Hp),H l=none->ax H H'->aY H' l [(a,d),(b,c),(a,b),(c,d),(b,d),(a,c)]->Q (.ref l) H'):zw vs H Q E_
inductive zz (vs:List V) (H:Hp) (Q:VK) (E_:XK):Prop
 | mk (x y:Bool) (h_0:vs=[.bl x,.bl y]) (h_1:Q (.bl (decide (V.bl x=V.bl y))) H):zz vs H Q E_
theorem DZ (w:List (Int×Int)):(BQ w).length<=w.length:=by
 unfold BQ aU;rw[Me];refine MZ (NE _ _) ?_;rw[ir];unfold aq;rw[Me];exact Mn _
theorem EM (w:List (Int×Int)):(aU w).length<=w.length:=by have:=DZ w;unfold BQ at this;rwa [Me]at this
end Wz
namespace L2
open PySem PySem.Spec PyProof.Rows
def HR (g B:Heap)(e:Addr)(c:Value)(od:Option Addr)(fl:Value):Prop :=
 ∃ oe us T oT ts,g.get? e=some oe/\(oe.cls=c/\oe.dict=od)/\oe.data=.fields us/\us[1]? = some (.ref T)/\B.get? T=none/\T≠e/\g.get? T=some oT/\oT.data=.fields ts/\ts[3]? = some fl
def lJ (B:Heap)(l:List Env)(e:Addr)(c:Value)(od:Option Addr)(g:Heap):Prop:=B.StaysIn g/\B.get? e=none/\g.FunFrames B l/\HR g B e c od .none
def HL (B:Heap)(l:List Env)(e:Addr)(c:Value)(od:Option Addr)(L:Addr)(g:Heap):Prop:=B.StaysIn g/\B.get? e=none/\g.FunFrames B l/\HR g B e c od (rawInt L)
theorem GS (f:Array Value->Array Value)(o:Obj):(Obj.mapFields f o).dict=o.dict:=by
 unfold Obj.mapFields;split<;>rfl
theorem lJ.obj {B g:Heap}{l:List Env}{e:Addr}{c:Value}{od:Option Addr}(x:lJ B l e c od g):∃ ob us,g.get? e=some ob/\ob.cls=c/\ob.dict=od/\ob.data=.fields us:=by
 obtain⟨_,_,_,oe,us,_,_,_,he,hc,hd,_⟩:=x;exact⟨oe,us,he,hc.1,hc.2,hd⟩
section
variable {M:Model}{A:Around}{E:Value->Shared->Prop}{s:Shared}{B:Heap}{env:Env}{outer:List Env}{L e:Addr}{od:Option Addr}{c:Value}
def Kz (g g':Heap):Prop:=∀ b o,g.get? b=some o->(∀ us,o.data≠.fields us)->∃ sl,g'.get? b=some { o with slots:=sl }
theorem E5 {oe:Obj}{us:Array Value}{head:Value}{hn:Bool}{Q:Unit->Shared->Prop}(fr:A.frames=some (env::outer))(hl:s.heap.FunFrames B (env::outer))(hf:env.frame=some L)
  (he:s.heap.get? e=some oe) (hk:B.StaysIn s.heap) (hb:B.get? e=none) (hd:oe.data=.fields us) (h1:1<us.size)
  (h:∀ g,B.StaysIn g->g.FunFrames B (env::outer)->HR g B e oe.cls oe.dict (rawInt L)->Kz s.heap g->Q () { s with heap:=g }) :
  wpAny M A (do let a <-frameOf env;let pl <-entryPlaceOf L hn;let b <-EntryCells.newEntry head a .none (rawInt L) .none pl;setField (.ref e) 1 b) Q E s:=by
 have hne:e∉(env::outer).filterMap (·.frame):=fun z=>by
  obtain⟨_,o,ho,nf⟩:=hl.mem z;rw[he]at ho;cases ho;exact nf us hd
 refine Mf (wpAny_frameOf_fun fr hl hf fun g1 sl1=>Mf (wpAny_entryPlaceOf fun pl hpl=>?_));unfold EntryCells.newEntry newFields;refine Mf (Ni ?_ (hpl.sizeOk5 _ _ _ _ _));have e1:g1.get? e=some oe:=(sl1.2.1 e hne).trans he;have k1:B.StaysIn g1:=fun b o q=>(sl1.2.1 b fun z=>by rw[(hl.mem z).1]at q;cases q).trans (hk b o q);generalize hob:({ cls:=.type "traceback",dict:=none,data:=.fields ([head,.ref L,.none,rawInt L,.none]++(if pl.isEmpty then List.replicate 6 Value.none else pl)).toArray }:Obj)=ob
 have obd:ob.data=.fields ([head,.ref L,.none,rawInt L,.none]++(if pl.isEmpty then List.replicate 6 Value.none else pl)).toArray:=by rw[<-hob]
 have e2:=Heap.get?_push_of_some (h:=g1) ob e1;refine Oz e2 hd h1 ?_;have ne:g1.objs.size≠e:=Nat.ne_of_gt (Mw e1);have d3:=Ow hd (·.setIfInBounds 1 (Value.ref g1.objs.size));have e3:=Heap.get?_update_self (Obj.mapFields (·.setIfInBounds 1 (Value.ref g1.objs.size))) e2 (Obj.isFreed_of_fields d3)
 have keep:∀ b o,b≠e->g1.get? b=some o->((g1.push ob).update e (Obj.mapFields (·.setIfInBounds 1 (Value.ref g1.objs.size)))).get? b=some o:=fun b o n q=>by
  rw[Heap.get?_update_other _ _ (ME n)];exact Heap.get?_push_of_some _ q
 have nr:∀ b o,s.heap.get? b=some o->(∀ vs,o.data≠.fields vs)->b≠e:=fun b o q nf z=>by
  rw[z,he]at q;cases q;exact nf us hd
 refine h _ (fun b o q=>keep b o (fun z=>by rw[z,hb]at q;cases q) (k1 b o q)) (hl.of_keeps fun b o q nf=>?_) ?_ fun b o q nf=>?_
 ·obtain⟨sl,z⟩:=sl1.2.2 b o q
  exact⟨_,keep b _ (nr b o q nf) z,rfl⟩
 ·refine⟨_,_,g1.objs.size,ob,_,e3,⟨Obj.cls_mapFields _ _,GS _ _⟩,d3,by simp[h1],k1.fresh,ne,?_,obd,by first | (simp;done) | (rcases hpl with rfl | ⟨_,_,_,_,_,_,_,rfl⟩<;>simp)⟩
  rw[Heap.get?_update_other _ _ (ME ne)];exact Heap.get?_push_size g1 (by rw[<-hob];rfl)
 ·obtain⟨sl,z⟩:=sl1.2.2 b o q
  exact⟨sl,keep b _ (nr b o q nf) z⟩
theorem AD {oe:Obj}{us:Array Value}{Q:Unit->Shared->Prop}(fr:A.frames=some (env::outer))(hl:s.heap.FunFrames B (env::outer))(hf:env.frame=some L)
  (he:s.heap.get? e=some oe) (hk:B.StaysIn s.heap) (hb:B.get? e=none) (hd:oe.data=.fields us) (h1:us[1]? = some .none)
  (h:∀ g,B.StaysIn g->g.FunFrames B (env::outer)->HR g B e oe.cls oe.dict (rawInt L)->Kz s.heap g->Q () { s with heap:=g }):wpAny M A (noteFrame (.ref e) env) Q E s:=by
 unfold noteFrame;simp only[hf];refine Mf (Ox he hd h1 ?_);rw[Mg (by decide)];exact E5 fr hl hf he hk hb hd (Array.getElem?_eq_some_iff.mp h1).1 h
theorem vp {Q:Unit->Shared->Prop}(fr:A.frames=some (env::outer))(hl:s.heap.FunFrames B (env::outer))(hf:env.frame=some L)(ht:HR s.heap B e c od .none)(hk:B.StaysIn s.heap)(hb:B.get? e=none)
  (h:∀ g,B.StaysIn g->g.FunFrames B (env::outer)->HR g B e c od (rawInt L)->Kz s.heap g->Q () { s with heap:=g }):wpAny M A (noteFrame (.ref e) env) Q E s:=by
 obtain⟨oe,us,T,oT,ts,he,⟨rfl,rfl⟩,hd,h1,nT,ne,hT,dT,h3⟩:=ht;unfold noteFrame;simp only[hf];refine Mf (Ox he hd h1 ?_);rw[Mi (show (Value.ref T != Value.none)=true by simp)];refine Mf (Ox hT dT h3 ?_);rw[Mg (show ¬((Value.none == rawInt L)=true) by simp[rawInt])];refine Mf (Oz hT dT (Array.getElem?_eq_some_iff.mp h3).1 ?_);have ot:∀ b,b≠T->(s.heap.update T (Obj.mapFields (·.setIfInBounds 3 Value.none))).get? b=s.heap.get? b:=fun b z=>Heap.get?_update_other _ _ (ME z)
 have nr:∀ b o,s.heap.get? b=some o->(∀ vs,o.data≠.fields vs)->b≠T:=fun b o q nf z=>by
  rw[z,hT]at q;cases q;exact nf ts dT
 refine E5 fr (hl.of_keeps fun b o q nf=>⟨o,(ot b (nr b o q nf)).trans q,rfl⟩) hf ((ot e (ME ne)).trans he) (fun b o q=>(ot b fun z=>by rw[z,nT]at q;cases q).trans (hk b o q)) hb hd (Array.getElem?_eq_some_iff.mp h1).1 fun g a1 a2 a3 a4=>h g a1 a2 a3 fun b o q nf=>?_;exact a4 b o ((ot b (nr b o q nf)).trans q) nf
theorem ud {l:List Env}{fl:Value}{Q:Unit->Shared->Prop}(hk:B.StaysIn s.heap)(hl:s.heap.FunFrames B l)(ht:HR s.heap B e c od fl)
  (h:∀ g,B.StaysIn g->g.FunFrames B l->HR g B e c od .none->s.heap.UpToSlots g->Q () { s with heap:=g }):wpAny M A (setFlight (.ref e) none) Q E s:=by
 obtain⟨oe,us,T,oT,ts,he,hc,hd,h1,nT,ne,hT,dT,h3⟩:=ht;have z3:3<ts.size:=(Array.getElem?_eq_some_iff.mp h3).1;have ot:∀ b,b≠T->(s.heap.update T (Obj.mapFields (·.setIfInBounds 3 ((none:Option Addr).elim Value.none fun f=>rawInt f)))).get? b=s.heap.get? b:=fun b z=>Heap.get?_update_other _ _ (ME z)
 have nr:∀ b o,s.heap.get? b=some o->(∀ vs,o.data≠.fields vs)->b≠T:=fun b o q nf z=>by
  rw[z,hT]at q;cases q;exact nf ts dT
 unfold setFlight;refine Mf (Ox he hd h1 ?_);rw[Mi (show (Value.ref T != Value.none)=true by simp)];refine Oz hT dT z3 (h _ (fun b o q=>(ot b fun z=>by rw[z,nT]at q;cases q).trans (hk b o q)) (hl.of_keeps fun b o q nf=>⟨o,(ot b (nr b o q nf)).trans q,rfl⟩) ?_ fun b o q nf=>⟨o.slots,(ot b (nr b o q nf)).trans q⟩);exact⟨oe,us,T,_,_,(ot e (ME ne)).trans he,hc,hd,h1,nT,ne,Heap.get?_update_self _ hT (Obj.isFreed_of_fields (Ow dT _)),Ow dT _,by simp[z3]⟩
theorem Gi {g g' g'':Heap}(a:Kz g g')(b:g'.UpToSlots g''):g.UpToSlots g'':=fun x o q nf=>by
 obtain⟨sl,z⟩:=a x o q nf;obtain⟨sl2,z2⟩:=b x _ z nf;exact⟨sl2,z2⟩
theorem yw {oe:Obj}{us:Array Value}{Q:Unit->Shared->Prop}(fr:A.frames=some (env::outer))(hf:env.frame=some L)(hk:B.StaysIn s.heap)(hl:s.heap.FunFrames B (env::outer))
  (he:s.heap.get? e=some oe) (hb:B.get? e=none) (hd:oe.data=.fields us) (h1:us[1]? = some .none)
  (hq:∀ g,lJ B outer e oe.cls oe.dict g->s.heap.UpToSlots g->Q () { s with heap:=g }):wpAny M A (leaving env (.ref e)) Q E s:=by
 unfold leaving;refine Mf (AD fr hl hf he hk hb hd h1 fun g a1 a2 a3 a4=>?_);exact ud (s:={ s with heap:=g }) a1 a2 a3 fun g2 b1 b2 b3 b4=>hq g2 ⟨b1,hb,b2.2.2,b3⟩ (Gi a4 b4)
theorem BM {Q:Unit->Shared->Prop}(fr:A.frames=some (env::outer))(hf:env.frame=some L)(fl:lJ B (env::outer) e c od s.heap)
  (hq:∀ g,lJ B outer e c od g->s.heap.UpToSlots g->Q () { s with heap:=g }):wpAny M A (leaving env (.ref e)) Q E s:=by
 obtain⟨f1,f2,f3,f4⟩:=fl;unfold leaving;refine Mf (vp fr f3 hf f4 f1 f2 fun g a1 a2 a3 a4=>?_);exact ud (s:={ s with heap:=g }) a1 a2 a3 fun g2 b1 b2 b3 b4=>hq g2 ⟨b1,f2,b2.2.2,b3⟩ (Gi a4 b4)
theorem xV {Q:Unit->Shared->Prop}(fr:A.frames=some (env::outer))(hf:env.frame=some L)(fl:lJ B (env::outer) e c od s.heap)
  (hq:∀ g,HL B (env::outer) e c od L g->s.heap.UpToSlots g->Q () { s with heap:=g }):wpAny M A (noteFrame (.ref e) env) Q E s:=by
 obtain⟨f1,f2,f3,f4⟩:=fl;exact vp fr f3 hf f4 f1 f2 fun g a1 a2 a3 a4=>hq g ⟨a1,f2,a2,a3⟩ a4
theorem Fu {l:List Env}{Q:Unit->Shared->Prop}(hh:HL B l e c od L s.heap)(hq:∀ g,lJ B l e c od g->s.heap.UpToSlots g->Q () { s with heap:=g }):wpAny M A (setFlight (.ref e) none) Q E s:=by
 obtain⟨f1,f2,f3,f4⟩:=hh;exact ud f1 f3 f4 fun g a1 a2 a3 a4=>hq g ⟨a1,f2,a2,a3⟩ a4
theorem qb {l:List Env}{Q:Unit->Shared->Prop}(hh:lJ B l e c od s.heap)(hq:∀ g,lJ B l e c od g->s.heap.UpToSlots g->Q () { s with heap:=g }):wpAny M A (setFlight (.ref e) none) Q E s:=by
 obtain⟨f1,f2,f3,f4⟩:=hh;exact ud f1 f3 f4 fun g a1 a2 a3 a4=>hq g ⟨a1,f2,a2,a3⟩ a4
end
abbrev Bp:List Value:=[.type "ValueError",.type "Exception",.type "BaseException",.type "object"]
def exOb (C t:Addr)(od:Option Addr):Obj:={ cls:=.ref C,dict:=od,data:=.fields #[.ref t,.none,.none,.none,.bool false,.none] }
def jC:List Value->Bool
 | .ref _::r=>jC r
 | l=>l == Bp
theorem tw (self:Value):∀ {l:List Value},jC l=true->refuseLoop self "__setattr__" l=pure ()
 | .ref c::r,e=>by rw[refuseLoop_ref];exact tw self (l:=r) e
 | [],e=>by cases e
 | .type a::r,e=>by rw[show (.type a::r:List Value)=Bp from Oq.mp e];exact PySem.F.store_ValueError.passes self
 | .none::_,e=>by simp[jC,Bp]at e
 | .bool _::_,e=>by simp[jC,Bp]at e
 | .int _ _::_,e=>by simp[jC,Bp]at e
 | .str _ _::_,e=>by simp[jC,Bp]at e
 | .bytes _ _::_,e=>by simp[jC,Bp]at e
 | .float _ _::_,e=>by simp[jC,Bp]at e
 | .builtin _::_,e=>by simp[jC,Bp]at e
 | .ellipsis::_,e=>by simp[jC,Bp]at e
 | .notImplemented::_,e=>by simp[jC,Bp]at e
def oY (K:PySem.W.Frag)(C fI:Addr):Bool:=match K.lookup C with
 | some ⟨.type "type",_,.cls cd,sl⟩=>(match cd.mro,sl.toList with
  | .ref D::bm,[_,_,_,_,some (.builtin n),_]=>D == C&&n == "ValueError.__new__"&&!cd.hasDel&&PySem.W.tailIn K Bp bm&&PySem.W.nsOkIn K cd.ns&&PySem.W.nsIn K cd.ns "__init__" == some (some (.ref fI))
  | _,_=>false)
 | _=>false
theorem B8 {K:PySem.W.Frag}{h:Heap}{N:Addr}{mg:Str->Option Value}{n:Str}{v:Value}(X:K.In h)(G:h.Ns N mg)(e:PySem.W.nsIn K N n=some (some v)):mg n=some v:=by
 obtain⟨o,es,ep,ho,hd,hk,hf⟩:=G;unfold PySem.W.nsIn at e;split at e
 ·rename_i oc od es2 n2 sl hl
  have:=X _ _ hl;rw[ho]at this;cases this;cases hd;split at e
  ·rename_i en he
   cases e;rw[<-hf n];unfold nsFind findBy;rw[<-Array.find?_toList,he];rfl
  ·split at e<;>cases e
 ·cases e
theorem z4 {K:PySem.W.Frag}{h:Heap}{C fI:Addr}(X:K.In h)(q:oY K C fI=true) :
  ∃ bm N nm qn bs hdct sn sub ab col dd k0 k1 k2 k3 k5 mN,h.get? C=some (excClassObj nm qn C N bs bm hdct sn sub ab col dd k0 k1 k2 k3 k5 "ValueError.__new__")/\h.Ns N mN/\mN "__init__" = some (.ref fI)/\OwnTail h Bp bm:=by
 unfold oY at q;split at q
 ·rename_i dd cd sl ho
  split at q
  ·rename_i D bm k0 k1 k2 k3 n k5 hm hs
   simp only[N7,Oq,Bool.not_eq_true']at q;obtain⟨⟨⟨⟨⟨rfl,rfl⟩,hdel⟩,ht⟩,hok⟩,hni⟩:=q;obtain⟨nm,bs,mro,ns,qn,hd,sn,sub,ab,col,del⟩:=cd;dsimp only at hm hdel hok hni;subst hm hdel
   have hsl:sl = #[k0,k1,k2,k3,some (.builtin "ValueError.__new__"),k5]:=by
    obtain⟨l⟩:=sl;simp only at hs;rw[hs]
   subst hsl;have G:h.Ns ns _:=.of_isNs (PySem.W.isNs_of_in X hok);exact⟨bm,ns,nm,qn,bs,hd,sn,sub,ab,col,dd,k0,k1,k2,k3,k5,_,X _ _ ho,G,B8 X G hni,PySem.W.tail_of_in X ht⟩
  ·cases q
 ·cases q
structure KS (K:PySem.W.Frag)(C:Addr)(f:Str):Prop where
 ga:PySem.W.findIn K (.ref C) "__getattribute__" = some (some (.builtin "BaseException.__getattribute__"))
 gh:PySem.W.findIn K (.ref C) "__getattr__" = some none
 sa:PySem.W.findIn K (.ref C) "__setattr__" = some (some (.builtin "object.__setattr__"))
 na:PySem.W.findIn K (.ref C) f=some none
 hd:PySem.W.hasDictIn K C=true
 mb:PySem.W.mroIn K C (.type "BaseException")=some true
 mo:PySem.W.mroIn K C (.type "object")=some true
 ov:((PySem.W.clsIn K C).any fun cd=>jC cd.mro)=true
section
variable {prog:Program}{w:World}{A:Around}{E:Value->Shared->Prop}{s:Shared}{K:PySem.W.Frag}{x dx C:Addr}{mA:Str->Option Value}{f:Str}{v:Value}
theorem IT {t:Addr}{Q:Unit->Shared->Prop}(X:K.In s.heap)(c:KS K C f)(hx:s.heap.get? x=some (exOb C t none))
  (h:∀ h' tk,h'.get? x=some (exOb C t (some s.heap.objs.size))->h'.Ns1 s.heap.objs.size (fun y=>if y=f then some v else none)->(∀ b o,b≠x->s.heap.get? b=some o->h'.get? b=some o)->Q () { s with heap:=h',toks:=tk }) :
  wpAny (model prog w) A (setAttr (.ref x) f v) Q E s:=by
 have J:PySem.W.InstAt s.heap x (exOb C t none) C none:=⟨hx,rfl,rfl,trivial⟩;have SF:=PySem.F.store_ValueError;obtain⟨cd,hcd,ho⟩:=PySem.W.any_some c.ov;obtain⟨cd',hcd',hd'⟩:=PySem.W.any_some c.hd
 have e0:cd'=cd:=by rw[hcd]at hcd';exact (Mu hcd').symm
 subst e0;have L0:=J.type (M:=model prog w);have sub:PySem.W.Looks (model prog w) s.heap (isInstance (.ref x) (.type "object")) true:=L0.andThen (PySem.W.looks_mroIn X c.mo);have hm:PySem.W.Looks (model prog w) s.heap (mroOf (.ref C)) cd'.mro:=(PySem.W.looks_clsIn X hcd).andThen .now;refine PySem.W.set_plain X J c.sa ?_;refine codeAny_call_builtin SF.slot.plain SF.entry (@PySem.W.check_slot (model prog w) _ _ { s with toks:=s.toks+1 } "object.__setattr__" "object" "__setattr__" (.ref x) [.str f s.toks,v] [] _ SF.kind SF.split sub (SF.args (.ref x) (.str f s.toks) v) ?_);rw[PySem.W.osa_eq,refuse_eq];refine Mf (Mf (L0 _ _ _ _ (fun _ _ e=>e) (Mf (hm _ _ _ _ (fun _ _ e=>e) ?_))));rw[tw _ ho];refine Mq (Mf (L0 _ _ _ _ (fun _ _ e=>e) (Mf (PySem.W.looks_findIn X c.na _ _ _ _ (fun _ _ e=>e) (Mf (Mq ?_))))));refine Mf (Mq (Mf (Mf (wpAny_loadPart hx (Mf (PySem.W.Looks.here (s:={ s with toks:=s.toks+1 }) (PySem.W.looks_clsIn X hcd) ?_))))));rw[hd'];rw[Mg (by decide)];have hxs:x≠s.heap.objs.size:=MB (Mw hx);have hx1:(s.heap.push { cls:=.type "dict",data:=.dict #[] }).get? x=some (exOb C t none):=Heap.get?_push_of_some _ hx
 show wpAny (model prog w) A.in1 (alloc { cls:=.type "dict",data:=.dict #[] } >>= fun dA=>(update x fun o=>{ cls:=o.cls,dict:=some dA,data:=o.data,slots:=o.slots }) >>= fun _=>dictMade (Value.ref C) x dA) _ _ _
 refine Mf (wpAny_alloc' (Mf (wpAny_update' hx1 (Mq ?_))));generalize hg:((s.heap.push { cls:=.type "dict",data:=.dict #[] }).update x fun o=>{ cls:=o.cls,dict:=some s.heap.objs.size,data:=o.data,slots:=o.slots })=g1
 have hgd:g1.get? s.heap.objs.size=some { cls:=.type "dict",data:=.dict #[] }:=by
  rw[<-hg,Heap.get?_update_ne _ _ _ _ hxs.symm];exact Heap.get?_push_at rfl rfl
 have hgx:g1.get? x=some (exOb C t (some s.heap.objs.size)):=by rw[<-hg];exact Heap.get?_update_self _ hx1 rfl
 have hgo:∀ b o,b≠x->s.heap.get? b=some o->g1.get? b=some o:=fun b o n q=>by rw[<-hg,Heap.get?_update_ne _ _ _ _ n];exact Heap.get?_push_of_some _ q
 have hnd:g1.Ns s.heap.objs.size (fun _=>none):=⟨_,#[],_,hgd,rfl,fun e he=>absurd he (by simp),fun _=>rfl⟩
 show wpAny _ _ (Builtin.ObjectAttr.storeInDict s.heap.objs.size (.str f s.toks) f v) _ _ _
 unfold Builtin.ObjectAttr.storeInDict Builtin.ObjectAttr.newKeyGuard;refine Mf (Mq (Mf (wpAny_nsSet1 (Heap.Ns1.of_empty hnd) fun h' hn2 hs2=>?_)));obtain⟨oD,esD,epD,hoD,hdD,hcD⟩:=hn2.count (PySem.Within.cons f v PySem.Within.nil);refine Mf (wpAny_lookBehind hoD (by rw[hdD];exact pastItsLine_dict (MZ hcD (by rw[MX,List.length_nil,N8];omega))) ?_);refine Mq (h h' _ ((hs2.2 x hxs).trans hgx) hn2 fun b o n q=>?_);exact (hs2.2 b (MB (Mw q))).trans (hgo b o n q)
theorem FI {t fI:Addr}{u:Value}{Q:Value->Shared->Prop}(X:K.In s.heap)(c:oY K C fI=true)(hx:s.heap.get? x=some (exOb C t none))
  (h:∀ h' t',h'.get? x=some (exOb C t' none)->(∀ b o,b≠x->s.heap.get? b=some o->h'.get? b=some o)->Q .none { s with heap:=h' }) :
  wpAny (model prog w) A (call (.builtin "ValueError.__init__") [.ref x,u]) Q E s:=by
 have F:=Oe;obtain⟨bm,N,nm,qn,bs,hdct,sn,sub,ab,col,dd,k0,k1,k2,k3,k5,mN,hC,hN,hni,T⟩:=z4 X c;obtain⟨hp,g,d,tk,os⟩:=s;refine wpAny_call (codeAny_call_builtin F.init.plain F.initEntry (wpAny_check_init_subT F T hC hx rfl ?_));unfold Builtin.«BaseException.__init__»;dsimp only;rw[Mg (by simp)];unfold newTuple Builtin.BaseException.bexcPut;have hx1:=Heap.get?_push_of_some (h:=hp) { cls:=.type "tuple",data:=.seq #[u] } hx;refine Mf (Ni (Mf (Mf (Ox hx1 rfl rfl (Mf (Oz hx1 rfl (by show 0<6;decide) ?_))))) (by size_fits));refine wpAny_letGo (Mq (h _ hp.objs.size ?_ fun b o n q=>?_))
 ·exact Heap.get?_update_self _ hx1 rfl
 ·rw[Heap.get?_update_other _ _ (ME n)];exact Heap.get?_push_of_some _ q
end
end L2
namespace PySem
open Sem (wp)
section
variable {prog:Program}{w:World}{A:Around}{E:Value->Shared->Prop}{h:Heap}{g:Array GenState}{d:Drawn}{t:Nat}{os:OsState}
variable {nm q:Str}{C N:Addr}{bs bm bmB:List Value}{hdct:Bool}{sn:List Str}{sub:List Value}{ab:Bool}{col:Option Bool}{dd:Option Addr}{k0 k1 k2 k3 k5:Option Value}{B newId initId:String}
theorem qP (F:ExcBaseFacts B newId initId bmB)(T:OwnTail h bmB bm){mN:Str->Option Value}{rest:List Value}{fI:Addr}{oI:Obj}{Q:Fin->Shared->Prop}
  (hC:h.get? C=some (excClassObj nm q C N bs bm hdct sn sub ab col dd k0 k1 k2 k3 k5 newId)) (hn:h.Ns N mN) (hi:mN "__init__" = some (.ref fI)) (hfI:h.get? fI=some oI) (hfc:oI.cls=.type "function")
  (hq:∀ h' e,Heap.MadeExcOf h h' e (.ref C) rest->wpAny (model prog w) A (call (.ref fI) (.ref e::rest)) (fun r s'=>r=.none/\Q (.done (.ret (.ref e))) s') E ⟨h',g,d,t,os⟩) (hrest:rest.length<=sizeLine) :
  wpAny (model prog w) A (Builtin.«type.__call__» ⟨.ref C::rest,[]⟩) Q E ⟨h,g,d,t,os⟩:=by
 repeat (first | with_reducible refine Oy hC ?_ | with_reducible refine wpAny_madeBy_exc hC ?_ | wp_step)
 refine codeAny_call_builtin_code (Code.quiet_builtin _ F.quiet) (wpAny_check_new_subT F T hC ?_);refine codeAny_exc_new_subT F T hC ?_ hrest
 show wpAny _ _ _ _ _ _
 have keep:∀ b o,h.get? b=some o->((h.push { cls:=.type "tuple",data:=.seq rest.toArray }).push { cls:=.ref C,data:=.fields #[.ref h.objs.size,.none,.none,.none,.bool false,.none] }).get? b=some o:=fun b o e=>Heap.get?_push_of_some _ (Heap.get?_push_of_some _ e);have hC1:=keep _ _ hC;have hn1:=hn.keeps keep
 have hget:((h.push { cls:=.type "tuple",data:=.seq rest.toArray }).push { cls:=.ref C,data:=.fields #[.ref h.objs.size,.none,.none,.none,.bool false,.none] }).get? (h.objs.size+1)=some { cls:=.ref C,data:=.fields #[.ref h.objs.size,.none,.none,.none,.bool false,.none] }:=by heap_get
 have hcC:(Value.ref C::bm).contains (.ref C)=true:=by simp
 have T1:=T.keeps keep;unfold isInstance
 repeat (first | with_reducible refine Oy hget ?_ | (with_reducible refine wpAny_isSubtype_exc hC1 ?_;rw[hcC]) | wp_step)
 show wpAny _ _ (typeLookup (.ref C) _) _ _ _
 refine wpAny_typeLookup_tail hC1 hn1 T1 F.mroIs F.init.lookup ?_;rw[hi];refine NA (Mf ?_);unfold bindSpecial;refine Mf (wpAny_typeOf (T:="function") ⟨_,keep _ _ hfI,hfc⟩ ?_);rw[Mi (by decide)];refine Mq (Mf (MP (hq _ (h.objs.size+1) ⟨keep,Heap.get?_none_of_le (Nat.le_succ _),h.objs.size,hget,Heap.get?_none_of_le (Mn _),Heap.get?_push_of_some _ (Heap.get?_push_at rfl rfl)⟩) (fun r s' hr=>?_) fun _ _ x=>x));obtain⟨rfl,hQ⟩:=hr
 wp_walk
 exact hQ
theorem zD (F:ExcBaseFacts B newId initId bmB)(T:OwnTail h bmB bm){mN:Str->Option Value}{rest:List Value}{fI:Addr}{oI:Obj}{Q:Value->Shared->Prop}
  (hC:h.get? C=some (excClassObj nm q C N bs bm hdct sn sub ab col dd k0 k1 k2 k3 k5 newId)) (hn:h.Ns N mN) (hi:mN "__init__" = some (.ref fI)) (hfI:h.get? fI=some oI) (hfc:oI.cls=.type "function")
  (hq:∀ h' e,Heap.MadeExcOf h h' e (.ref C) rest->wpAny (model prog w) (A.under (.builtin "type.__call__" ⟨.ref C::rest,[]⟩)) (call (.ref fI) (.ref e::rest)) (fun r s'=>r=.none/\Q (.ref e) s') E ⟨h',g,d,t,os⟩) (hrest:rest.length<=sizeLine) :
  wpAny (model prog w) A (call (.ref C) rest) Q E ⟨h,g,d,t,os⟩:=by
 have f1:=tc_lookup;have f2:=tc_bind (.ref C);have hT:(⟨h,g,d,t,os⟩:Shared).TypeIs (.ref C) "type":=⟨_,hC,rfl⟩;refine wpAny_call (codeAny_of_tree ?_)
 show wpAny _ _ (callAny (.ref C) _) _ _ _
 repeat (any_goals (first | assumption | with_reducible refine Oy hC ?_ | wp_step))
 refine⟨rfl,?_⟩;refine codeAny_call_builtin_at (Code.quiet_builtin _ (by decide +kernel)) entry_typeCall (wpAny_check_type_call_sub hC (qP F T hC hn hi hfI hfc (fun h' e hm=>?_) hrest));exact hq h' e hm
theorem Gy {x:Sem Value}{s:Shared}{env:Env}{Q:Flow->Shared->Prop}(hbase:bm.contains (.type "BaseException")=true)(hh:A.handled=none)
  (h:wpAny (model prog w) A x (fun v s1=>∃ e t od,v=.ref e/\s1.heap.get? C=some (excClassObj nm q C N bs bm hdct sn sub ab col dd k0 k1 k2 k3 k5 newId)/\s1.heap.get? e=some (L2.exOb C t od)/\E (.ref e) s1) E s) :
  wpAny (model prog w) A (raiseStmt env (some x) none) Q E s:=by
 have hcB:(Value.ref C::bm).contains (.type "BaseException")=true:=by rw[List.contains_cons,hbase,Bool.or_true]
 unfold raiseStmt;refine Mf (MP h (fun v s1 h1=>?_) fun _ _ x=>x);obtain⟨e,t,od,rfl,hC,he,hE⟩:=h1;obtain⟨hp,g,d,tk,os⟩:=s1;unfold L2.exOb at he
 repeat (first | with_reducible refine Oy he ?_ | with_reducible refine Oy hC ?_ | (with_reducible refine wpAny_isSubtype_exc hC ?_;rw[hcB]) | wp_step)
 exact wpAny_raiseNew_none hh hE
end
end PySem
namespace L2
open PySem PySem.Spec PyProof.Rows
abbrev fu (K:PySem.W.Frag)(C:Addr):Prop:=PySem.W.excIn K C Bp "ValueError.__new__" = true
theorem GW {K:PySem.W.Frag}{h:Heap}{C:Addr}(X:K.In h)(q:fu K C) :
  ∃ bm N nm qn bs hdct sn sub ab col dd k0 k1 k2 k3 k5 mN,h.get? C=some (excClassObj nm qn C N bs bm hdct sn sub ab col dd k0 k1 k2 k3 k5 "ValueError.__new__")/\h.Ns N mN/\mN "__init__" = none/\OwnTail h Bp bm:=by
 have q:PySem.W.excIn K C Bp "ValueError.__new__" = true:=q;unfold PySem.W.excIn at q;split at q
 ·rename_i dd cd sl ho
  split at q
  ·rename_i C' bm k0 k1 k2 k3 n k5 hm hs
   simp only[N7,Oq,Bool.not_eq_true']at q;obtain⟨⟨⟨⟨⟨rfl,rfl⟩,hdel⟩,ht⟩,hok⟩,hni⟩:=q;obtain⟨nm,bs,mro,ns,qn,hd,sn,sub,ab,col,del⟩:=cd;dsimp only at hm hdel hok hni;subst hm hdel
   have hsl:sl = #[k0,k1,k2,k3,some (.builtin "ValueError.__new__"),k5]:=by
    obtain⟨l⟩:=sl;simp only at hs;rw[hs]
   subst hsl;exact⟨bm,ns,nm,qn,bs,hd,sn,sub,ab,col,dd,k0,k1,k2,k3,k5,_,X _ _ ho,.of_isNs (PySem.W.isNs_of_in X hok),PySem.W.nsMap_none_of_in X hok hni,PySem.W.tail_of_in X ht⟩
  ·cases q
 ·cases q
def zZ (e C:Addr)(od:Option Addr):HO:=.ext fun h=>∃ t,h.get? e=some (exOb C t od)
theorem BC {P:Program}{w:World}{H:Hp}{h:Heap}{e C t:Addr}{od:Option Addr}(q:h.get? e=some (exOb C t od)):bD P w H h e (zZ e C od):=⟨⟨t,q⟩,⟨_,q⟩,fun h1 h2 ⟨t,q⟩ k=>⟨t,k _ q⟩⟩
def xp (H:Hp)(a:Addr):Hp:=fun b=>if b=a then none else H b
theorem nZ {H:Hp}{a b:Addr}(h:b≠a):xp H a b=H b:=by unfold xp;rw[Mg h]
theorem EL {H:Hp}{a:Addr}:xp H a a=none:=by unfold xp;rw[Mi rfl]
theorem aK.untrack {X:Cx}{pins:List (Addr×Obj)}{σ:St}{H:Hp}{s:Shared}{a:Addr}{φ:Heap->Prop}(I:aK X pins σ H s)(e:H a=some (.ext φ)):aK X pins σ (xp H a) s:=by
 have ne:∀ b o,H b=some o->(∀ ψ,o≠.ext ψ)->b≠a:=fun b o q n z=>by rw[z,e]at q;cases q;exact n _ rfl
 have u:Un X.fs [] H (xp H a) s.heap s.heap :=
  ⟨fun b o q _ _ _=>q,fun b o q _ _ _=>⟨o.slots,q⟩,fun b o q n _=>by unfold xp;split<;>first | rfl | exact n,fun b o q _=>⟨o,q⟩,fun b xs q=>by rw[nZ (ne b _ q fun ψ z=>nomatch z)];exact q,fun b o u q=>by rw[nZ (ne b _ q fun ψ z=>nomatch z)];exact q,fun b ps q=>⟨#[],by rw[nZ (ne b _ q fun ψ z=>nomatch z),q];simp⟩⟩
 have hk:kS X.prog X.w (xp H a) s.heap:=fun b o q=>by
  by_cases hb:b=a
  ·rw[hb,EL]at q;cases q
  ·rw[nZ hb]at q
   exact (I.hok b o q).stay (fun c v _ r=>r) (fun c r=>by rw[nZ (ne c _ r fun ψ z=>nomatch z)];exact r) fun c xs r=>by rw[nZ (ne c _ r fun ψ z=>nomatch z)];exact r
 exact I.un (t':=s.toks) u hk
theorem bD.has {P:Program}{w:World}{H:Hp}{h:Heap}{a:Addr}{o:HO}(x:bD P w H h a o):∃ u,h.get? a=some u:=by
 cases o with
 | lst xs=>obtain⟨_,_,_,_,e⟩:=x;exact⟨_,e⟩
 | tup xs=>obtain⟨_,_,_,u,e,_⟩:=x;exact⟨u,e⟩
 | dK kvs=>obtain⟨_,_,_,_,o,_,_,e,_⟩:=x;exact⟨o,e⟩
 | dT kvs=>obtain⟨_,_,_,_,o,_,_,e,_⟩:=x;exact⟨o,e⟩
 | set S n=>obtain⟨o,_,_,_,e,_⟩:=x;exact⟨o,e⟩
 | ins C dx fs=>obtain⟨_,_,_,e,_⟩:=x;exact⟨_,e⟩
 | own y=>exact x
 | xd fs=>obtain⟨_,⟨o,_,_,e,_⟩,_⟩:=x;exact⟨o,e⟩
 | rng lo hi=>obtain⟨_,_,_,e⟩:=x;exact⟨_,e⟩
 | frz ob u=>obtain⟨e,_⟩:=x;exact⟨ob,e⟩
 | tbl ps=>exact⟨_,(show h.get? a=some _ from x)⟩
 | met f y=>exact⟨_,(show h.get? a=some _ from x)⟩
 | ext φ=>obtain⟨_,e,_⟩:=x;exact e
def ju (P:Program)(w:World):zF:=fun outer H s E e s'=>∃ (ea C:Addr)(od:Option Addr)(H':Hp)(B:Heap),e=.ref ea/\lJ B outer ea (.ref C) od s'.heap/\Un (jU outer) [] H H' s.heap s'.heap/\kS P w H' s'.heap/\s'.os=s.os/\AllBare s'.gens /\
 (∀ b o,s.heap.get? b=some o->b∉jU outer->∃ o',B.get? b=some o')/\(∀ b o,H' b=some o->∃ o',B.get? b=some o')/\E (.ref C) od H'
theorem Gx {fs:List Addr}{H H':Hp}{h h1 h2 B:Heap}(u:Un fs [] H H' h h1)(b1:B.StaysIn h1)(b2:B.StaysIn h2)(hb:∀ b o,h.get? b=some o->b∉fs->∃ o',B.get? b=some o')(sl:∀ b o,b∈fs->h.get? b=some o->H b=none->∃ sl,h2.get? b=some { o with slots:=sl })(th:∀ b o,b∈fs->h.get? b=some o->∃ o',h2.get? b=some o'):Un fs [] H H' h h2:=by
 have eq:∀ b o,h.get? b=some o->b∉fs->h2.get? b=h1.get? b:=fun b o e hf=>by
  obtain⟨o',e'⟩:=hb b o e hf;rw[b1 b o' e',b2 b o' e']
 refine⟨fun b o e n hf hx=>(eq b o e hf).trans (u.keep b o e n hf hx),fun b o e n hf hx=>sl b o hf e n,u.free,fun b o e hx=>?_,u.tups,u.frzs,u.tbls⟩
 by_cases hf:b∈fs
 ·exact th b o hf e
 ·rw[eq b o e hf];exact u.there b o e hx
theorem BI {P:Program}{w:World}{H:Hp}{h1 h2 B:Heap}(x:kS P w H h1)(b1:B.StaysIn h1)(b2:B.StaysIn h2)(hb:∀ b o,H b=some o->∃ o',B.get? b=some o'):kS P w H h2:=fun a o e =>
 (x a o e).stay (fun b u hc q=>by
  have:∃ o',B.get? b=some o':=by
   rcases hc with z | z
   ·rw[z];exact hb a o e
   ·exact hb b _ z
  obtain⟨o',e'⟩:=this;rw[b1 b o' e']at q;rw[<-q]
  exact b2 b o' e') (fun _ q=>q) fun _ _ q=>q
def CF (X:Cx)(E:XK):Prop:=∀ (pins:List (Addr×Obj))(σ:St)(H:Hp)(s:Shared)(ea C t:Addr)(od:Option Addr),aK X pins σ H s->s.heap.get? ea=some (exOb C t od)->H ea=none->X.s₀.heap.get? ea=none->E (.ref C) od H->X.xe (.ref ea) s
section
variable {P:Program}{w:World}{K:PySem.W.Frag}{mg:Str->Option Value}{base:Heap}{N:List Str}{qual:Str}{sc:Scope}{f:Addr}{cd:Value}{A:Around}{outer:List Env}{s0:Shared}{H0:Hp}{E:XK}
theorem gK:CF (uR (ju P w) P w K mg base N qual sc f cd A outer s0 H0 E) E:=by
 intro pins σ H s ea C t od I hx hn hs hE
 let X:Cx:=uR (ju P w) P w K mg base N qual sc f cd A outer s0 H0 E
 show wpAny _ _ (leaving _ _) _ _ _
 have hstk:(X.A.frames:Option (List Env))=some (X.env::outer):=I.ok.frames
 have frS:jU X.stack=X.env.locals::jU outer:=by unfold jU;rfl
 let B:Heap:=PySem.W.hideAll s.heap (ea::jU X.stack)
 have hkb:B.StaysIn s.heap:=fun b o q=>PySem.W.of_hideAll _ q;have inB:∀ b o,s.heap.get? b=some o->b≠ea->b∉jU X.stack->B.get? b=some o:=fun b o e ne hf=>PySem.W.hideAll_get _ e (fun z=>(Ms.mp z).elim ne hf);have hl:s.heap.FunFrames B (X.env::outer):=PySem.W.funFrames_hide I.stack fun env he a hf=>Mh _ (List.mem_filterMap.mpr ⟨env,he,hf⟩);refine yw (s:=s) hstk rfl hkb hl hx (PySem.W.hideAll_none _ Mm) rfl rfl fun h2 fl ups=>?_;have ltl:∀ b o,s0.heap.get? b=some o->b≠X.env.locals:=fun b o e=>MB (MR (Mw e) I.ok.above)
 have h0B:∀ b o,s0.heap.get? b=some o->b∉jU outer->∃ o',B.get? b=some o':=fun b o e hf=>by
  obtain⟨o',e'⟩:=I.base.there b o e (by intro z;exact absurd (show b∈([]:List Addr) from z) (by simp));refine⟨o',inB b o' e' (fun z=>?_) ?_⟩
  ·have hs':s0.heap.get? ea=none:=hs
   rw[z,hs']at e;cases e
  ·rw[frS]
   intro z;rcases Ms.mp z with z | z
   ·exact ltl b o e z
   ·exact hf z
 have trB:∀ b o,H b=some o->∃ o',B.get? b=some o':=fun b o e=>by
  obtain⟨u,q⟩:=(I.hok b o e).has;exact⟨u,inB b u q (fun z=>by rw[z,hn]at e;cases e) fun z=>by rw[I.stkFree b z]at e;cases e⟩
 have noEx:∀ b,b∉X.ex:=fun b z=>absurd (show b∈([]:List Addr) from z) (by simp)
 have slot2:∀ b o,b∈jU outer->s0.heap.get? b=some o->H0 b=none->∃ sl,h2.get? b=some { o with slots:=sl }:=fun b o hf e n=>by
  obtain⟨sl,e1⟩:=I.base.slot b o e n hf (noEx b);obtain⟨_,o2,ho2,hnf⟩:=I.ok.funs.mem hf
  have e2:o2=o:=by
   have:s0.heap.get? b=some o2:=ho2;rw[e]at this;exact (Mu this).symm
  subst e2;obtain⟨sl2,e3⟩:=ups b _ e1 hnf;exact⟨sl2,e3⟩
 refine⟨ea,C,od,H,B,rfl,fl,?_,BI I.hok hkb fl.1 trB,I.os,I.bare,h0B,trB,hE⟩;refine Gx (h1:=s.heap) I.base hkb fl.1 h0B (fun b o hf e n=>?_) fun b o hf e=>?_
 ·exact slot2 b o hf e n
 ·obtain⟨sl,q⟩:=slot2 b o hf e (I.ok.frf b hf)
  exact⟨_,q⟩
theorem gC:fY (ju P w) (uR (ju P w) P w K mg base N qual sc f cd A outer s0 H0 E) E:=by
 intro pins σ H s e s' I hc;obtain⟨ea,C,od,H',B,rfl,fl,un,hok,os,bare,hsB,trB,hE⟩:=hc
 let X:Cx:=uR (ju P w) P w K mg base N qual sc f cd A outer s0 H0 E
 show wpAny _ _ (leaving _ _) _ _ _
 have hstk:(X.A.frames:Option (List Env))=some (X.env::outer):=I.ok.frames
 have frS:jU X.stack=X.env.locals::jU outer:=by unfold jU;rfl
 refine BM hstk rfl fl fun h2 fl2 ups=>?_;have ltl:∀ b o,s0.heap.get? b=some o->b≠X.env.locals:=fun b o e=>MB (MR (Mw e) I.ok.above);have noEx:∀ b,b∉X.ex:=fun b z=>absurd (show b∈([]:List Addr) from z) (by simp)
 have h0B:∀ b o,s0.heap.get? b=some o->b∉jU outer->∃ o',B.get? b=some o':=fun b o e hf=>by
  obtain⟨o',e'⟩:=I.base.there b o e (noEx b);refine hsB b o' e' ?_;rw[frS];intro z;rcases Ms.mp z with z | z
  ·exact ltl b o e z
  ·exact hf z
 have unS:Un (jU outer) [] H0 H' s0.heap s'.heap:=by
  have u1:Un (jU outer) [] H0 H s0.heap s.heap:=I.base;refine⟨fun b o e n hf hx=>?_,fun b o e n hf hx=>?_,fun b o e n hx=>?_,fun b o e hx=>?_,fun b xs q=>un.tups b xs (u1.tups b xs q),fun b o u q=>un.frzs b o u (u1.frzs b o u q),fun b ps q=>?_⟩
  ·refine un.keep b o (u1.keep b o e n hf hx) (u1.free b o e n hx) ?_ hx
   rw[frS];intro z;rcases Ms.mp z with z | z
   ·exact ltl b o e z
   ·exact hf z
  ·obtain⟨sl,e1⟩:=u1.slot b o e n hf hx
   obtain⟨sl2,e2⟩:=un.slot b _ e1 (u1.free b o e n hx) (by rw[frS];exact Mh _ hf) hx;exact⟨sl2,e2⟩
  ·obtain⟨o',e'⟩:=u1.there b o e hx
   exact un.free b o' e' (u1.free b o e n hx) hx
  ·obtain⟨o',e'⟩:=u1.there b o e hx
   exact un.there b o' e' hx
  ·obtain⟨m1,e1⟩:=u1.tbls b ps q
   obtain⟨m2,e2⟩:=un.tbls b _ e1;exact⟨m1++m2,by rw[e2,Array.append_assoc]⟩
 have slot2:∀ b o,b∈jU outer->s0.heap.get? b=some o->H0 b=none->∃ sl,h2.get? b=some { o with slots:=sl }:=fun b o hf e n=>by
  obtain⟨sl,e1⟩:=unS.slot b o e n hf (by simp);obtain⟨_,o2,ho2,hnf⟩:=I.ok.funs.mem hf
  have e2:o2=o:=by
   have:s0.heap.get? b=some o2:=ho2;rw[e]at this;exact (Mu this).symm
  subst e2;obtain⟨sl2,e3⟩:=ups b _ e1 hnf;exact⟨sl2,e3⟩
 refine⟨ea,C,od,H',B,rfl,fl2,?_,BI hok fl.1 fl2.1 trB,os.trans I.os,bare,h0B,trB,hE⟩;refine Gx (h1:=s'.heap) unS fl.1 fl2.1 h0B (fun b o hf e n=>slot2 b o hf e n) fun b o hf e=>?_;obtain⟨sl,q⟩:=slot2 b o hf e (I.ok.frf b hf);exact⟨_,q⟩
end
theorem aK.fresh0 {X:Cx}{pins:List (Addr×Obj)}{σ:St}{H:Hp}{s:Shared}{a:Addr}(I:aK X pins σ H s)(hx:a∉X.ex)(h:s.heap.get? a=none):X.s₀.heap.get? a=none:=by
 cases e:X.s₀.heap.get? a with
 | none=>rfl
 | some o =>
  obtain⟨o',q⟩:=I.base.there a o e hx;rw[h]at q;cases q
theorem aK.unheld {X:Cx}{pins:List (Addr×Obj)}{σ:St}{H:Hp}{s:Shared}{a:Addr}(I:aK X pins σ H s)(h:s.heap.get? a=none):H a=none:=by
 cases e:H a with
 | none=>rfl
 | some o =>
  obtain⟨u,q⟩:=(I.hok a o e).has;rw[h]at q;cases q
def Jx (te:TE)(C:Addr)(E:XK):TS:=fun _ σ H=>te σ H fun _ H1=>E (.ref C) none H1
theorem mz {X:Cx}{C:Addr}{E:XK}{x:Str}{e:Expr}{te:TE}{np cpos pos:Pos}(q:fu X.K C)(hfl:CF X E)(hex:X.ex=[])(hh:X.A.handled=none)(hg:Gl X x)(hm:X.mg x=some (.ref C))(he:PE X e te)
  (hdb:(x == ("__debug__" : Str))=false:=by decide) (hs:starEach [e] X.env=[(false,eval e X.env)]:=by rfl) :
  PS X (.Raise (some (.Call (.Name x np) [e] [] cpos)) none pos) (Jx te C E):=by
 intro pins s σ H D I h;obtain⟨bm,N,nm,qn,bs,hdct,sn,sub,ab,col,dd,k0,k1,k2,k3,k5,mN,hC,hN,hni,T⟩:=GW I.ok.mod.kin q
 refine wpAny_Raise_call_subT (C:=C) (nm:=nm) (q:=qn) (N:=N) (bs:=bs) (bm:=bm) (hdct:=hdct) (sn:=sn) (sub:=sub) (ab:=ab) (col:=col) (dd:=dd) (k0:=k0) (k1:=k1) (k2:=k2) (k3:=k3) (k5:=k5)
  Oe (mN:=mN) (T.hasType Oe.hasBase) hh (by rw[hs];rfl) hni (fC I hg hm ⟨rfl,?_⟩ hdb)
 rw[hs];refine NX (NH (bH (he pins s σ H _ I h) fun u s1 ⟨v,H1,I1,rv,q1⟩=>Og ?_));refine⟨rfl,(show 1<=sizeLine by decide),I1.bk _ _ hC,hN.keeps I1.bk,T.keeps I1.bk,fun h' ea hx=>?_⟩;obtain⟨t,hea,_,_⟩:=hx.there;exact hfl pins σ H1 { s1 with heap:=h' } ea C t none (I1.kept (t':=s1.toks) hx.keeps) hea (I1.unheld hx.new) (I1.fresh0 (by rw[hex];simp) hx.new) q1
section
variable {X:Cx}{pins:List (Addr×Obj)}{σ:St}{H:Hp}{s:Shared}
theorem aK.laidN {a:Addr}{o:HO}{h':Heap}{t':Nat}(I:aK X pins σ H s)(k:∀ b u,s.heap.get? b=some u->h'.get? b=some u)(hp:s.heap.get? a=none)(new:bD X.prog X.w (upd H a o) h' a o) :
  aK X pins σ (upd H a o) { s with heap:=h',toks:=t' }:=by
 have hn:=I.unheld hp
 have ne:∀ b u,s.heap.get? b=some u->b≠a:=fun b u q z=>by rw[z,hp]at q;cases q
 refine I.un ⟨fun b u q _ _ _=>k b u q,fun b u q _ _ _=>⟨u.slots,k b u q⟩,fun b u q n _=>by rw[af (ne b u q)];exact n,fun b u q _=>⟨u,k b u q⟩,fun b xs q=>by rw[af (aj q hn)];exact q,fun b u xs q=>by rw[af (aj q hn)];exact q,fun b ps q=>⟨#[],by rw[af (aj q hn),q];simp⟩⟩ fun b u e=>?_
 by_cases hb:b=a
 ·subst hb;rw[ac]at e;cases e;exact new
 ·rw[af hb]at e
  exact (I.hok b u e).stay (fun c v _ q=>k c v q) (fun c q=>by rw[af (aj q hn)];exact q) fun c xs q=>by rw[af (aj q hn)];exact q
end
inductive HB (C:Addr) (f:Str) (vs:List V) (H:Hp) (Q:VK) (E_:XK):Prop
 | mk (ea:Addr) (g:Int) (h_0:vs=[.ref ea,.int g]) (h_1:g.natAbs<10 ^ 100) (h_2:H ea=some (zZ ea C none)) (h_3:∀ dx,H dx=none->Q .non (upd (upd H ea (zZ ea C (some dx))) dx (.xd [(f,.int g)]))):HB C f vs H Q E_
theorem FR {X:Cx}{pl:Sem Bool}{W fI:Addr}{x:Str}{e:Expr}{es:List Expr}{t:TA}{np apos pos:Pos}(hg:Gl X x)(hm:X.mg x=some (.ref W))(hsp:PySem.W.specialIn X.K (.ref W) "__getattribute__" = some (some (.builtin "type.__getattribute__")))
  (hrd:PySem.W.readsIn X.K W (.type "type")=true) (hfc:PySem.W.findCls X.K (.ref W) (.type "type") "__init__" = some (.val (.builtin "ValueError.__init__"))) (ha:PA X (e::es) t)
  (hdb:(x == ("__debug__" : Str))=false:=by decide) (he:starEach (e::es) X.env=(false,eval e X.env)::starEach es X.env:=by rfl) (hpl:(backTo pos (starEach es X.env)).any (·.1)=false:=by rfl)
  (ht:eval (.Call (.Attribute (.Name x np) "__init__" apos) (e::es) [] pos) X.env=(do
   let ov <-eval (.Name x np) X.env
   standAt apos.atName
   let (f,first) <-holding [ov] (getMethod ov "__init__" pl)
   callWith pos f first (backTo pos (starEach (e::es) X.env)) (backToKw pos (keywordEach [] X.env))):=by rfl) :
  PE X (.Call (.Attribute (.Name x np) "__init__" apos) (e::es) [] pos) (fun σ H Q=>t σ H fun vs H1=>∃ ea C u,vs=[.ref ea,u]/\H1 ea=some (zZ ea C none)/\oY X.K C fI=true/\Q .non H1):=by
 intro pins s σ H Q I h;refine PySem.W.methodCall_KW (pl:=pl) (fC I hg hm ?_ hdb) ht;refine PySem.W.method_cls I.kIn hsp (PySem.W.cls_value I.kIn hrd hfc rfl ?_);refine PyProof.Rows.callWith_builtin1 (bH (ha pos pins _ σ H _ (I.tok _) h) fun us s1 ⟨vs,H1,I1,r1,ea,C,v,ev,hx,c,q1⟩=>?_) he hpl;subst ev;obtain⟨u1,u2,rfl,ru1,ru2⟩:=r1.two;cases ru1;obtain⟨⟨t0,hx0⟩,_,_⟩:=(show bD X.prog X.w H1 s1.heap ea (zZ ea C none) from I1.hok ea _ hx);refine FI I1.kIn c hx0 fun h' t' q k=>?_
 have e:upd H1 ea (zZ ea C none)=H1:=by funext b;unfold upd;split<;>rename_i z<;>first | (rw[z,hx]) | rfl
 refine⟨.non,H1,?_,rfl,q1⟩;have:=I1.write (x:=ea) (e:=ea) (o:=zZ ea C none) (h':=h') (t':=s1.toks) (by rw[hx];exact True.intro) (.inl rfl) (fun b o n z=>k b o n z) ⟨_,q⟩ (BC q)
 rwa [e]at this
theorem F7 {X:Cx}{o value:Expr}{f:Str}{pos pos':Pos}{ta tv:TE}(ha:PE X o ta)(hv:PE X value tv)(hs:swapsWith value (some (.Attribute o f pos')) pos.line X.env=pure false) :
  PS X (.Assign [.Attribute o f pos'] value pos) (fun D σ H=>tv σ H fun y H1=>ta σ H1 fun x H2=>∃ ea C,x=.ref ea/\H2 ea=some (zZ ea C none)/\KS X.K C f/\∀ dx,H2 dx=none->D.nx σ (upd (upd H2 ea (zZ ea C (some dx))) dx (.xd [(f,y)]))):=by
 intro pins s σ H D I h;refine plainObj_wpAny_Assign_Attribute (bH (hv pins s σ H _ I h) fun u s1 ⟨y,H1,I1,ry,q⟩=>bH (ha pins s1 σ H1 _ I1 q) fun ov s2 ⟨x,H2,I2,rx,ea,C,ex,hx,c,q2⟩=>?_) hs;subst ex;obtain rfl:ov=Value.ref ea:=rx;obtain⟨⟨t0,hx0⟩,_,_⟩:=(show bD X.prog X.w H2 s2.heap ea (zZ ea C none) from I2.hok ea _ hx);refine IT I2.kIn c hx0 fun h' tk hx1 hns k=>⟨σ,_,?_,q2 s2.heap.objs.size I2.fresh⟩;have hd:=I2.fresh
 have ned:s2.heap.objs.size≠ea:=fun z=>by rw[z,hx]at hd;cases hd
 have ne1:∀ b u,H2 b=some u->(∀ ψ,u≠.ext ψ)->b≠ea:=fun b u q n z=>by rw[z,hx]at q;cases q;exact n _ rfl
 have ned2:∀ b u,s2.heap.get? b=some u->b≠s2.heap.objs.size:=fun b u q=>MB (Mw q)
 have up:∀ b u,H2 b=some u->(∀ ψ,u≠.ext ψ)->upd (upd H2 ea (zZ ea C (some s2.heap.objs.size))) s2.heap.objs.size (.xd [(f,y)]) b=some u:=fun b u q n=>by
  rw[af (aj q hd),af (ne1 b u q n)];exact q
 refine I2.un ⟨fun b u q n _ _=>k b u (fun z=>by rw[z,hx]at n;cases n) q,fun b u q n _ _=>⟨u.slots,k b u (fun z=>by rw[z,hx]at n;cases n) q⟩,fun b u q n _=>?_,fun b u q _=>?_,fun b xs q=>up b _ q (fun ψ z=>nomatch z),fun b u xs q=>up b _ q (fun ψ z=>nomatch z),fun b ps q=>⟨#[],by rw[up b _ q (fun ψ z=>nomatch z)];simp⟩⟩ fun b u q=>?_
 ·rw[af (ned2 b u q),af (fun z=>by rw[z,hx]at n;cases n)];exact n
 ·by_cases hb:b=ea
  ·exact⟨_,by rw[hb];exact hx1⟩
  ·exact⟨u,k b u hb q⟩
 ·by_cases hb:b=s2.heap.objs.size
  ·rw[hb,ac]at q
   cases q;rw[hb];refine⟨_,hns,fun g=>?_⟩
   show jx (List.lookup g [(f,y)]) (if g=f then some _ else none)
   by_cases hgf:g=f
   ·rw[Mi hgf,hgf];simp only[List.lookup,beq_self_eq_true];exact ry
   ·have hb:(g == f)=false:=NS.mpr hgf
    rw[Mg hgf];simp only[List.lookup,hb];trivial
  ·rw[af hb]at q
   by_cases hb2:b=ea
   ·rw[hb2,ac]at q
    cases q;rw[hb2];exact BC hx1
   ·rw[af hb2]at q
    refine (I2.hok b u q).stay (fun c v hc r=>k c v ?_ r) (fun c r=>up c _ r fun ψ z=>nomatch z) fun c xs r=>up c _ r fun ψ z=>nomatch z
    rcases hc with z | z
    ·rw[z];exact hb2
    ·exact ne1 c _ z fun ψ z=>nomatch z
def Dq (te:TE)(C:Addr)(f:Str)(E:XK):TS:=fun _ σ H=>te σ H fun v H1=>∃ g:Int,v=.int g/\g.natAbs<10 ^ 100/\∀ dx,H1 dx=none->E (.ref C) (some dx) (upd H1 dx (.xd [(f,.int g)]))
theorem Ek {X:Cx}{C fI:Addr}{k:Nat}{fd:FuncData}{E:XK}{x f sl gp:Str}{e:Expr}{te:TE}{np cpos pos:Pos}(c:oY X.K C fI=true)(hfn:PySem.W.typeIn X.K (.ref fI)=some (.type "function"))
  (G:aZ X.prog X.w X.K X.mg X.base bV k fI fd [sl,gp] (HB C f)) (hr:cH (k+1) X.A) (hb:fU X.K fd [sl,gp] [])
  (hfl:CF X E) (hex:X.ex=[]) (hh:X.A.handled=none) (hg:Gl X x) (hm:X.mg x=some (.ref C)) (he:PE X e te)
  (hdb:(x == ("__debug__" : Str))=false:=by decide) (hs:starEach [e] X.env=[(false,eval e X.env)]:=by rfl) :
  PS X (.Raise (some (.Call (.Name x np) [e] [] cpos)) none pos) (Dq te C f E):=by
 intro pins s σ H D I h;obtain⟨bm,N,nm,qn,bs,hdct,sn,sub,ab,col,dd,k0,k1,k2,k3,k5,mN,hC,hN,hni,T⟩:=z4 I.ok.mod.kin c;have F:=Oe;have hbase:=T.hasType F.hasBase;rw[arm_exec_Raise];refine Mf (NB (Gy (C:=C) (nm:=nm) (q:=qn) (N:=N) (bs:=bs) (bm:=bm) (hdct:=hdct) (sn:=sn) (sub:=sub) (ab:=ab) (col:=col) (dd:=dd) (k0:=k0) (k1:=k1) (k2:=k2) (k3:=k3) (k5:=k5) (newId:="ValueError.__new__") hbase hh (Mf (MP (wpAny_Call_ofName (fC I hg hm ?_ hdb)) (fun v s3 h3=>Mf (NB (Mq h3))) fun _ _ x=>x))));rw[hs];unfold callWith;refine Mf (NA (NX (NH (bH (he pins s σ H _ I h) fun u s1 ⟨v,H1,I1,rv,g,ev,hgb,q1⟩=>Og (Mf (NB ?_))))));subst ev;dsimp only;have hC1:=I1.bk _ _ hC;have hN1:=hN.keeps I1.bk;have T1:=T.keeps I1.bk
 have hf1:∃ oI,s1.heap.get? fI=some oI/\oI.cls=.type "function":=by
  unfold PySem.W.typeIn at hfn;obtain⟨o,ho,hc⟩:=Option.map_eq_some_iff.mp hfn;exact⟨o,I1.kIn _ _ ho,hc⟩
 obtain⟨oI,hfI,hfc⟩:=hf1;obtain⟨hp,gs,d,tk,os⟩:=s1;refine Mf (wpAny_keeperOf_exc hC1 ?_);refine Mf (zD (rest:=[u]) F T1 hC1 hN1 hni hfI hfc (fun h' ea hx=>?_) (show 1<=sizeLine by decide));obtain⟨t0,hea,_,_⟩:=hx.there;have hfr:=I1.fresh0 (by rw[hex];simp) hx.new;have Fl:=I1.unheld hx.new;have I2:aK X pins σ (upd H1 ea (zZ ea C none)) ⟨h',gs,d,tk,os⟩:=I1.laidN (a:=ea) (o:=zZ ea C none) (h':=h') (t':=tk) hx.keeps hx.new (BC hea);have r2:bw [V.ref ea,V.int g] [Value.ref ea,u]:=.cons rfl (.cons rv .nil)
 refine wpAny_call (Oa (G.run _ X.stack _ _ ⟨[Value.ref ea,u],[]⟩ [Value.ref ea,u] [V.ref ea,V.int g] (fun v H3=>v=.non/\∃ dx,H1 dx=none/\dx≠ea/\H3=upd (upd (upd H1 ea (zZ ea C none)) ea (zZ ea C (some dx))) dx (.xd [(f,.int g)])) E0 (hr.make C [u] [])
  (I2.env0.make C [u] []) (hb _ [Value.ref ea,u] I2.kIn rfl) r2 ⟨ea,g,rfl,hgb,ac,fun dx hdx=>⟨rfl,dx,?_,?_,rfl⟩⟩) fun r s' hq'=>?_)
 ·by_cases z:dx=ea
  ·rw[z,ac]at hdx;cases hdx
  ·rwa [af z]at hdx
 ·intro z;rw[z,ac]at hdx;cases hdx
 cases r with
 | error e=>exact hq'.elim
 | ok fl =>
  cases fl with
  | ret u2 =>
   obtain⟨v,H3,I3,rv3,ev,dx,hdx,hne,eH⟩:=I2.after hq';subst ev;refine⟨rv3,Mf (NA (wpAny_point (Mq ?_)))⟩
   have h3:H3 ea=some (zZ ea C (some dx)):=by rw[eH,af (ME hne),ac]
   obtain⟨⟨t3,hx3⟩,_,_⟩:=(show bD X.prog X.w H3 s'.heap ea (zZ ea C (some dx)) from I3.hok ea _ h3);have I4:=I3.untrack (φ:=fun h=>∃ t,h.get? ea=some (exOb C t (some dx))) h3
   have e4:xp H3 ea=upd H1 dx (.xd [(f,.int g)]):=by
    funext b
    unfold xp
    by_cases hb:b=ea
    ·rw[Mi hb,hb,af (ME hne),Fl]
    ·rw[Mg hb,eH]
     by_cases hd:b=dx
     ·rw[hd,ac,ac]
     ·rw[af hd,af hb,af hb,af hd]
   rw[e4]at I4;exact⟨ea,t3,some dx,rfl,I4.bk _ _ hC,hx3,hfl pins σ _ s' ea C t3 (some dx) I4 hx3 (by rw[af (ME hne)];exact Fl) hfr (q1 dx hdx)⟩
  | next=>exact hq'.elim
  | brk=>exact hq'.elim
  | cont=>exact hq'.elim
def Iz (X:Cx)(pins:List (Addr×Obj))(σ:St)(H:Hp)(ea C:Addr)(od:Option Addr)(B:Heap)(s':Shared):Prop:=H ea=none/\∀ h2,lJ B X.stack ea (.ref C) od h2->s'.heap.UpToSlots h2->aK X pins σ H { s' with heap:=h2 }
theorem CV {X:Cx}{pins:List (Addr×Obj)}{σ:St}{H H':Hp}{s s':Shared}{ea C:Addr}{od:Option Addr}{B:Heap}(I:aK X pins σ H s)(fl:lJ B X.stack ea (.ref C) od s'.heap)(un:Un (jU X.stack) [] H H' s.heap s'.heap)(hok:kS X.prog X.w H' s'.heap)(os:s'.os=s.os)(bare:AllBare s'.gens)
  (hsB:∀ b o,s.heap.get? b=some o->b∉jU X.stack->∃ o',B.get? b=some o') (trB:∀ b o,H' b=some o->∃ o',B.get? b=some o'):Iz X pins σ H' ea C od B s':=by
 refine⟨?_,fun h2 fl2 ups=>?_⟩
 ·cases e:H' ea with
  | none=>rfl
  | some o =>
   obtain⟨o',q⟩:=trB ea o e;rw[fl.2.1]at q;cases q
 have slot2:∀ b o,b∈jU X.stack->s.heap.get? b=some o->H b=none->∃ sl,h2.get? b=some { o with slots:=sl }:=fun b o hf e n=>by
  obtain⟨sl,e1⟩:=un.slot b o e n hf (by simp);obtain⟨_,o2,ho2,hnf⟩:=I.stack.mem hf
  have e2:o2=o:=by
   have:s.heap.get? b=some o2:=ho2;rw[e]at this;exact (Mu this).symm
  subst e2;obtain⟨sl2,e3⟩:=ups b _ e1 hnf;exact⟨sl2,e3⟩
 refine I.call' (ch:=[]) (s':={ s' with heap:=h2 }) os ?_ (BI hok fl.1 fl2.1 trB) bare fun b z=>absurd z (by simp);refine Gx (h1:=s'.heap) un fl.1 fl2.1 hsB (fun b o hf e n=>slot2 b o hf e n) fun b o hf e=>?_;obtain⟨sl,q⟩:=slot2 b o hf e (I.stkFree b hf);exact⟨_,q⟩
def Cx.marked (X:Cx)(ea:Addr)(oe:Obj):Cx:={ X with A:=X.A.mark (some (.ref ea)),calm:=false,xe:=fun _ _=>False,pn:=(ea,oe)::X.pn }
theorem aK.marked {X:Cx}{pins:List (Addr×Obj)}{σ:St}{H:Hp}{s:Shared}{ea:Addr}{oe:Obj}{us:Array Value}(I:aK X pins σ H s)(he:s.heap.get? ea=some oe)(hd:oe.data=.fields us)(hn:H ea=none):aK (X.marked ea oe) pins σ H s:=by
 refine⟨⟨I.ok.mod,I.ok.kind,I.ok.glob,I.ok.blt,I.ok.above,I.ok.inj,I.ok.has,I.ok.cab,fun z=>(by cases z),I.ok.frames,I.ok.stk,I.ok.exf,I.ok.bs,I.ok.bsz,I.ok.noex,I.ok.exfs,I.ok.funs,I.ok.frf⟩,I.os,I.bare,I.base,I.loc,I.cell,I.free,I.freeC,fun p hp=>?_,I.hok,I.len⟩;rcases Ms.mp (show p∈(ea,oe)::(X.pn++pins) from hp) with z | z
 ·subst z
  refine⟨he,hn,fun z=>?_,fun z=>?_,fun v z=>?_⟩
  ·obtain⟨m,⟨o,es,ep,ho,hdd,_⟩,_⟩:=I.loc
   have z:ea=X.env.locals:=z;rw[<-z,he]at ho;cases ho;rw[hd]at hdd;cases hdd
  ·obtain⟨_,o,ho,nf⟩:=I.funs.mem z
   rw[he]at ho;cases ho;exact nf us hd
  ·have z:oe.data=.cell v:=z
   rw[hd]at z;cases z
 ·exact I.pin p z
theorem aK.unmarked {X:Cx}{pins:List (Addr×Obj)}{σ:St}{H:Hp}{s:Shared}{ea:Addr}{oe:Obj}(ok:X.Ok)(I:aK (X.marked ea oe) pins σ H s):aK X pins σ H s :=
 ⟨ok,I.os,I.bare,I.base,I.loc,I.cell,I.free,I.freeC,fun p hp=>I.pin p (show p∈(ea,oe)::(X.pn++pins) from Mh _ hp),I.hok,I.len⟩
theorem SP.unmarked {X:Cx}{pins:List (Addr×Obj)}{D:kY}{f:Flow}{s':Shared}{ea:Addr}{oe:Obj}(ok:X.Ok)(h:SP (X.marked ea oe) pins D f s'):SP X pins D f s':=by
 cases f with
 | next=>obtain⟨σ',H',I,q⟩:=h;exact⟨σ',H',I.unmarked ok,q⟩
 | brk=>obtain⟨σ',H',I,q⟩:=h;exact⟨σ',H',I.unmarked ok,q⟩
 | cont=>obtain⟨σ',H',I,q⟩:=h;exact⟨σ',H',I.unmarked ok,q⟩
 | ret u=>obtain⟨v,σ',H',I,r,q⟩:=h;exact⟨v,σ',H',I.unmarked ok,r,q⟩
def HP (X:Cx)(hdl:List ExceptHandler)(th:Value->Option Addr->TS):Prop:=∀ (pins:List (Addr×Obj))(σ:St)(H:Hp)(D:kY)(ea C:Addr)(od:Option Addr)(B:Heap)(s':Shared)(h:Heap),Iz X pins σ H ea C od B s'->lJ B X.stack ea (.ref C) od h->s'.heap.UpToSlots h->th (.ref C) od D σ H ->
 wpAny (model X.prog X.w) X.A (handleBy (.ref ea) X.env hdl) (SP X pins D) X.xe { s' with heap:=h }
theorem Ho {X:Cx}{y:Str}{C1:Addr}{b0:Stmt}{suite:List Stmt}{t1:TS}{th:Value->Option Addr->TS}{np pos:Pos}{rest:List ExceptHandler}(hg:Gl X y)(hm:X.mg y=some (.ref C1))(hs:∀ ea oe,zK (X.marked ea oe) (b0::suite) t1)(hr:HP X rest th)
  (hdb:(y == ("__debug__" : Str))=false:=by decide):HP X (.ExceptHandler (some (.Name y np)) none (b0::suite) pos::rest) (fun cls od D σ H=>∃ b,PySem.W.exmOne X.K cls (.ref C1)=some b/\if b=true then t1 D σ H else th cls od D σ H):=by
 intro pins σ H D ea C od B s' h ld fl ups ht;obtain⟨b,hb,ht⟩:=ht;have I:=ld.2 h fl ups;obtain⟨ob,us,hob,hobc,hobd,hobf⟩:=fl.obj;have Im:=I.marked (ea:=ea) hob hobf ld.1
 have LT:PySem.W.Looks (model X.prog X.w) h (typeOf (.ref ea)) (.ref C):=by
  rw[<-hobc];exact (PySem.W.Looks.ld hob).andThen .now
 refine wpAny_handleBy_cons (codeAny_handlers_test (fC (X:=X.marked ea ob) Im hg hm ?_ hdb)) (by intro z;cases z);refine (PySem.W.exm_one (K:=X.K) I.kIn LT hb).here ?_
 cases b with
 | true =>
  rw[Mi rfl]at ht;refine codeAny_handlers_suite ?_;refine qb fl fun h6 fl6 ups6=>?_;obtain⟨oe,us6,hoe,hoec,hoed,hoef⟩:=fl6.obj;have I6:=(ld.2 h6 fl6 (ups.trans ups6)).marked (ea:=ea) hoe hoef ld.1;exact MP (hs ea oe pins _ σ H D I6 ht) (fun f s2 hq=>hq.unmarked I.ok) fun _ _ z=>z.elim
 | false =>
  rw[Mg Mt]at ht;exact hr pins σ H D ea C od B s' h ld fl ups ht
theorem FX {X:Cx}:HP X [] (fun _ _ _ _ _=>False):=fun _ _ _ _ _ _ _ _ _ _ _ _ _ h=>h.elim
def Ij (sp:Sp)(t:TA)(i:Nat)(th:Value->Option Addr->TS):TS:=fun D σ H=>t σ H fun vs H1=>sp vs H1 (fun v H2=>D.nx (σ.set i (some v)) H2) (fun cls od H2=>th cls od D σ H2)
theorem Ck {X:Cx}{k:Nat}{f:Addr}{fd:FuncData}{ps:List Str}{sp:Sp}{i:Nat}{x fn:Str}{e:Expr}{es:List Expr}{t:TA}{fS:ExceptHandler}{hdl:List ExceptHandler}{th:Value->Option Addr->TS}{px p cpos spos pos:Pos}
  (G:aZ X.prog X.w X.K X.mg X.base (ju X.prog X.w) k f fd ps sp) (hr:cH k X.A) (hg:Gl X fn) (hm:X.mg fn=some (.ref f)) (hk:PySem.W.keepIn X.K (.ref f)=true) (hb:fU X.K fd ps []) (ha:PA X.nox (e::es) t)
  (hst:X.stack=X.env::X.outer) (hfr:X.env.frame=some X.env.locals) (hN:X.N.Nodup) (hi:X.N[i]? = some x) (hx:HN X.env.scope x) (hh:HP X (fS::hdl) th)
  (hs:swapsWith (.Call (.Name fn p) (e::es) [] cpos) (some (.Name x px)) spos.line X.env=pure false:=by rfl) (hf:X.fn x=true\/X.env.scope.names.lookup x=some .local:=by first | exact .inl rfl | exact .inr rfl | assumption)
  (hdb:(fn == ("__debug__" : Str))=false:=by decide) (he:starEach (e::es) X.env=(false,eval e X.env)::starEach es X.env:=by rfl) (hpl:(backTo cpos (starEach es X.env)).any (·.1)=false:=by rfl) :
  PS X (.Try [.Assign [.Name x px] (.Call (.Name fn p) (e::es) [] cpos) spos] (fS::hdl) [] [] pos) (Ij sp t i th):=by
 intro pins s σ H D I h;refine wpAny_Try_except ?_;refine wpAny_execs_cons ?_;refine wpAny_Assign_Name ?_ hs;refine Nn (fC I hg hm ?_ hdb);refine Os (h₀:=X.base) I.ok.mod.kin hk (MP (ha cpos pins s σ H _ (I.wish _) h) (fun us s1 ⟨vs,H1,I1,r,q⟩=>⟨I1.unwish.kIn,?_⟩) fun _ _ z=>z.elim) he hpl;have I1:=I1.unwish
 have hl:us.length=ps.length:=by rw[<-r.length];exact G.len _ _ _ _ q
 have hb':=hb s1 us I1.kIn (by rw[NQ];exact hl);rw[NQ]at hb';refine wpAny_call (Oa (G.run X.A X.stack s1 H1 ⟨us,[]⟩ us vs _ _ hr I1.env0 hb' r q) fun rs s' hq=>?_)
 cases rs with
 | error er =>
  obtain⟨ea,C,od,H',B,rfl,fl,un,hok,os,bare,hsB,trB,hE⟩:=hq;have ld:=CV I1 fl un hok os bare hsB trB;have fl':=fl;rw[hst]at fl';refine xV (by rw[I.ok.frames,hst]) hfr fl' fun h4 held ups4=>?_;refine Fu held fun h5 fl5 ups5=>?_;rw[<-hst]at fl5;exact hh pins σ H' D ea C od B s' h5 ld fl5 (ups4.trans ups5) hE
 | ok fl =>
  cases fl with
  | ret u =>
   obtain⟨v,H2,I2,rv,q2⟩:=I1.after hq;exact wt I2 hN hi hx rv (fun s3 I3=>Ob (Ob ⟨_,H2,I3,q2⟩)) hf
  | next=>exact False.elim hq
  | brk=>exact False.elim hq
  | cont=>exact False.elim hq
theorem cG.okX {P:Program}{w:World}{K:PySem.W.Frag}{mg:Str->Option Value}{base:Heap}{x qual:Str}{st:Stmt}{f:Addr}{fd:FuncData}{N ps:List Str}{k:Nat}{sp:Sp}(F:cG K x qual st f fd)(S:av N ps (ak st))(len:∀ vs H Q E,sp vs H Q E->vs.length=ps.length)
  (hbody:∀ (cdv:Value)(A:Around)(outer:List Env)(s:Shared)(H:Hp)(vs:List V)(Q:VK)(E:XK),cH k (A.deeper (envOfC qual (ak st) s.heap.objs.size f cdv))->sp vs H Q E ->
   ∃ t,zK (uR (ju P w) P w K mg base N qual (ak st) f cdv A outer s H E) (fA st) t/\t { nx:=fun _ H'=>Q .non H',rt:=Q } (qM N vs) H):aZ P w K mg base (ju P w) (k+1) f fd ps sp:=by
 obtain⟨oc,od,kV,doc,pm,an,cdv,ct,osl,rfl,lk,hcd⟩:=F.ex;exact HS lk hcd S len fun A outer s H vs Q E hr hsp=>hbody cdv A outer s H vs Q E hr hsp
def PJ (X:Cx)(es:List Expr)(t:TA):Prop:=∀ (out:Str)(m:Nat)(pins:List (Addr×Obj))(s:Shared)(σ:St)(H:Hp)(Q:VK),out.length<=1000*m->m+es.length<=100->aK X pins σ H s->t σ H (fun _ H'=>∀ x:Str,Q (.str x) H')->wpAny (model X.prog X.w) X.A (joinParts out (evalEach es X.env)) (EP X pins σ Q) X.xe s
theorem vR {X:Cx}:PJ X [] wu:=by
 intro out m pins s σ H Q ho hm I h;refine joinParts_nil ⟨.str out,H,I.tok _,⟨_,rfl⟩,h out⟩ ?_;exact MZ ho (MZ (Nat.mul_le_mul_left 1000 (show m<=100 by simpa using hm)) (by decide))
def tJ (te:TE)(t:TA):TA:=fun σ H Q=>te σ H fun x H1=>∃ y:Str,x=.str y/\y.length<=1000/\t σ H1 Q
theorem dW {X:Cx}{e:Expr}{es:List Expr}{te:TE}{t:TA}(he:PE X e te)(h:PJ X es t):PJ X (e::es) (tJ te t):=by
 intro out m pins s σ H Q ho hm I hq
 show wpAny _ _ (joinParts out (eval e X.env::evalEach es X.env)) _ _ s
 refine joinParts_cons (bH (he pins s σ H _ I hq) fun u s1 ⟨x,H1,I1,rx,y,ex,hy,q1⟩=>?_);subst ex;obtain⟨tk,rfl⟩:=rx
 have hl:(out++y).length<=1000*(m+1):=by rw[strLen_append];omega
 rw[MX]at hm;refine⟨MZ hl (MZ (Nat.mul_le_mul_left 1000 (show m+1<=100 by omega)) (by decide)),?_⟩;exact h (out++y) (m+1) pins s1 σ H1 Q hl (by omega) I1 q1
def L6 (t:TA):TE:=fun σ H Q=>t σ H fun _ H'=>∀ x:Str,Q (.str x) H'
theorem qm {X:Cx}{e1 e2:Expr}{es:List Expr}{t:TA}{pos:Pos}(h:PJ X (e1::e2::es) t)(hn:(e1::e2::es).length<=100:=by decide):PE X (.JoinedStr (e1::e2::es) pos) (L6 t):=by
 intro pins s σ H Q I hq;refine JoinedStr_many ?_;exact h Str.empty 0 pins s σ H Q (by show 0<=_;exact MD _) (by simpa using hn) I hq
def L5 (te:TE):TE:=fun σ H Q=>te σ H fun x H1=>∃ i:Int,x=.int i/\i.natAbs<10 ^ 100/\∀ y:Str,y.length<=1000->Q (.str y) H1
theorem jY {X:Cx}{e:Expr}{te:TE}{pos:Pos}(he:PE X e te):PE X (.FormattedValue e (-1) none pos) (L5 te):=by
 intro pins s σ H Q I h;refine FormattedValue_plain (bH (he pins s σ H _ I h) fun u s1 ⟨x,H1,I1,rx,i,ex,hi,q⟩=>?_);subst ex;obtain⟨tk,rfl⟩:=rx
 have hd:i.natAbs.log2<1920:=by
  by_cases h0:i.natAbs=0
  ·rw[h0];decide
  ·exact (Nat.log2_lt h0).mpr (MR hi (by decide +kernel))
 refine wpAny_formatField_int hd ⟨.str (toString i),H1,I1.tok _,⟨_,rfl⟩,q _ ?_⟩;have:=PySem.int_text_length_le10 (a:=i) (k:=100) (by decide) hi
 show (Str.ofString (toString i)).length<=1000
 rw[PySem.ofString_length];omega
end L2
namespace Wz
open PySem L2
def aA (P:Program)(w:World)(K:PySem.W.Frag)(mg:Str->Option Value)(base:Heap)(CX:zF)(C:Addr)(m:Str)(k:Nat)(ps:List Str)(sp:Sp):Prop :=
 ∃ (f:Addr)(fd:FuncData),aZ P w K mg base CX k f fd ps sp/\GK K C m f/\fU K fd ps []
def eR (P:Program)(w:World)(K:PySem.W.Frag)(mg:Str->Option Value)(base:Heap)(x:Str)(k:Nat)(ps:List Str)(sp:Sp):Prop :=
 ∃ (f:Addr)(fd:FuncData),aZ P w K mg base (ju P w) k f fd ps sp/\mg x=some (.ref f)/\PySem.W.keepIn K (.ref f)=true/\fU K fd ps []
section
variable {X:Cx}{CX:zF}{k:Nat}{C:Addr}{ps:List Str}{sp:Sp}{E:XK}{m x:Str}{p pos apos:Pos}{e o:Expr}{es:List Expr}{ta:TE}{t:TA}
theorem dq {pl:Sem Bool}(M:aA X.prog X.w X.K X.mg X.base CX C m k ps sp)(he:PE X o ta)(c:Bq X.K C)(hr:cH k X.A)(hx:fY CX X E)(ha:PA X (e::es) t)
  (hst:starEach (e::es) X.env=(false,eval e X.env)::starEach es X.env:=by rfl) (hpl:(backTo pos (starEach es X.env)).any (·.1)=false:=by rfl)
  (ht:eval (.Call (.Attribute o m apos) (e::es) [] pos) X.env=(do
   let ov <-eval o X.env
   standAt apos.atName
   let (f,first) <-holding [ov] (getMethod ov m pl)
   callWith pos f first (backTo pos (starEach (e::es) X.env)) (backToKw pos (keywordEach [] X.env))):=by rfl) :
  PE X (.Call (.Attribute o m apos) (e::es) [] pos) (Bd C m sp [] E ta t):=by
 obtain⟨f,fd,G,hm,hb⟩:=M;exact Hm he c hm G hr hb .nil hx ha hst hpl ht
theorem f7 {pl:Sem Bool}(M:aA X.prog X.w X.K X.mg X.base CX C m k ps sp)(he:PE X o ta)(c:Bq X.K C)(hr:cH k X.A)(hx:fY CX X E)
  (ht:eval (.Call (.Attribute o m apos) [] [] pos) X.env=(do
   let ov <-eval o X.env
   standAt apos.atName
   let (f,first) <-holding [ov] (getMethod ov m pl)
   callWith pos f first (backTo pos (starEach [] X.env)) (backToKw pos (keywordEach [] X.env))):=by rfl) :
  PE X (.Call (.Attribute o m apos) [] [] pos) (Bd C m sp [] E ta wu):=by
 obtain⟨f,fd,G,hm,hb⟩:=M;exact FV he c hm G hr hb .nil hx ht
theorem y9 (M:eR X.prog X.w X.K X.mg X.base x k ps sp)(hr:cH k X.A)(hg:Gl X x)(hx:fY (ju X.prog X.w) X E)(ha:PA X (e::es) t)
  (hdb:(x == ("__debug__" : Str))=false:=by decide) (he:starEach (e::es) X.env=(false,eval e X.env)::starEach es X.env:=by rfl) (hpl:(backTo pos (starEach es X.env)).any (·.1)=false:=by rfl) :
  PE X (.Call (.Name x p) (e::es) [] pos) (Gq sp [] E t):=by
 obtain⟨f,fd,G,hm,hk,hb⟩:=M;exact Db G hr hg hm hk hb .nil hx ha hdb he hpl
theorem Lm {X:Cx}{k:Nat}{ps:List Str}{sp:Sp}{i:Nat}{x fn:Str}{e:Expr}{es:List Expr}{t:TA}{fS:ExceptHandler}{hdl:List ExceptHandler}{th:Value->Option Addr->TS}{px p cpos spos pos:Pos}
  (M:eR X.prog X.w X.K X.mg X.base fn k ps sp) (hr:cH k X.A) (hg:Gl X fn) (ha:PA X.nox (e::es) t)
  (hst:X.stack=X.env::X.outer) (hfr:X.env.frame=some X.env.locals) (hN:X.N.Nodup) (hi:X.N[i]? = some x) (hx:HN X.env.scope x) (hh:HP X (fS::hdl) th)
  (hs:swapsWith (.Call (.Name fn p) (e::es) [] cpos) (some (.Name x px)) spos.line X.env=pure false:=by rfl) (hf:X.fn x=true\/X.env.scope.names.lookup x=some .local:=by first | exact .inl rfl | exact .inr rfl | assumption)
  (hdb:(fn == ("__debug__" : Str))=false:=by decide) (he:starEach (e::es) X.env=(false,eval e X.env)::starEach es X.env:=by rfl) (hpl:(backTo cpos (starEach es X.env)).any (·.1)=false:=by rfl) :
  PS X (.Try [.Assign [.Name x px] (.Call (.Name fn p) (e::es) [] cpos) spos] (fS::hdl) [] [] pos) (Ij sp t i th):=by
 obtain⟨f,fd,G,hm,hk,hb⟩:=M;exact Ck G hr hg hm hk hb ha hst hfr hN hi hx hh hs hf hdb he hpl
end
inductive aX where
 | come (g:Int) | go (g:Int) | exch (a b:Int)
 deriving DecidableEq
def ca:aX->HO
 | .come g=>.tup [.str "come",.int g]
 | .go g=>.tup [.str "go",.int g]
 | .exch a b=>.tup [.str "exchange",.int a,.int b]
structure bX where
 worn:List (Int×Int)
 hold:List (Int×Int)
 circ:List (Int×List Int)
 deeds:List aX
def b5:List Addr->List (Int×List Int)->List (cf×V)
 | a::as,x::xs=>(Sum.inl x.1,V.ref a)::b5 as xs
 | _,_=>[]
def rj (ks:List Int):List (cf×V):=ks.map fun k=>(Sum.inl k,V.bl true)
structure HA where
 dx:Addr
 w:Addr
 h:Addr
 c:Addr
 d:Addr
 cs:List Addr
def HA.fp (A:HA):List Addr:=A.w::A.h::A.c::A.d::A.cs
def aS (A:HA):List (Str×V):=cp "deeds" (.ref A.d) (cp "circles" (.ref A.c) (cp "holders" (.ref A.h) (cp "worn" (.ref A.w) [])))
theorem s1:¬ (("worn" : Str)="holders"):=by decide +kernel
theorem s2:¬ (("worn" : Str)="circles"):=by decide +kernel
theorem s3:¬ (("worn" : Str)="deeds"):=by decide +kernel
theorem s4:¬ (("holders" : Str)="circles"):=by decide +kernel
theorem s5:¬ (("holders" : Str)="deeds"):=by decide +kernel
theorem s6:¬ (("circles" : Str)="deeds"):=by decide +kernel
theorem z6 (A:HA):(aS A).lookup ("worn" : Str)=some (.ref A.w):=by
 unfold aS;rw[aI,Mg s3,aI,Mg s2,aI,Mg s1,aI,Mi rfl]
theorem Fi (A:HA):(aS A).lookup ("holders" : Str)=some (.ref A.h):=by
 unfold aS;rw[aI,Mg s5,aI,Mg s4,aI,Mi rfl]
theorem Fh (A:HA):(aS A).lookup ("circles" : Str)=some (.ref A.c):=by
 unfold aS;rw[aI,Mg s6,aI,Mi rfl]
theorem DL (A:HA):(aS A).lookup ("deeds" : Str)=some (.ref A.d):=by
 unfold aS;rw[aI,Mi rfl]
theorem u6 (A:HA){m:Str}(h1:¬ m="worn")(h2:¬ m="holders")(h3:¬ m="circles")(h4:¬ m="deeds"):(aS A).lookup m=none:=by
 unfold aS;rw[aI,Mg h4,aI,Mg h3,aI,Mg h2,aI,Mg h1];rfl
theorem pX (A:HA) {m:Str} (h:¬ m="worn"/\¬ m="holders"/\¬ m="circles"/\¬ m="deeds"):(aS A).lookup m=none:=u6 A h.1 h.2.1 h.2.2.1 h.2.2.2
def bZ (H:Hp)(d:Addr)(ds:List aX):Prop:=∃ as:List Addr,H d=some (.lst (as.map V.ref))/\Paired (fun a x=>H a=some (ca x)) as ds
structure aM (C:Addr)(H:Hp)(p:Addr)(A:HA)(st:bX):Prop where
 ob:H p=some (.ins C A.dx (aS A))
 nd:A.fp.Nodup
 w:H A.w=some (.dK (dk st.worn))
 h:H A.h=some (.dK (dk st.hold))
 c:H A.c=some (.dK (b5 A.cs st.circ))
 cs:Paired (fun a (x:Int×List Int)=>H a=some (.dK (rj x.2))) A.cs st.circ
 d:bZ H A.d st.deeds
def Kp (fp:List Addr)(H H':Hp):Prop:=∀ b o,H b=some o->b∉fp->H' b=some o
theorem Kp.of_same {fp:List Addr}{H H':Hp}(s:ax H H'):Kp fp H H':=fun b o e _=>s b o e
theorem Kp.trans {fp fp':List Addr}{H H1 H2:Hp}(a:Kp fp H H1)(b:Kp fp' H1 H2)(h:∀ x∈fp',x∈fp\/H x=none):Kp fp H H2:=fun x o e n =>
 b x o (a x o e n) fun z=>(h x z).elim n fun y=>by rw[e]at y;cases y
theorem cJ {H H':Hp}{d:Addr}{ds:List aX}(r:bZ H d ds)(s:ax H H'):bZ H' d ds:=by
 obtain⟨as,h,p⟩:=r;exact⟨as,s _ _ h,Paired.mapP p fun a q z=>s _ _ z⟩
theorem aM.mono {C:Addr}{H H':Hp}{p:Addr}{A:HA}{st:bX}(x:aM C H p A st)(s:ax H H'):aM C H' p A st :=
 ⟨s _ _ x.ob,x.nd,s _ _ x.w,s _ _ x.h,s _ _ x.c,Paired.mapP x.cs fun a q z=>s _ _ z,cJ x.d s⟩
theorem aM.kept {C:Addr}{H H':Hp}{p:Addr}{A:HA}{st:bX}{fp:List Addr}(x:aM C H p A st)(k:Kp fp H H')(hp:p∉fp)(hd:∀ b∈A.fp,b∉fp)(ht:∀ b xs,H b=some (.tup xs)->b∉fp):aM C H' p A st:=by
 have m:∀ b∈A.fp,∀ o,H b=some o->H' b=some o:=fun b hb o e=>k b o e (hd b hb);refine⟨k _ _ x.ob hp,x.nd,m _ (by simp[HA.fp]) _ x.w,m _ (by simp[HA.fp]) _ x.h,m _ (by simp[HA.fp]) _ x.c,?_,?_⟩
 ·have:∀ (cs:List Addr)(ci:List (Int×List Int)),(∀ b∈cs,b∈A.fp)->Paired (fun a (x:Int×List Int)=>H a=some (.dK (rj x.2))) cs ci->Paired (fun a (x:Int×List Int)=>H' a=some (.dK (rj x.2))) cs ci:=by
   intro cs ci hc hp
   induction hp with
   | nil=>exact .nil
   | cons e _ ih=>exact .cons (m _ (hc _ Mm) _ e) (ih fun b hb=>hc b (Mh _ hb))
  exact this _ _ (fun b hb=>by simp[HA.fp,hb]) x.cs
 ·obtain⟨as,h,hp⟩:=x.d
  refine⟨as,m _ (by simp[HA.fp]) _ h,Paired.mapP hp fun a q z=>?_⟩
  cases q with
  | come g=>exact k _ _ z (ht _ _ z)
  | go g=>exact k _ _ z (ht _ _ z)
  | exch a b=>exact k _ _ z (ht _ _ z)
def da (l:List (Int×Int))(g:Int):List (Int×Int):=l.filter fun p=>decide (p.1≠g)
theorem uW (l:List (Int×Int))(g:Int):uV (dk l) (Sum.inl g:cf)=dk (da l g):=by
 unfold uV dk da;rw[List.filter_map]
 congr 1
 apply List.filter_congr
 intro p _;simp[Function.comp]
theorem iu (l:List (Int×Int))(g h:Int):look (da l g) h=if h=g then none else look l h:=by
 induction l with
 | nil=>simp[da,look]
 | cons p r ih =>
  unfold da at ih ⊢;rw[List.filter_cons]
  by_cases e:p.1=g
  ·rw[Mg (by simp[e]),ih]
   by_cases hh:h=g
   ·simp[hh]
   ·have:¬ p.1=h:=fun z=>hh (z.symm.trans e)
    simp[hh,look,this]
  ·rw[Mi (by simp[e])]
   show (if p.1=h then some p.2 else look _ h)=_
   rw[ih]
   by_cases hh:h=g
   ·subst hh;simp[e]
   ·simp[hh,look]
theorem ro {l:List (Int×Int)}{g h:Int}:h∈aq (da l g)↔h∈aq l/\h≠g:=by
 rw[<-bd,iu,<-bd]
 by_cases e:h=g<;>simp[e]
inductive EO where
 | done | already | masked | same | met | noguest (g:Int)
 deriving DecidableEq
def dG:List (Int×List Int)->Int->List Int
 | [],_=>[]
 | x::r,g=>if x.1=g then x.2 else dG r g
def cY (c:List (Int×List Int))(a b:Int):Bool:=decide (b∈dG c a)
def gI (ks:List Int)(b:Int):List Int:=if b∈ks then ks else ks++[b]
def cr:List (Int×List Int)->Int->Int->List (Int×List Int)
 | [],a,b=>[(a,[b])]
 | x::r,a,b=>if x.1=a then (x.1,gI x.2 b)::r else x::cr r a b
def ba (st:bX):aX->EO
 | .come g=>if (look st.worn g).isSome then .already else .done
 | .go g=>match look st.worn g with | none=>.noguest g | some m=>if m=g then .done else .masked
 | .exch a b=>match look st.worn a with
  | none=>.noguest a
  | some _=>match look st.worn b with
   | none=>.noguest b
   | some _=>if a=b then .same else if cY st.circ a b then .met else .done
def after (st:bX):aX->bX
 | .come g=>{ worn:=put st.worn g g,hold:=put st.hold g g,circ:=st.circ,deeds:=st.deeds++[.come g] }
 | .go g=>{ worn:=da st.worn g,hold:=da st.hold g,circ:=st.circ,deeds:=st.deeds++[.go g] }
 | .exch a b=>{ worn:=put (put st.worn a (wr st.worn b)) b (wr st.worn a),hold:=put (put st.hold (wr st.worn b) a) (wr st.worn a) b,circ:=cr (cr st.circ a b) b a,deeds:=st.deeds++[.exch a b] }
def names:aX->List Int
 | .come g=>[g]
 | .go g=>[g]
 | .exch a b=>[a,b]
def bj (g:Int):Prop:=g.natAbs<10 ^ 100
structure Bs (st:bX):Prop where
 w:st.worn.length<1000
 h:st.hold.length<1000
 c:st.circ.length<1000
 k:∀ x∈st.circ,x.2.length<1000
 d:st.deeds.length<1000
structure HX where
 C:Addr
 cW:Addr
 cA:Addr
 cM:Addr
 cS:Addr
 cT:Addr
 cN:Addr
 fN:Addr
def lP (c:HX)(E:XK)(H:Hp):EO->Prop
 | .done=>False
 | .already=>∀ H',ax H H'->E (.ref c.cA) none H'
 | .masked=>∀ H',ax H H'->E (.ref c.cM) none H'
 | .same=>∀ H',ax H H'->E (.ref c.cS) none H'
 | .met=>∀ H',ax H H'->E (.ref c.cT) none H'
 | .noguest g=>∀ dx H',ax H H'->H' dx=some (.xd [("guest",.int g)])->E (.ref c.cN) (some dx) H'
def Tr (H H':Hp):Prop:=∀ b o,H b=some o->∃ o',H' b=some o'
theorem Tr.refl {H:Hp}:Tr H H:=fun _ o e=>⟨o,e⟩
theorem Tr.trans {H H1 H2:Hp}(a:Tr H H1)(b:Tr H1 H2):Tr H H2:=fun x o e=>let ⟨o',e'⟩:=a x o e;b x o' e'
theorem Tr.of_same {H H':Hp}(s:ax H H'):Tr H H':=fun b o e=>⟨o,s b o e⟩
theorem Tr.upd {H H1:Hp}(a:Tr H H1)(x:Addr)(u:HO):Tr H (upd H1 x u):=fun b o e=>by
 by_cases h:b=x
 ·exact⟨u,by rw[h,ac]⟩
 ·obtain⟨o',e'⟩:=a b o e
  exact⟨o',by rw[af h];exact e'⟩
def uN (C:Addr)(H:Hp)(p:Addr)(A:HA)(st':bX)(H':Hp):Prop:=∃ A':HA,aM C H' p A' st'/\Kp A.fp H H'/\(∀ b∈A'.fp,b∈A.fp\/H b=none)/\Tr H H'
def wD (c:HX)(H:Hp)(p:Addr)(A:HA)(st:bX)(d:aX)(Q:VK)(E:XK):Prop :=
 if ba st d=.done then ∀ H',uN c.C H p A (after st d) H'->Q .non H' else lP c E H (ba st d)
inductive Dl (C:Addr) (vs:List V) (H:Hp) (Q:VK) (E_:XK):Prop
 | mk (p dx:Addr) (h_0:vs=[.ref p]) (h_1:H p=some (.ins C dx [])) (h_2:∀ (A:HA)(H':Hp),aM C H' p A ⟨[],[],[],[]⟩->(∀ b o,H b=some o->b≠p->H' b=some o)->(∀ b∈A.fp,H b=none)->Q .non H'):Dl C vs H Q E_
inductive zp (c:HX) (vs:List V) (H:Hp) (Q:VK) (E:XK):Prop
 | mk (p:Addr) (A:HA) (st:bX) (g:Int) (h_0:vs=[.ref p,.int g]) (h_1:aM c.C H p A st) (h_2:Bs st) (h_3:bj g) (h_4:wD c H p A st (.come g) Q E):zp c vs H Q E
inductive Hz (c:HX) (vs:List V) (H:Hp) (Q:VK) (E:XK):Prop
 | mk (p:Addr) (A:HA) (st:bX) (g:Int) (h_0:vs=[.ref p,.int g]) (h_1:aM c.C H p A st) (h_2:Bs st) (h_3:bj g) (h_4:(∀ m,look st.worn g=some m->bj m/\(m=g->(look st.hold g).isSome))) (h_5:wD c H p A st (.go g) Q E):Hz c vs H Q E
inductive v8 (c:HX) (vs:List V) (H:Hp) (Q:VK) (E:XK):Prop
 | mk (p:Addr) (A:HA) (st:bX) (a b:Int) (h_0:vs=[.ref p,.int a,.int b]) (h_1:aM c.C H p A st) (h_2:Bs st) (h_3:bj a) (h_4:bj b) (h_5:wD c H p A st (.exch a b) Q E):v8 c vs H Q E
inductive qA (C:Addr) (vs:List V) (H:Hp) (Q:VK) (E_:XK):Prop
 | mk (p:Addr) (A:HA) (st:bX) (g m:Int) (h_0:vs=[.ref p,.int g,.int m]) (h_1:aM C H p A st) (h_2:st.worn.length<2000) (h_3:st.hold.length<2000) (h_4:Q .non (upd (upd H A.w (.dK (dk (put st.worn g m)))) A.h (.dK (dk (put st.hold m g))))):qA C vs H Q E_
inductive jd (c:HX) (vs:List V) (H:Hp) (Q:VK) (E:XK):Prop
 | mk (p:Addr) (A:HA) (st:bX) (g:Int) (h_0:vs=[.ref p,.int g]) (h_1:aM c.C H p A st) (h_2:bj g) (h_3:match look st.worn g with
 | some m=>Q (.int m) H
 | none=>lP c E H (.noguest g)):jd c vs H Q E
inductive qL (c:HX) (vs:List V) (H:Hp) (Q:VK) (E:XK):Prop
 | mk (p:Addr) (A:HA) (st:bX) (g:Int) (h_0:vs=[.ref p,.int g]) (h_1:aM c.C H p A st) (h_2:bj g) (h_3:match look st.hold g with
 | some m=>Q (.int m) H
 | none=>lP c E H (.noguest g)):qL c vs H Q E
inductive mL (C:Addr) (vs:List V) (H:Hp) (Q:VK) (E_:XK):Prop
 | mk (p:Addr) (A:HA) (st:bX) (g:Int) (h_0:vs=[.ref p,.int g]) (h_1:aM C H p A st) (h_2:Q (.bl (look st.worn g).isSome) H):mL C vs H Q E_
inductive mJ (C:Addr) (vs:List V) (H:Hp) (Q:VK) (E_:XK):Prop
 | mk (p:Addr) (A:HA) (st:bX) (h_0:vs=[.ref p]) (h_1:aM C H p A st) (h_2:st.worn.length<64) (h_3:∀ l,H l=none->Q (.ref l) (upd H l (.lst ((bn (aq st.worn)).map V.int)))):mJ C vs H Q E_
inductive Bc (C:Addr) (vs:List V) (H:Hp) (Q:VK) (E_:XK):Prop
 | mk (p:Addr) (A:HA) (st:bX) (a b:Int) (h_0:vs=[.ref p,.int a,.int b]) (h_1:aM C H p A st) (h_2:∀ H',ax H H'->Q (.bl (cY st.circ a b)) H'):Bc C vs H Q E_
inductive Dj (C:Addr) (vs:List V) (H:Hp) (Q:VK) (E_:XK):Prop
 | mk (p:Addr) (A:HA) (st:bX) (a b:Int) (h_0:vs=[.ref p,.int a,.int b]) (h_1:aM C H p A st) (h_2:st.circ.length<2000) (h_3:(∀ x∈st.circ,x.2.length<2000)) (h_4:∀ H',uN C H p A { st with circ:=cr st.circ a b } H'->Q .non H'):Dj C vs H Q E_
inductive qG (C:Addr) (vs:List V) (H:Hp) (Q:VK) (E_:XK):Prop
 | mk (p:Addr) (A:HA) (st:bX) (h_0:vs=[.ref p]) (h_1:aM C H p A st) (h_2:Q (.int st.deeds.length) H):qG C vs H Q E_
structure HT (K:PySem.W.Frag)(mg:Str->Option Value)(c:HX):Prop where
 cl:Bq K c.C
 nW:fq K c.C "worn"
 nH:fq K c.C "holders"
 nC:fq K c.C "circles"
 nD:fq K c.C "deeds"
 mC:mg "Hall" = some (.ref c.C)
 eA:fu K c.cA
 eM:fu K c.cM
 eS:fu K c.cS
 eT:fu K c.cT
 mA:mg "AlreadyIn" = some (.ref c.cA)
 mM:mg "Masked" = some (.ref c.cM)
 mS:mg "Same" = some (.ref c.cS)
 mT:mg "Met" = some (.ref c.cT)
 mN:mg "NoGuest" = some (.ref c.cN)
 mW:mg "WaltzError" = some (.ref c.cW)
 eN:oY K c.cN c.fN=true
 gN:KS K c.cN "guest"
 tN:PySem.W.typeIn K (.ref c.fN)=some (.type "function")
 wS:PySem.W.specialIn K (.ref c.cW) "__getattribute__" = some (some (.builtin "type.__getattribute__"))
 wR:PySem.W.readsIn K c.cW (.type "type")=true
 wI:PySem.W.findCls K (.ref c.cW) (.type "type") "__init__" = some (.val (.builtin "ValueError.__init__"))
structure HM (K:PySem.W.Frag)(c:HX):Prop where
 aa:PySem.W.exmOne K (.ref c.cA) (.ref c.cA)=some true
 ma:PySem.W.exmOne K (.ref c.cM) (.ref c.cA)=some false
 mm:PySem.W.exmOne K (.ref c.cM) (.ref c.cM)=some true
 sa:PySem.W.exmOne K (.ref c.cS) (.ref c.cA)=some false
 sm:PySem.W.exmOne K (.ref c.cS) (.ref c.cM)=some false
 ss:PySem.W.exmOne K (.ref c.cS) (.ref c.cS)=some true
 ta:PySem.W.exmOne K (.ref c.cT) (.ref c.cA)=some false
 tm:PySem.W.exmOne K (.ref c.cT) (.ref c.cM)=some false
 ts:PySem.W.exmOne K (.ref c.cT) (.ref c.cS)=some false
 tt:PySem.W.exmOne K (.ref c.cT) (.ref c.cT)=some true
 na:PySem.W.exmOne K (.ref c.cN) (.ref c.cA)=some false
 nm:PySem.W.exmOne K (.ref c.cN) (.ref c.cM)=some false
 ns:PySem.W.exmOne K (.ref c.cN) (.ref c.cS)=some false
 nt:PySem.W.exmOne K (.ref c.cN) (.ref c.cT)=some false
 nn:PySem.W.exmOne K (.ref c.cN) (.ref c.cN)=some true
def lO (P:Program)(w:World)(K:PySem.W.Frag)(mg:Str->Option Value)(base:Heap)(c:HX):Prop:=∃ fd:FuncData,aZ P w K mg base bV 1 c.fN fd ["self","guest"] (HB c.cN "guest")/\fU K fd ["self","guest"] []
theorem vK {X:Cx}{c:HX}{E:XK}{e:Expr}{te:TE}{np cpos pos:Pos}(N:lO X.prog X.w X.K X.mg X.base c)(U:HT X.K X.mg c)(hr:cH 2 X.A)(hfl:CF X E)(hex:X.ex=[])(hh:X.A.handled=none)(hg:Gl X "NoGuest")(he:PE X e te)
  (hs:starEach [e] X.env=[(false,eval e X.env)]:=by rfl):PS X (.Raise (some (.Call (.Name "NoGuest" np) [e] [] cpos)) none pos) (Dq te c.cN "guest" E):=by
 obtain⟨fd,G,hb⟩:=N;exact Ek U.eN U.tN G hr hb hfl hex hh hg U.mN he (by decide) hs
section
variable {C:Addr}{H:Hp}{p t:Addr}{A:HA}{st:bX}
structure CD (A:HA):Prop where
 wh:A.w≠A.h
 wc:A.w≠A.c
 wd:A.w≠A.d
 hc:A.h≠A.c
 hd:A.h≠A.d
 cd:A.c≠A.d
 w:A.w∉A.cs
 h:A.h∉A.cs
 c:A.c∉A.cs
 d:A.d∉A.cs
 cs:A.cs.Nodup
theorem aM.apart (S:aM C H p A st):CD A:=by
 have:=S.nd;simp only[HA.fp,MN,Ms,not_or]at this;obtain⟨⟨a1,a2,a3,a4⟩,⟨b1,b2,b3⟩,⟨c1,c2⟩,d1,e⟩:=this;exact⟨a1,a2,a3,b1,b2,c1,a4,b3,c2,d1,e⟩
theorem aM.pne (S:aM C H p A st):p∉A.fp:=by
 have n1:p≠A.w:=bE S.ob S.w (by intro z;cases z);have n2:p≠A.h:=bE S.ob S.h (by intro z;cases z);have n3:p≠A.c:=bE S.ob S.c (by intro z;cases z);obtain⟨as,hd,_⟩:=S.d;have n4:p≠A.d:=bE S.ob hd (by intro z;cases z)
 have n5:p∉A.cs:=fun z=>by
  obtain⟨i,hi,e⟩:=List.getElem_of_mem z;obtain⟨b,_,q⟩:=paired_get S.cs (List.getElem?_eq_getElem hi);rw[e,S.ob]at q;cases q
 simp[HA.fp,n1,n2,n3,n4,n5]
theorem pS {H H':Hp}:∀ {cs:List Addr}{ci:List (Int×List Int)},Paired (fun a (x:Int×List Int)=>H a=some (.dK (rj x.2))) cs ci->(∀ b∈cs,∀ o,H b=some o->H' b=some o)->Paired (fun a (x:Int×List Int)=>H' a=some (.dK (rj x.2))) cs ci:=by
 intro cs ci hp k
 induction hp with
 | nil=>exact .nil
 | cons e _ ih=>exact .cons (k _ Mm _ e) (ih fun b hb=>k b (Mh _ hb))
theorem eO (x:aX):∃ xs,ca x=.tup xs:=by cases x<;>exact⟨_,rfl⟩
theorem aM.tup (S:aM C H p A st){b:Addr}{xs:List V}(e:H b=some (.tup xs)):b∉A.fp:=by
 have n1:b≠A.w:=bE e S.w (by intro z;cases z);have n2:b≠A.h:=bE e S.h (by intro z;cases z);have n3:b≠A.c:=bE e S.c (by intro z;cases z);obtain⟨as,hd,_⟩:=S.d;have n4:b≠A.d:=bE e hd (by intro z;cases z)
 have n5:b∉A.cs:=fun z=>by
  obtain⟨i,hi,e'⟩:=List.getElem_of_mem z;obtain⟨y,_,q⟩:=paired_get S.cs (List.getElem?_eq_getElem hi);rw[e',e]at q;cases q
 simp[HA.fp,n1,n2,n3,n4,n5]
theorem aM.tracked (S:aM C H p A st){b:Addr}(h:b∈A.fp):∃ o,H b=some o:=by
 simp only[HA.fp,Ms]at h;rcases h with rfl | rfl | rfl | rfl | h
 ·exact⟨_,S.w⟩
 ·exact⟨_,S.h⟩
 ·exact⟨_,S.c⟩
 ·obtain⟨as,hd,_⟩:=S.d;exact⟨_,hd⟩
 ·obtain⟨i,hi,rfl⟩:=List.getElem_of_mem h
  obtain⟨y,_,q⟩:=paired_get S.cs (List.getElem?_eq_getElem hi);exact⟨_,q⟩
theorem CD.fp {A:HA}(a:CD A):A.fp.Nodup:=by
 simp only[HA.fp,MN,Ms,not_or];exact⟨⟨a.wh,a.wc,a.wd,a.w⟩,⟨a.hc,a.hd,a.h⟩,⟨a.cd,a.c⟩,a.d,a.cs⟩
theorem iD {fp:List Addr}{a:Addr}{o:HO}(h:a∈fp):Kp fp H (upd H a o):=fun b u e n=>by
 rw[af (fun z:b=a=>n (by rw[z];exact h))];exact e
theorem BL {fp:List Addr}{a:Addr}{o:HO}(h:H a=none):Kp fp H (upd H a o):=fun b u e n=>by
 rw[af (aj e h)];exact e
theorem Kp.on {fp:List Addr}{H1 H2:Hp}(a:Kp fp H H1)(b:Kp fp H1 H2):Kp fp H H2:=fun x o e n=>b x o (a x o e n) n
theorem yp (S:aM C H p A st)(w':List (Int×Int)):aM C (upd H A.w (.dK (dk w'))) p A { st with worn:=w' }:=by
 have a:=S.apart;have np:=S.pne;simp only[HA.fp,Ms,not_or]at np;refine⟨by rw[af np.1];exact S.ob,S.nd,ac,by rw[af (ME a.wh)];exact S.h,by rw[af (ME a.wc)];exact S.c,pS S.cs fun b hb o e=>by rw[af (fun z:b=A.w=>a.w (by rw[<-z];exact hb))];exact e,?_⟩;obtain⟨as,hd,hp⟩:=S.d;refine⟨as,by rw[af (ME a.wd)];exact hd,Paired.mapP hp fun b x e=>?_⟩;obtain⟨xs,ex⟩:=eO x;rw[af (fun z=>S.tup (xs:=xs) (by rw[<-ex];exact e) (by rw[z];simp[HA.fp]))];exact e
theorem yo (S:aM C H p A st)(w':List (Int×Int)):aM C (upd H A.h (.dK (dk w'))) p A { st with hold:=w' }:=by
 have a:=S.apart;have np:=S.pne;simp only[HA.fp,Ms,not_or]at np;refine⟨by rw[af np.2.1];exact S.ob,S.nd,by rw[af a.wh];exact S.w,ac,by rw[af (ME a.hc)];exact S.c,pS S.cs fun b hb o e=>by rw[af (fun z:b=A.h=>a.h (by rw[<-z];exact hb))];exact e,?_⟩;obtain⟨as,hd,hp⟩:=S.d;refine⟨as,by rw[af (ME a.hd)];exact hd,Paired.mapP hp fun b x e=>?_⟩;obtain⟨xs,ex⟩:=eO x;rw[af (fun z=>S.tup (xs:=xs) (by rw[<-ex];exact e) (by rw[z];simp[HA.fp]))];exact e
theorem rc (S:aM C H p A st){as:List Addr}(hd:H A.d=some (.lst (as.map V.ref)))(hp:Paired (fun a x=>H a=some (ca x)) as st.deeds)(x:aX)(ht:H t=none) :
  aM C (upd (upd H t (ca x)) A.d (.lst (as.map V.ref++[.ref t]))) p A { st with deeds:=st.deeds++[x] }:=by
 have a:=S.apart;have np:=S.pne;simp only[HA.fp,Ms,not_or]at np;have n:∀ b o,H b=some o->b≠t:=fun b o e=>aj e ht
 have e1:∀ b o,H b=some o->b≠A.d->(upd (upd H t (ca x)) A.d (.lst (as.map V.ref++[.ref t]))) b=some o:=fun b o e h=>by rw[af h,af (n b o e)];exact e
 have td:t≠A.d:=fun z=>by rw[z,hd]at ht;cases ht
 refine⟨e1 _ _ S.ob np.2.2.2.1,S.nd,e1 _ _ S.w a.wd,e1 _ _ S.h a.hd,e1 _ _ S.c a.cd,pS S.cs fun b hb o e=>e1 b o e (fun z=>a.d (by rw[<-z];exact hb)),as++[t],by rw[ac,Mr];rfl,?_⟩;refine aJ (Paired.mapP hp fun b y e=>?_) (.cons (by rw[af td,ac]) .nil);obtain⟨xs,ex⟩:=eO y;exact e1 b _ e (fun z=>S.tup (xs:=xs) (by rw[<-ex];exact e) (by rw[z];simp[HA.fp]))
theorem CZ:A.w∈A.fp:=by simp[HA.fp]
theorem CW:A.h∈A.fp:=by simp[HA.fp]
theorem HZ:A.c∈A.fp:=by simp[HA.fp]
theorem FC:A.d∈A.fp:=by simp[HA.fp]
end
theorem qY {c:HX}{H:Hp}{p:Addr}{A:HA}{st:bX}{d:aX}{Q:VK}{E:XK}(k:wD c H p A st d Q E)(h:ba st d=.done):∀ H',uN c.C H p A (after st d) H'->Q .non H':=by
 unfold wD at k;rwa [Mi h]at k
theorem iC {c:HX}{H:Hp}{p:Addr}{A:HA}{st:bX}{d:aX}{Q:VK}{E:XK}{o:EO}(k:wD c H p A st d Q E)(h:ba st d=o)(ho:o≠.done):lP c E H o:=by
 unfold wD at k;rwa [h,Mg ho]at k
theorem qc:∀ (ci:List (Int×List Int))(a b:Int),(cr ci a b).length<=ci.length+1
 | [],_,_=>by simp[cr]
 | x::r,a,b=>by
  unfold cr;split
  ·simp
  ·have:=qc r a b;simp;omega
theorem Fw (ks:List Int)(b:Int):(gI ks b).length<=ks.length+1:=by unfold gI;split<;>simp
theorem uQ {ci:List (Int×List Int)}{a b:Int}{n:Nat}(h:∀ x∈ci,x.2.length<=n)(hn:0<n+1):∀ x∈cr ci a b,x.2.length<=n+1:=by
 induction ci with
 | nil=>intro x hx;simp[cr]at hx;subst hx;simp
 | cons y r ih =>
  intro x hx;unfold cr at hx;split at hx
  ·rcases Ms.mp hx with z | z
   ·subst z;have:=Fw y.2 b;have:=h y Mm;simp only;omega
   ·have:=h x (Mh _ z);omega
  ·rcases Ms.mp hx with z | z
   ·subst z;have:=h x Mm;omega
   ·exact ih (fun x hx=>h x (Mh _ hx)) x z
theorem Dd (ks:List Int)(b:Int):gL (rj ks) (Sum.inl b:cf) (V.bl true)=rj (gI ks b):=by
 unfold gL gI rj
 have e:((ks.map fun k=>((Sum.inl k:cf),V.bl true)).any fun kv=>decide (kv.1=(Sum.inl b:cf)))=decide (b∈ks):=by
  rw[List.any_map]
  induction ks with
  | nil=>rfl
  | cons x r ih=>rw[N2,ih];by_cases h:x=b<;>simp[h,eq_comm]
 rw[e]
 by_cases h:b∈ks
 ·rw[Mi (Mp h),Mi h,M8]
  apply NT
  intro k _;simp only[Function.comp];split<;>rfl
 ·rw[Mg (by simp[h]),Mg h,Mr]
  rfl
theorem Dx (ks:List Int)(b:Int):(dI (rj ks) (Sum.inl b:cf)).isSome=decide (b∈ks):=by
 rw[<-m9];unfold rj;rw[List.any_map]
 induction ks with
 | nil=>rfl
 | cons x r ih=>rw[N2,ih];by_cases h:x=b<;>simp[h,eq_comm]
section
variable {H:Hp}
abbrev KL (H:Hp)(cs:List Addr)(ci:List (Int×List Int)):Prop:=Paired (fun a (x:Int×List Int)=>H a=some (.dK (rj x.2))) cs ci
theorem jz:∀ {cs:List Addr}{ci:List (Int×List Int)}(a:Int),KL H cs ci ->
  (dI (b5 cs ci) (Sum.inl a:cf)=none/\dG ci a=[]/\∀ b,cr ci a b=ci++[(a,[b])]) \/
  ∃ ad,ad∈cs/\dI (b5 cs ci) (Sum.inl a:cf)=some (.ref ad)/\H ad=some (.dK (rj (dG ci a))) /\
   ∀ b (H':Hp),cs.Nodup->(∀ x∈cs,x≠ad->∀ o,H x=some o->H' x=some o)->H' ad=some (.dK (rj (gI (dG ci a) b)))->KL H' cs (cr ci a b)/\b5 cs (cr ci a b)=b5 cs ci
 | _,_,a,.nil=>.inl ⟨rfl,rfl,fun b=>rfl⟩
 | c::cs,x::ci,a,.cons e r=>by
  by_cases h:x.1=a
  ·refine .inr ⟨c,Mm,nc (p:=((Sum.inl x.1:cf),V.ref c)) (by rw[h]),by simp only[dG,Mi h];exact e,fun b H' nd k k'=>?_⟩
   simp only[dG,Mi h]at k';simp only[cr,Mi h];refine⟨.cons k' (pS r fun y hy o z=>k y (Mh _ hy) (fun q=>(MN.mp nd).1 (by rw[<-q];exact hy)) o z),rfl⟩
  ·have hk:dI (b5 (c::cs) (x::ci)) (Sum.inl a:cf)=dI (b5 cs ci) (Sum.inl a:cf):=jI (p:=((Sum.inl x.1:cf),V.ref c)) (fun z=>h (Sum.inl.inj z))
   have hc:dG (x::ci) a=dG ci a:=by simp only[dG,Mg h]
   rcases jz a r with ⟨h1,h2,h3⟩ | ⟨ad,h1,h2,h3,h4⟩
   ·exact .inl ⟨by rw[hk];exact h1,by rw[hc];exact h2,fun b=>by simp only[cr,Mg h,h3 b,List.cons_append]⟩
   ·refine .inr ⟨ad,Mh _ h1,by rw[hk];exact h2,by rw[hc];exact h3,fun b H' nd k k'=>?_⟩
    rw[hc]at k';obtain⟨n1,n2⟩:=MN.mp nd;obtain⟨q1,q2⟩:=h4 b H' n2 (fun y hy=>k y (Mh _ hy)) k';simp only[cr,Mg h];refine⟨.cons (k c Mm (fun z=>n1 (by rw[z];exact h1)) _ e) q1,?_⟩
    show _::b5 cs (cr ci a b)=_::b5 cs ci
    rw[q2]
theorem oX:∀ {cs:List Addr}{ci:List (Int×List Int)}(a:Int)(ks:List Int)(l:Addr),cs.length=ci.length->b5 (cs++[l]) (ci++[(a,ks)])=b5 cs ci++[(Sum.inl a,V.ref l)]
 | [],[],_,_,_,_=>rfl
 | c::cs,x::ci,a,ks,l,h=>by
  show _::b5 (cs++[l]) (ci++[(a,ks)])=_
  rw[oX a ks l (by simpa using h)];rfl
theorem nj:∀ {cs:List Addr}{ci:List (Int×List Int)},cs.length=ci.length->(b5 cs ci).length=ci.length
 | [],[],_=>rfl
 | c::cs,x::ci,h=>by show (b5 cs ci).length+1=_;rw[nj (by simpa using h)];rfl
end
end Wz
namespace L2
open PySem PySem.Spec PyProof.Rows
def Jv (td ty tx:TE):TE:=fun σ H Q=>td σ H fun x H1=>∃ a,x=.ref a/\Kx H1 a/\ty σ H1 fun y H2=>tx σ H2 fun z H3=>∃ kvs k,H3 a=some (.dK kvs)/\y=kV k/\kvs.length<sizeLine /\
 (∀ v,dI kvs k=some v->Q v H3)/\(dI kvs k=none->Q z (upd H3 a (.dK (gL kvs k z))))
theorem FT {X:Cx}{o e f:Expr}{apos cpos:Pos}{td ty tx:TE}(ho:PE X o td)(he:PE X e ty)(hf:PE X f tx)(m:M2 X o "setdefault" apos e f cpos):PE X (.Call (.Attribute o "setdefault" apos) [e,f] [] cpos) (Jv td ty tx):=by
 intro pins s σ H Q I h;refine wpAny_Call_method m.base m.few m.line PySem.F.plainAttrs_dict PySem.F.slot_dict_setdefault PySem.F.type_dict_setdefault (bH (ho pins s σ H _ I h) fun u s1 ⟨x,H1,I1,rx,a,ex,d,q1⟩=>?_);subst ex;obtain rfl:u=Value.ref a:=rx;obtain⟨t1,t2,_⟩:=yt I1 d;refine⟨t1,t2,?_⟩;rw[m.trees]
 refine N9 rfl (NX (NH (bH (he pins s1 σ H1 _ I1 q1) fun iv s2 ⟨y,H2,I2,ry,q2⟩ =>
  NH (bH (hf pins s2 σ H2 _ I2 q2) fun fv s3 ⟨z,H3,I3,rz,kvs,k,ea,ey,hlt,q3,q4⟩=>Og ?_))))
 subst ey;obtain⟨hz,hd,vs,rel,dd⟩:=CN I3.hok ea
 refine call_meetsIn PySem.F.slot_dict_setdefault dd.typeIs PySem.F.entry_dict_setdefault (PySem.F.args_dict_setdefault_3 _ _ _) (kt_meets_setdefault (bz X.prog X.w) a (p8 ry) hd fv)
  ⟨vs,dd,by rw[<-rel.length];exact hz,fun v' hv'=>?_,fun hn h' dd' hs=>?_⟩
 ·cases l:dI kvs k with
  | none=>have:=rel.val k;rw[l,hv']at this;exact this.elim
  | some v =>
   have:=rel.val k;rw[l,hv']at this;exact⟨v,H3,I3.tok _,this,q3 v l⟩
 ·cases l:dI kvs k with
  | some v=>have:=rel.val k;rw[l,hn]at this;exact this.elim
  | none =>
   have he:∃ q,h'.get? a=some q:=let ⟨q,_,_,hq,_⟩:=dd';⟨q,hq⟩;exact⟨z,_,pT I3 (by rw[ea];exact True.intro) hs he (yk (by have:=i8 kvs k z;omega) hd (rel.put k rz) dd'),rz,q4 l⟩
section
variable {X:Cx}
theorem DB:kJ X (.type "set") (fun xs H Q=>xs=[]/\∀ p,H p=none->Q (.ref p) (upd H p (.set (fun _=>false) 0))):=by
 intro pins s σ H xs us Q I r h;obtain⟨rfl,q⟩:=h;cases r;refine call_set_0 fun led=>?_;refine⟨.ref s.heap.objs.size,_,I.laid (t':=s.toks) (fun b u e=>Heap.get?_push_of_some _ e) (Mn _) ?_,rfl,q _ (I.hok.fresh (Mn _))⟩
 show Heap.SetOf (intKind X.prog X.w) _ _ _ _
 exact ((intSetOf_fresh led).kind X.prog X.w).setOf (Heap.get?_push_size _ rfl) (by decide)
inductive Kc (neg:Bool) (x:V) (y:V) (H:Hp) (Q:VK):Prop
 | mk (p:Addr) (S:Int->Bool) (n:Nat) (i:Int) (h_0:x=.int i) (h_1:y=.ref p) (h_2:H p=some (.set S n)) (h_3:Q (.bl (if neg then !S i else S i)) H):Kc neg x y H Q
theorem Ef:sR X (compareOp .NotIn) (Kc true):=by
 intro pins s σ H x y v u Q I rx ry h;obtain⟨p,S,n,i,rfl,rfl,hp,q⟩:=h;obtain⟨t,rfl⟩:=rx;cases ry;have hS:s.heap.SetOf (intKind X.prog X.w) p S n:=I.hok p _ hp;exact wpAny_notInSet_of (k:=i) (by show Value.isInt i (.int i t)=true;simp[Value.isInt]) rfl hS ⟨.bl (!S i),H,I.tok _,rfl,q⟩
inductive Ig (x:V) (vs:List V) (H:Hp) (Q:VK):Prop
 | mk (p:Addr) (S:Int->Bool) (n:Nat) (i:Int) (h_0:x=.ref p) (h_1:vs=[.int i]) (h_2:H p=some (.set S n)) (h_3:n+1<4096) (h_4:Q .non (upd H p (.set (fun k=>S k||decide (k=i)) (if S i then n else n+1)))):Ig x vs H Q
theorem Hg:KR X "set.add" Ig:=by
 intro pins s σ H x vs v us Q I rx rv h;obtain⟨p,S,n,i,rfl,rfl,hp,hn,q⟩:=h;cases rx;obtain⟨u,rfl,ru⟩:=rv.one;obtain⟨t,rfl⟩:=ru;have hS:s.heap.SetOf (intKind X.prog X.w) p S n:=I.hok p _ hp;refine call_set_add (k:=i) (by show Value.isInt i (.int i t)=true;simp[Value.isInt]) rfl hS hn fun h' hsb hS'=>?_;obtain⟨o,_,_,_,ho,_⟩:=id hS';exact⟨.non,_,I.write (t':=s.toks+1) (o:=.set (fun k=>S k||decide (k=i)) (if S i then n else n+1)) (by rw[hp];trivial) (.inl rfl) (fun b u hb e=>(hsb.2 b hb).trans e) ⟨o,ho⟩ hS',rfl,q⟩
end
end L2
namespace Wz
open PySem L2
theorem Fl {A:Around}{k n:Nat}(hr:cH k A)(h:n<=200):A.units+n<cLine:=by have:=hr.un;omega
theorem cc:decide (V.str "come" = V.str "come")=true:=by decide +kernel
theorem cg:decide (V.str "come" = V.str "go")=false:=by decide +kernel
theorem ce:decide (V.str "come" = V.str "exchange")=false:=by decide +kernel
theorem gc:decide (V.str "go" = V.str "come")=false:=by decide +kernel
theorem gg:decide (V.str "go" = V.str "go")=true:=by decide +kernel
theorem ge:decide (V.str "go" = V.str "exchange")=false:=by decide +kernel
theorem ec:decide (V.str "exchange" = V.str "come")=false:=by decide +kernel
theorem eg:decide (V.str "exchange" = V.str "go")=false:=by decide +kernel
theorem ee:decide (V.str "exchange" = V.str "exchange")=true:=by decide +kernel
def word:aX->Str
 | .come _=>"come"
 | .go _=>"go"
 | .exch _ _=>"exchange"
def d6 (d:aX):List V:=V.str (word d)::(names d).map V.int
theorem pU (d:aX):ca d=.tup (d6 d):=by cases d<;>rfl
theorem EW (d:aX):gR (d6 d) (some 1) none=(names d).map V.int:=by cases d<;>rfl
theorem GP (d:aX):¬ (HT.sIx (d6 d).length 0 (some 1)=0/\HT.sIx (d6 d).length (d6 d).length none=(d6 d).length):=by cases d<;>(intro h;have h1:=h.1;simp[d6,names,HT.sIx]at h1)
def cv (w:List (Int×Int))(m:Int->Int->Bool):aX->EO
 | .come g=>if (look w g).isSome then .already else .done
 | .go g=>match look w g with | none=>.noguest g | some x=>if x=g then .done else .masked
 | .exch a b=>match look w a with
  | none=>.noguest a
  | some _=>match look w b with
   | none=>.noguest b
   | some _=>if a=b then .same else if m a b then .met else .done
theorem Ha (st:bX)(d:aX):ba st d=cv st.worn (cY st.circ) d:=by cases d<;>rfl
theorem yu {w:List (Int×Int)}{m m':Int->Int->Bool}(h:∀ a b,m a b=m' a b)(d:aX):cv w m d=cv w m' d:=by cases d<;>simp only[cv,h]
def bx (a b:Int):Int×Int:=if b<a then (b,a) else (a,b)
def k7 (ml:List (Int×Int))(a b:Int):Bool:=decide (bx a b∈ml)
def rq (ml:List (Int×Int)):List (List cf×V):=ml.map fun p=>([Sum.inl p.1,Sum.inl p.2],V.bl true)
def pQ (ml:List (Int×Int))(p:Int×Int):List (Int×Int):=if p∈ml then ml else ml++[p]
def IY:EO->List V
 | .done=>[.str "done",.non]
 | .already=>[.str "AlreadyIn",.non]
 | .masked=>[.str "Masked",.non]
 | .same=>[.str "Same",.non]
 | .met=>[.str "Met",.non]
 | .noguest g=>[.str "NoGuest",.int g]
def ye (w:List (Int×Int)):aX->List (Int×Int)
 | .come g=>put w g g
 | .go g=>da w g
 | .exch a b=>put (put w a (wr w b)) b (wr w a)
def oW (ml:List (Int×Int)):aX->List (Int×Int)
 | .come _=>ml
 | .go _=>ml
 | .exch a b=>pQ ml (bx a b)
theorem Bw (st:bX)(d:aX):(after st d).worn=ye st.worn d:=by cases d<;>rfl
theorem C5 (ml:List (Int×Int))(p:Int×Int):((rq ml).any fun kv=>decide (kv.1=([Sum.inl p.1,Sum.inl p.2]:List cf)))=decide (p∈ml):=by
 unfold rq;rw[List.any_map]
 induction ml with
 | nil=>rfl
 | cons x r ih =>
  rw[N2,ih]
  have:(decide ((([Sum.inl x.1,Sum.inl x.2]:List cf))=[Sum.inl p.1,Sum.inl p.2]))=decide (p=x):=by
   by_cases h:p=x
   ·subst h;simp
   ·rw[Mx h,Mx]
    intro z;simp only[List.cons.injEq,Sum.inl.injEq,and_true]at z;exact h (Prod.ext z.1.symm z.2.symm)
  simp only[Function.comp];rw[this]
  by_cases h:p=x<;>simp[h]
theorem ui (ml:List (Int×Int))(p:Int×Int):(dI (rq ml) ([Sum.inl p.1,Sum.inl p.2]:List cf)).isSome=decide (p∈ml):=by rw[<-m9,C5]
theorem C6 (ml:List (Int×Int))(p:Int×Int):gL (rq ml) ([Sum.inl p.1,Sum.inl p.2]:List cf) (V.bl true)=rq (pQ ml p):=by
 unfold gL pQ;rw[C5]
 by_cases h:p∈ml
 ·rw[Mi (Mp h),Mi h]
  unfold rq;rw[M8]
  apply NT
  intro x _;simp only[Function.comp];split<;>rfl
 ·rw[Mg (by simp[h]),Mg h]
  unfold rq;rw[Mr];rfl
theorem Fo {w:List (Int×Int)}{m:Int->Int->Bool}{d:aX}{i:Nat}{x:Int}(hc:word d≠"come")(hp:∀ y∈(names d).take i,(look w y).isSome=true)(hi:(names d)[i]? = some x)(hx:look w x=none):cv w m d=.noguest x:=by
 cases d with
 | come g=>exact absurd rfl hc
 | go g =>
  cases i with
  | zero=>simp[names]at hi;subst hi;simp[cv,hx]
  | succ i=>simp[names]at hi
 | exch a b =>
  cases i with
  | zero=>simp[names]at hi;subst hi;simp[cv,hx]
  | succ i =>
   cases i with
   | zero =>
    simp[names]at hi;subst hi;have:=hp a (by simp[names]);obtain⟨v,hv⟩:=MY.mp this;simp[cv,hv,hx]
   | succ i=>simp[names]at hi
inductive we (vs:List V) (H:Hp) (Q:VK) (E_:XK):Prop
 | mk (a b:Int) (h_0:vs=[.int a,.int b]) (h_1:∀ t,H t=none->Q (.ref t) (upd H t (.tup [.int (bx a b).1,.int (bx a b).2]))):we vs H Q E_
inductive Dk (vs:List V) (H:Hp) (Q:VK) (E_:XK):Prop
 | mk (w m t:Addr) (wl ml:List (Int×Int)) (d:aX) (h_0:vs=[.ref w,.ref m,.ref t]) (h_1:H w=some (.dK (dk wl))) (h_2:H m=some (.dT (rq ml))) (h_3:H t=some (ca d)) (h_4:∀ (r:Addr)(H':Hp),H r=none->ax H H'->H' r=some (.tup (IY (cv wl (k7 ml) d)))->Q (.ref r) H'):Dk vs H Q E_
inductive qv (vs:List V) (H:Hp) (Q:VK) (E_:XK):Prop
 | mk (w m t:Addr) (wl ml:List (Int×Int)) (d:aX) (h_0:vs=[.ref w,.ref m,.ref t]) (h_1:H w=some (.dK (dk wl))) (h_2:H m=some (.dT (rq ml))) (h_3:H t=some (ca d)) (h_4:wl.length<=1000) (h_5:ml.length<=4000) (h_6:cv wl (k7 ml) d=.done) (h_7:∀ H',H' w=some (.dK (dk (ye wl d)))->H' m=some (.dT (rq (oW ml d)))->(∀ b o,H b=some o->b≠w->b≠m->H' b=some o)->Q .non H'):qv vs H Q E_
structure dZ (st:bX):Prop where
 wn:(aq st.worn).Nodup
 wh:∀ g m,look st.worn g=some m↔look st.hold m=some g
 ow:∀ g m,look st.worn g=some m->m∈aq st.worn
 sm:∀ g m,look st.worn g=some m->bj m
 cy:∀ a b,cY st.circ a b=cY st.circ b a
def cO (st:bX)(d:aX):bX:=if ba st d=.done then after st d else st
inductive Hy (c:HX) (vs:List V) (H:Hp) (Q:VK) (E:XK):Prop
 | mk (p t:Addr) (A:HA) (st:bX) (d:aX) (h_0:vs=[.ref p,.ref t]) (h_1:H t=some (ca d)) (h_2:aM c.C H p A st) (h_3:Bs st) (h_4:dZ st) (h_5:(∀ g∈names d,bj g)) (h_6:wD c H p A st d Q E):Hy c vs H Q E
def bc (m c:Int):List Int:=(List.range m.toNat).map fun (k:Nat)=>d7 (k:Int) c
theorem q8 (k c:Int):bj (d7 k c):=by
 unfold bj d7;have h:∀ x:Int,0<=x%2147483647/\x%2147483647<2147483647:=fun x=>⟨No _ (by decide),Np _ (by decide)⟩;dsimp only;generalize hx:(k*(1+iB c*1234567891%2147483646)+iB c/2147483646)%2147483647=x;have:=h (k*(1+iB c*1234567891%2147483646)+iB c/2147483646);rw[hx]at this
 have e:(10:Nat) ^ 100=10 ^ 15*10 ^ 85:=by rw[<-Nat.pow_add]
 have e2:(0:Nat)<10 ^ 85:=Nat.pow_pos (by decide)
 have:x.natAbs<10 ^ 15/\(x+997852516353).natAbs<10 ^ 15:=by constructor<;>omega
 split
 ·calc _<10 ^ 15:=this.2
   _<=10 ^ 15*10 ^ 85:=Nat.le_mul_of_pos_right _ e2
   _=10 ^ 100:=e.symm
 ·calc _<10 ^ 15:=this.1
   _<=10 ^ 15*10 ^ 85:=Nat.le_mul_of_pos_right _ e2
   _=10 ^ 100:=e.symm
theorem yh (x:Int):∀ (c:List (Int×List Int))(a b:Int),dG (cr c a b) x=if x=a then gI (dG c a) b else dG c x
 | [],a,b=>by
  by_cases h:x=a
  ·subst h;simp[cr,dG,gI]
  ·simp[cr,dG,h,ME h]
 | y::r,a,b=>by
  unfold cr
  by_cases h:y.1=a
  ·rw[Mi h]
   by_cases hx:x=a
   ·subst hx;simp[dG,h]
   ·have:¬ y.1=x:=fun z=>hx (z.symm.trans h)
    simp[dG,hx,this]
  ·rw[Mg h]
   by_cases hx:x=a
   ·subst hx
    simp only[dG,Mg h,if_true];rw[yh x r x b,Mi rfl]
   ·simp only[dG,yh x r a b,Mg hx]
theorem Af {ks:List Int}{b y:Int}:y∈gI ks b↔y∈ks\/y=b:=by
 unfold gI;split
 ·rename_i h
  constructor
  ·exact .inl
  ·rintro (z | z)
   ·exact z
   ·rw[z];exact h
 ·simp
theorem C0 (c:List (Int×List Int))(a b x y:Int):cY (cr c a b) x y=(cY c x y||(decide (x=a)&&decide (y=b))):=by
 unfold cY;rw[yh]
 by_cases h:x=a
 ·subst h
  rw[Mi rfl]
  by_cases hy:y=b
  ·have:y∈gI (dG c x) b:=Af.mpr (.inr hy)
   simp[hy,this];rw[hy]at this;exact this
  ·have:(y∈gI (dG c x) b)↔y∈dG c x:=by rw[Af];simp[hy]
   simp[hy,this]
 ·rw[Mg h];simp[h]
theorem yB (c:List (Int×List Int))(a b x y:Int):cY (cr (cr c a b) b a) x y=(cY c x y||(decide (x=a)&&decide (y=b))||(decide (x=b)&&decide (y=a))):=by rw[C0,C0]
theorem rB {l:List (Int×Int)}(h:(aq l).Nodup)(g m:Int):(aq (put l g m)).Nodup:=by
 rw[p9];split
 ·exact h
 ·rename_i n
  exact ny h n
theorem C8 {l:List (Int×Int)}(h:(aq l).Nodup)(g:Int):(aq (da l g)).Nodup:=by
 unfold aq da at *;exact (NU.map _).nodup h
theorem o5:dZ ⟨[],[],[],[]⟩:=by
 refine⟨Nj,fun g m=>?_,fun g m h=>?_,fun g m h=>?_,fun a b=>rfl⟩
 ·simp[look]
 ·simp[look]at h
 ·simp[look]at h
theorem qZ {st:bX}{d:aX}(G:dZ st)(sm:∀ g∈names d,bj g):dZ (cO st d):=by
 unfold cO
 by_cases hd:ba st d=.done
 ·rw[Mi hd]
  have kw:∀ g m,look st.worn g=some m->g∈aq st.worn:=fun g m h=>bd.mp (by rw[h];rfl)
  cases d with
  | come g =>
   have hn:look st.worn g=none:=by
    cases e:look st.worn g with
    | none=>rfl
    | some m=>simp[ba,e]at hd
   have hh:look st.hold g=none:=by
    cases e:look st.hold g with
    | none=>rfl
    | some m =>
     have:=G.ow m g ((G.wh m g).mpr e);rw[<-bd,hn]at this;cases this
   refine⟨rB G.wn g g,fun x m=>?_,fun x m h=>?_,fun x m h=>?_,G.cy⟩
   ·show look (put st.worn g g) x=some m↔look (put st.hold g g) m=some x
    rw[dj,dj]
    by_cases hx:x=g
    ·subst hx
     by_cases hm:m=x
     ·subst hm;simp
     ·rw[Mi rfl,Mg hm]
      constructor
      ·intro z;exact absurd (Mu z).symm hm
      ·intro z
       have:=(G.wh x m).mpr z;rw[hn]at this;cases this
    ·rw[Mg hx]
     by_cases hm:m=g
     ·subst hm
      rw[Mi rfl];constructor
      ·intro z
       have:=(G.wh x m).mp z;rw[hh]at this;cases this
      ·intro z;exact absurd (Mu z).symm hx
     ·rw[Mg hm];exact G.wh x m
   ·have h:look (put st.worn g g) x=some m:=h
    show m∈aq (put st.worn g g)
    rw[dj]at h;rw[<-bd,dj]
    by_cases hx:x=g
    ·rw[Mi hx]at h;cases h;rw[Mi rfl];rfl
    ·rw[Mg hx]at h
     have:=G.ow x m h;rw[<-bd]at this;split
     ·rfl
     ·exact this
   ·have h:look (put st.worn g g) x=some m:=h
    rw[dj]at h
    by_cases hx:x=g
    ·rw[Mi hx]at h;cases h;exact sm g (by simp[names])
    ·rw[Mg hx]at h;exact G.sm x m h
  | go g =>
   have hg:look st.worn g=some g:=by
    cases e:look st.worn g with
    | none=>simp[ba,e]at hd
    | some m =>
     by_cases z:m=g
     ·rw[z]
     ·simp[ba,e,z]at hd
   have hh:look st.hold g=some g:=(G.wh g g).mp hg;refine⟨C8 G.wn g,fun x m=>?_,fun x m h=>?_,fun x m h=>?_,G.cy⟩
   ·show look (da st.worn g) x=some m↔look (da st.hold g) m=some x
    rw[iu,iu]
    by_cases hx:x=g
    ·subst hx
     rw[Mi rfl]
     by_cases hm:m=x
     ·rw[Mi hm];simp
     ·rw[Mg hm]
      constructor
      ·intro z;cases z
      ·intro z
       have:=(G.wh x m).mpr z;rw[hg]at this;exact absurd (Mu this).symm hm
    ·rw[Mg hx]
     by_cases hm:m=g
     ·subst hm
      rw[Mi rfl];constructor
      ·intro z
       have:=(G.wh x m).mp z;rw[hh]at this;exact absurd (Mu this).symm hx
      ·intro z;cases z
     ·rw[Mg hm];exact G.wh x m
   ·have h:look (da st.worn g) x=some m:=h
    show m∈aq (da st.worn g)
    rw[iu]at h
    by_cases hx:x=g
    ·rw[Mi hx]at h;cases h
    ·rw[Mg hx]at h
     refine ro.mpr ⟨G.ow x m h,fun z=>?_⟩;rw[z]at h;have:=(G.wh x g).mp h;rw[hh]at this;exact hx (Mu this).symm
   ·have h:look (da st.worn g) x=some m:=h
    rw[iu]at h
    by_cases hx:x=g
    ·rw[Mi hx]at h;cases h
    ·rw[Mg hx]at h;exact G.sm x m h
  | exch a b =>
   obtain⟨ma,ea⟩:∃ m,look st.worn a=some m:=by
    cases e:look st.worn a with
    | none=>simp[ba,e]at hd
    | some m=>exact⟨m,rfl⟩
   obtain⟨mb,eb⟩:∃ m,look st.worn b=some m:=by
    cases e:look st.worn b with
    | none=>simp[ba,ea,e]at hd
    | some m=>exact⟨m,rfl⟩
   have hab:a≠b:=fun z=>by simp[ba,ea,eb,z]at hd
   have wa:wr st.worn a=ma:=by unfold wr;rw[ea];rfl
   have wb:wr st.worn b=mb:=by unfold wr;rw[eb];rfl
   have ha:=(G.wh a ma).mp ea;have hb:=(G.wh b mb).mp eb
   have hmm:ma≠mb:=fun z=>by rw[z,hb]at ha;exact hab (Mu ha).symm
   have lw:∀ x,look (put (put st.worn a mb) b ma) x=if x=b then some ma else if x=a then some mb else look st.worn x:=fun x=>by rw[dj,dj]
   have lh:∀ x,look (put (put st.hold mb a) ma b) x=if x=ma then some b else if x=mb then some a else look st.hold x:=fun x=>by rw[dj,dj]
   show dZ { worn:=put (put st.worn a (wr st.worn b)) b (wr st.worn a),hold:=put (put st.hold (wr st.worn b) a) (wr st.worn a) b,circ:=cr (cr st.circ a b) b a,deeds:=st.deeds++[.exch a b] }
   rw[wa,wb];refine⟨rB (rB G.wn a mb) b ma,fun x m=>?_,fun x m h=>?_,fun x m h=>?_,fun x y=>?_⟩
   ·show look (put (put st.worn a mb) b ma) x=some m↔look (put (put st.hold mb a) ma b) m=some x
    rw[lw,lh]
    by_cases hxb:x=b
    ·subst hxb
     rw[Mi rfl]
     by_cases hm:m=ma
     ·rw[Mi hm,hm];simp
     ·rw[Mg hm]
      constructor
      ·intro z;exact absurd (Mu z).symm hm
      ·intro z
       by_cases hm2:m=mb
       ·rw[Mi hm2]at z;exact absurd (Mu z) hab
       ·rw[Mg hm2]at z
        have:=(G.wh x m).mpr z;rw[eb]at this;exact absurd (Mu this).symm hm2
    ·rw[Mg hxb]
     by_cases hxa:x=a
     ·subst hxa
      rw[Mi rfl]
      by_cases hm:m=ma
      ·rw[Mi hm]
       constructor
       ·intro z;exact absurd ((Mu z).trans hm).symm hmm
       ·intro z;exact absurd (Mu z).symm hab
      ·rw[Mg hm]
       by_cases hm2:m=mb
       ·rw[Mi hm2,hm2];simp
       ·rw[Mg hm2]
        constructor
        ·intro z;exact absurd (Mu z).symm hm2
        ·intro z
         have:=(G.wh x m).mpr z;rw[ea]at this;exact absurd (Mu this).symm hm
     ·rw[Mg hxa]
      by_cases hm:m=ma
      ·rw[Mi hm]
       constructor
       ·intro z
        have:=(G.wh x m).mp z;rw[hm,ha]at this;exact absurd (Mu this).symm hxa
       ·intro z;exact absurd (Mu z).symm hxb
      ·rw[Mg hm]
       by_cases hm2:m=mb
       ·rw[Mi hm2]
        constructor
        ·intro z
         have:=(G.wh x m).mp z;rw[hm2,hb]at this;exact absurd (Mu this).symm hxb
        ·intro z;exact absurd (Mu z).symm hxa
       ·rw[Mg hm2];exact G.wh x m
   ·have h:look (put (put st.worn a mb) b ma) x=some m:=h
    show m∈aq (put (put st.worn a mb) b ma)
    have key:∀ y,y∈aq st.worn->y∈aq (put (put st.worn a mb) b ma):=fun y hy=>by
     rw[<-bd]at hy ⊢;rw[lw];split
     ·rfl
     ·split
      ·rfl
      ·exact hy
    rw[lw]at h;split at h
    ·cases h;exact key _ (G.ow a _ ea)
    ·split at h
     ·cases h;exact key _ (G.ow b _ eb)
     ·exact key _ (G.ow x m h)
   ·have h:look (put (put st.worn a mb) b ma) x=some m:=h
    rw[lw]at h;split at h
    ·cases h;exact G.sm a _ ea
    ·split at h
     ·cases h;exact G.sm b _ eb
     ·exact G.sm x m h
   ·show cY (cr (cr st.circ a b) b a) x y=cY (cr (cr st.circ a b) b a) y x
    rw[yB,yB,G.cy x y];cases decide (x=a)<;>cases decide (x=b)<;>cases decide (y=a)<;>cases decide (y=b)<;>simp
 ·rw[Mg hd];exact G
theorem ja {K:PySem.W.Frag}{H:Hp}{l:Addr}{ns:List Int}(h:aW K H l (ns.map V.int)):RD K H 2 (.ref l) (x5 ns):=by
 refine RD.lst h ?_;clear h
 induction ns with
 | nil=>exact .nil
 | cons n r ih=>exact .cons (RD.flat rfl 1) ih
theorem md {ms ns:List Int}:x5 ms=x5 ns↔ms=ns:=by
 constructor
 ·intro h
  unfold x5 at h;injection h with _ h;revert ns
  induction ms with
  | nil=>intro ns h;cases ns with | nil=>rfl | cons _ _=>cases h
  | cons m ms ih =>
   intro ns h
   cases ns with
   | nil=>cases h
   | cons n ns =>
    rw[MQ,MQ]at h;injection h with h1 h2;injection h1 with h1;injection h1 with h1;rw[h1,ih h2]
 ·intro h;rw[h]
def Kv (xs:List V):Dt:=.sq true (xs.map fun v=>.at v)
theorem AZ {K:PySem.W.Frag}{H:Hp}{l:Addr}{xs:List V}(h:H l=some (.tup xs))(hf:∀ x∈xs,lU x=true):RD K H 2 (.ref l) (Kv xs):=by
 refine RD.tup (eZ.of h) ?_;clear h
 induction xs with
 | nil=>exact .nil
 | cons n r ih=>exact .cons (RD.flat (hf n Mm) 1) (ih fun x hx=>hf x (Mh _ hx))
def Kw (P:Program)(w:World)(K:PySem.W.Frag)(mg:Str->Option Value)(base:Heap)(c:HX):Prop:=∃ (fI:Addr)(fd:FuncData),Mk K c.C fI/\aZ P w K mg base bV 1 fI fd ["self"] (Dl c.C)/\fU K fd ["self"] []
theorem Ic {X:Cx}{c:HX}{p pos:Pos}(M:Kw X.prog X.w X.K X.mg X.base c)(U:HT X.K X.mg c)(hr:cH 2 X.A)(hg:Gl X "Hall"):PE X (.Call (.Name "Hall" p) [] [] pos) (Do c.C (Dl c.C) [] E0 wu):=by
 obtain⟨fI,fd,M,G,hb⟩:=M;exact FU M G hr hg U.mC hb .nil cP
structure Ev (c:HX)(H0 H:Hp)(x:Addr)(B:HA)(st:bX):Prop where
 same:ax H0 H
 hall:aM c.C H x B st
 good:dZ st
 nfp:∀ b∈B.fp,H0 b=none
theorem Ev.moved {c:HX}{H0 H H':Hp}{x:Addr}{B:HA}{st st':bX}(e:Ev c H0 H x B st)(m:uN c.C H x B st' H')(g:dZ st') :
  ∃ B',Ev c H0 H' x B' st'/\(∀ y o,H y=some o->y∉B.fp->H' y=some o/\y∉B'.fp)/\Tr H H':=by
 obtain⟨B',S,k,f,t⟩:=m;refine⟨B',⟨fun b o q=>k b o (e.same b o q) (fun z=>by rw[e.nfp b z]at q;cases q),S,g,fun b hb=>?_⟩,fun y o q n=>⟨k y o q n,fun z=>?_⟩,t⟩
 ·rcases f b hb with z | z
  ·exact e.nfp b z
  ·exact e.same.free z
 ·rcases f y z with z | z
  ·exact n z
  ·rw[q]at z;cases z
theorem Ev.fits {st:bX}(h1:st.worn.length<=100)(h2:st.hold.length<=100)(h3:st.circ.length<=900)(h4:∀ x∈st.circ,x.2.length<=900)(h5:st.deeds.length<=900):Bs st:=⟨by omega,by omega,by omega,fun x hx=>by have:=h4 x hx;omega,by omega⟩
def Of (L:List Int)(st:bX):Prop:=(∀ g∈aq st.worn,g∈L)/\(∀ g∈aq st.hold,g∈L)/\(aq st.hold).Nodup
theorem of_empty {L:List Int}:Of L ⟨[],[],[],[]⟩:=⟨fun g h=>by simp[aq]at h,fun g h=>by simp[aq]at h,Nj⟩
theorem jB {l:List (Int×Int)}{g m x:Int}:x∈aq (put l g m)↔x∈aq l\/x=g:=by
 rw[p9];split
 ·rename_i h
  constructor
  ·exact .inl
  ·rintro (z | z)
   ·exact z
   ·rw[z];exact h
 ·simp
theorem Da {L:List Int}{st:bX}{d:aX}(G:dZ st)(o:Of L st)(hn:∀ g∈names d,g∈L):Of L (cO st d):=by
 unfold cO
 by_cases hd:ba st d=.done
 ·rw[Mi hd]
  obtain⟨o1,o2,o3⟩:=o
  cases d with
  | come g =>
   refine⟨fun x hx=>?_,fun x hx=>?_,rB o3 g g⟩
   ·rcases jB.mp (show x∈aq (put st.worn g g) from hx) with z | z
    ·exact o1 x z
    ·rw[z];exact hn g (by simp[names])
   ·rcases jB.mp (show x∈aq (put st.hold g g) from hx) with z | z
    ·exact o2 x z
    ·rw[z];exact hn g (by simp[names])
  | go g =>
   exact⟨fun x hx=>o1 x (ro.mp (show x∈aq (da st.worn g) from hx)).1,fun x hx=>o2 x (ro.mp (show x∈aq (da st.hold g) from hx)).1,C8 o3 g⟩
  | exch a b =>
   obtain⟨ma,ea⟩:∃ m,look st.worn a=some m:=by
    cases e:look st.worn a with
    | none=>simp[ba,e]at hd
    | some m=>exact⟨m,rfl⟩
   obtain⟨mb,eb⟩:∃ m,look st.worn b=some m:=by
    cases e:look st.worn b with
    | none=>simp[ba,ea,e]at hd
    | some m=>exact⟨m,rfl⟩
   have wa:wr st.worn a=ma:=by unfold wr;rw[ea];rfl
   have wb:wr st.worn b=mb:=by unfold wr;rw[eb];rfl
   refine⟨fun x hx=>?_,fun x hx=>?_,rB (rB o3 _ _) _ _⟩
   ·rcases jB.mp (show x∈aq (put (put st.worn a (wr st.worn b)) b (wr st.worn a)) from hx) with z | z
    ·rcases jB.mp z with z | z
     ·exact o1 x z
     ·rw[z];exact hn a (by simp[names])
    ·rw[z];exact hn b (by simp[names])
   ·rcases jB.mp (show x∈aq (put (put st.hold (wr st.worn b) a) (wr st.worn a) b) from hx) with z | z
    ·rcases jB.mp z with z | z
     ·exact o2 x z
     ·rw[z,wb];exact o1 _ (G.ow b mb eb)
    ·rw[z,wa];exact o1 _ (G.ow a ma ea)
 ·rw[Mg hd];exact o
theorem rD {L:List Int}{st:bX}(G:dZ st)(o:Of L st):st.worn.length<=L.length/\st.hold.length<=L.length:=by
 have e1:st.worn.length=(aq st.worn).length:=by simp[aq]
 have e2:st.hold.length=(aq st.hold).length:=by simp[aq]
 exact⟨by rw[e1];exact b7 G.wn o.1,by rw[e2];exact b7 o.2.2 o.2.1⟩
theorem B6 (st:bX)(d:aX):(cO st d).deeds.length<=st.deeds.length+1:=by
 unfold cO;split
 ·cases d<;>simp[after]
 ·omega
theorem D5 (st:bX)(d:aX):(cO st d).worn=if ba st d=.done then ye st.worn d else st.worn:=by
 unfold cO;split
 ·exact Bw st d
 ·rfl
def Ka:EO->Str
 | .done=>"done"
 | .already=>"AlreadyIn"
 | .masked=>"Masked"
 | .same=>"Same"
 | .met=>"Met"
 | .noguest _=>"NoGuest"
theorem Lk (o:EO):(IY o)[0]? = some (V.str (Ka o)):=by cases o<;>rfl
theorem Eh (o:EO):decide (V.str (Ka o)=V.str "done")=decide (o=.done):=by
 cases o with
 | done=>exact (show decide (V.str "done" = V.str "done")=true by decide +kernel)
 | already=>exact (show decide (V.str "AlreadyIn" = V.str "done")=false by decide +kernel)
 | masked=>exact (show decide (V.str "Masked" = V.str "done")=false by decide +kernel)
 | same=>exact (show decide (V.str "Same" = V.str "done")=false by decide +kernel)
 | met=>exact (show decide (V.str "Met" = V.str "done")=false by decide +kernel)
 | noguest g =>
  rw[Mx (show ¬ EO.noguest g=.done by simp)];exact (show decide (V.str "NoGuest" = V.str "done")=false by decide +kernel)
theorem rm (m c:Int):(bc m c).length=m.toNat:=by unfold bc;simp
theorem Ki:bn (aq [])=[]:=by unfold bn aq;simp
theorem Ev.track {c:HX}{H0 H:Hp}{x:Addr}{B:HA}{st:bX}(e:Ev c H0 H x B st){y:Addr}(h:H y=none):y∉B.fp:=fun z=>by
 obtain⟨o,q⟩:=e.hall.tracked z;rw[h]at q;cases q
inductive ul (vs:List V) (H:Hp) (Q:VK) (E_:XK):Prop
 | mk (dr m c:Int) (h_0:vs=[.int dr,.int m,.int c]) (h_1:(0<=dr/\dr<=100000)) (h_2:(2<=m/\m<=40)) (h_3:∀ (t:Addr)(d:aX),H t=none->(∀ g∈names d,g∈bc 40 c)->Q (.ref t) (upd H t (ca d))):ul vs H Q E_
inductive uk (vs:List V) (H:Hp) (Q:VK) (E_:XK):Prop
 | mk (c:Int) (h_0:vs=[.int c]) (h_1:∀ m:Int,2<=m/\m<=40->Q (.int m) H):uk vs H Q E_
theorem BH {k c:Int}(h:0<=k/\k<40):d7 k c∈bc 40 c:=by
 unfold bc;rw[MF];exact⟨k.toNat,Nd.mpr (by omega),by rw[On h.1]⟩
theorem uS {H:Hp}{l t:Addr}{as:List Addr}{ds:List aX}(hl:H l=some (.lst (as.map V.ref)))(hp:Paired (fun a x=>H a=some (ca x)) as ds)(ht:H t=none)(d:aX):bZ (upd (upd H t (ca d)) l (.lst (as.map V.ref++[.ref t]))) l (ds++[d]):=by
 have tl:t≠l:=fun z=>by rw[z,hl]at ht;cases ht
 refine⟨as++[t],by rw[ac,Mr];rfl,aJ (Paired.mapP hp fun b y e=>?_) (.cons (by rw[af tl,ac]) .nil)⟩;obtain⟨xs,ex⟩:=eO y;rw[af (fun z=>by rw[z,hl,ex]at e;cases e),af (aj e ht)];exact e
inductive uw (C:Addr) (vs:List V) (H:Hp) (Q:VK) (E_:XK):Prop
 | mk (p:Addr) (A:HA) (st:bX) (h_0:vs=[.ref p]) (h_1:aM C H p A st) (h_2:∀ (l:Addr)(H':Hp),H l=none->ax H H'->bZ H' l st.deeds->Q (.ref l) H'):uw C vs H Q E_
theorem gB {a b x y:Int}:bx x y=bx a b↔(x=a/\y=b)\/(x=b/\y=a):=by
 unfold bx
 by_cases h1:y<x<;>by_cases h2:b<a
 ·rw[Mi h1,Mi h2,Prod.mk.injEq];omega
 ·rw[Mi h1,Mg h2,Prod.mk.injEq];omega
 ·rw[Mg h1,Mi h2,Prod.mk.injEq];omega
 ·rw[Mg h1,Mg h2,Prod.mk.injEq];omega
theorem vd {ml:List (Int×Int)}{p q:Int×Int}:q∈pQ ml p↔q∈ml\/q=p:=by
 unfold pQ;split
 ·rename_i h
  constructor
  ·exact .inl
  ·rintro (z | z)
   ·exact z
   ·rw[z];exact h
 ·simp
def jv (st:bX)(ml:List (Int×Int)):Prop:=∀ a b,cY st.circ a b=k7 ml a b
theorem zQ:jv ⟨[],[],[],[]⟩ []:=fun a b=>by unfold cY k7;simp[dG]
def oH (st:bX)(ml:List (Int×Int))(d:aX):List (Int×Int):=if ba st d=.done then oW ml d else ml
theorem Bx {st:bX}{ml:List (Int×Int)}{d:aX}(h:jv st ml):jv (cO st d) (oH st ml d):=by
 unfold cO oH
 by_cases hd:ba st d=.done
 ·rw[Mi hd,Mi hd]
  cases d with
  | come g=>exact h
  | go g=>exact h
  | exch a b =>
   intro x y
   show cY (cr (cr st.circ a b) b a) x y=k7 (pQ ml (bx a b)) x y
   rw[yB,h x y];unfold k7
   have e:decide (bx x y∈pQ ml (bx a b))=(decide (bx x y∈ml)||decide ((x=a/\y=b)\/(x=b/\y=a))):=by
    rw[<-Bool.decide_or]
    congr 1
    rw[vd,gB]
   rw[e,Bool.decide_or,Bool.decide_and,Bool.decide_and,Bool.or_assoc]
 ·rw[Mg hd,Mg hd];exact h
theorem u9 {st:bX}{ml:List (Int×Int)}(h:jv st ml)(d:aX):cv st.worn (k7 ml) d=ba st d:=by rw[Ha];exact yu (fun a b=>(h a b).symm) d
structure Sz (n:Nat)(st:bX):Prop where
 c:st.circ.length<=2*n
 k:∀ x∈st.circ,x.2.length<=2*n
 d:st.deeds.length<=n
theorem LU:Sz 0 ⟨[],[],[],[]⟩:=⟨Mn _,(fun x hx=>nomatch hx),Mn _⟩
theorem Dm {n:Nat}{st:bX}(h:Sz n st)(d:aX):Sz (n+1) (cO st d):=by
 have keep:Sz (n+1) st:=⟨by have:=h.c;omega,fun x hx=>by have:=h.k x hx;omega,by have:=h.d;omega⟩;refine⟨?_,?_,by have:=B6 st d;have:=h.d;omega⟩
 ·unfold cO
  split
  ·cases d with
   | come g=>exact keep.c
   | go g=>exact keep.c
   | exch a b =>
    show (cr (cr st.circ a b) b a).length<=_
    have:=qc (cr st.circ a b) b a;have:=qc st.circ a b;have:=h.c;omega
  ·exact keep.c
 ·unfold cO
  split
  ·cases d with
   | come g=>exact keep.k
   | go g=>exact keep.k
   | exch a b =>
    intro x hx;have:=uQ (n:=2*n+1) (uQ (n:=2*n) (a:=a) (b:=b) h.k (by omega)) (by omega) x hx;omega
  ·exact keep.k
theorem GX {L:List Int}{n:Nat}{st:bX}(G:dZ st)(o:Of L st)(hL:L.length<=100)(z:Sz n st)(hn:n<=400):Bs st:=by
 have:=rD G o;exact Ev.fits (by omega) (by omega) (by have:=z.c;omega) (fun x hx=>by have:=z.k x hx;omega) (by have:=z.d;omega)
def LZ (ds:List aX):Dt:=.sq false (ds.map fun d=>Kv (d6 d))
theorem DG (d:aX):∀ x∈d6 d,lU x=true:=by
 cases d<;>(intro x hx;simp[d6,names]at hx)
 ·rcases hx with rfl | rfl<;>rfl
 ·rcases hx with rfl | rfl<;>rfl
 ·rcases hx with rfl | rfl | rfl<;>rfl
theorem AY {K:PySem.W.Frag}{H:Hp}{l:Addr}{ds:List aX}(h:bZ H l ds):RD K H 2 (.ref l) (LZ ds):=by
 obtain⟨as,hl,hp⟩:=h;refine RD.lst (aW.of hl) ?_;clear hl
 induction hp with
 | nil=>exact .nil
 | cons e _ ih =>
  rename_i a d _ _ _
  refine .cons ?_ ih;rw[pU]at e;refine RD.tup (eZ.of e) ?_;have hf:=DG d;generalize d6 d=xs at hf;clear e ih
  induction xs with
  | nil=>exact .nil
  | cons n r ih2=>exact .cons (RD.flat (hf n Mm) 0) (ih2 fun x hx=>hf x (Mh _ hx))
theorem DH {H:Hp}{l t:Addr}{as:List Addr}{ds:List aX}{d:aX}(hl:H l=some (.lst (as.map V.ref)))(hp:Paired (fun a x=>H a=some (ca x)) as ds)(ht:H t=some (ca d)):bZ (upd H l (.lst (as.map V.ref++[.ref t]))) l (ds++[d]):=by
 have nt:∀ b y,H b=some (ca y)->b≠l:=fun b y e z=>by obtain⟨xs,ex⟩:=eO y;rw[z,hl,ex]at e;cases e
 refine⟨as++[t],by rw[ac,Mr];rfl,aJ (Paired.mapP hp fun b y e=>?_) (.cons (by rw[af (nt t d ht)];exact ht) .nil)⟩;rw[af (nt b y e)];exact e
theorem Hh (st:bX)(d:aX):(cO st d).deeds=if ba st d=.done then st.deeds++[d] else st.deeds:=by
 unfold cO;split
 ·cases d<;>rfl
 ·rfl
theorem db {m c g:Int}(h:g∈bc m c):bj g:=by
 unfold bc at h;obtain⟨k,_,rfl⟩:=MF.mp h;exact q8 _ _
theorem zV {xs:List V}(n:Nat):gR xs none (some (n:Int))=xs.take n:=by
 unfold gR;rw[HT.sIx_none,HT.sIx_nat,List.drop_zero,Nat.sub_zero]
 by_cases h:n<=xs.length
 ·rw[Nat.min_eq_left h]
 ·rw[Nat.min_eq_right (by omega),Nb (Mn _),Nb (by omega)]
end Wz
namespace L2
open PySem PySem.Spec PyProof.Rows
theorem vL {X:Cx}{P:Program}{w:World}:fY (ju P w) X (fun _ _ _=>False):=by
 intro pins σ H s e s' I hc;obtain⟨ea,C,od,H',B,rfl,fl,un,hok,os,bare,hsB,trB,hE⟩:=hc;exact hE.elim
def Cx.tried (X:Cx)(pins:List (Addr×Obj))(E:Value->Shared->Prop):Cx:={ X with xe:=E,pn:=X.pn++pins }
theorem aK.tried {X:Cx}{pins:List (Addr×Obj)}{σ:St}{H:Hp}{s:Shared}{E:Value->Shared->Prop}(I:aK X pins σ H s):aK (X.tried pins E) [] σ H s :=
 ⟨⟨I.ok.mod,I.ok.kind,I.ok.glob,I.ok.blt,I.ok.above,I.ok.inj,I.ok.has,I.ok.cab,I.ok.hd,I.ok.frames,I.ok.stk,I.ok.exf,I.ok.bs,I.ok.bsz,I.ok.noex,I.ok.exfs,I.ok.funs,I.ok.frf⟩,I.os,I.bare,I.base,I.loc,I.cell,I.free,I.freeC,fun p hp=>I.pin p (by
  have hp:p∈(X.pn++pins)++[]:=hp
  rwa [NQ]at hp),I.hok,I.len⟩
theorem aK.untried {X:Cx}{pins qins:List (Addr×Obj)}{σ:St}{H:Hp}{s:Shared}{E:Value->Shared->Prop}(I:aK (X.tried pins E) qins σ H s):aK X pins σ H s :=
 ⟨⟨I.ok.mod,I.ok.kind,I.ok.glob,I.ok.blt,I.ok.above,I.ok.inj,I.ok.has,I.ok.cab,I.ok.hd,I.ok.frames,I.ok.stk,I.ok.exf,I.ok.bs,I.ok.bsz,I.ok.noex,I.ok.exfs,I.ok.funs,I.ok.frf⟩,I.os,I.bare,I.base,I.loc,I.cell,I.free,I.freeC,fun p hp=>I.pin p (by
  show p∈(X.pn++pins)++qins
  exact Nk _ hp),I.hok,I.len⟩
def JJ (d:Addr)(o:Obj)(kvs:List (cf×V)):It :=
 ⟨fun i H=>H d=some (.frz o (.dK kvs))/\i<kvs.length,fun i H x H'=>H'=H/\∃ p,kvs[i]? = some p/\x=kV p.1,fun i H=>H d=some (.frz o (.dK kvs))/\kvs.length<=i⟩
theorem uc {P:Program}{w:World}{H:Hp}{h:Heap}{d:Addr}{o:Obj}{kvs:List (cf×V)}{ep:Nat}(hep:∀ es ep',o.data=.dict es ep'->ep'=ep)(x:bD P w H h d (.frz o (.dK kvs))):(d == sysModules)=false/\∃ vs,KV kvs vs/\h.DictAt (bz P w) d vs ep:=by
 obtain⟨hg,hz,lo,vs,rel,dd⟩:=x;obtain⟨ep',hat⟩:=dd.dictAt;refine⟨lo,vs,rel,?_⟩;obtain⟨od,es,hod,hcd,hdd,r⟩:=id hat;rw[hg]at hod;cases hod;rw[<-hep _ _ hdd];exact hat
theorem EG {P:Program}{w:World}{K:PySem.W.Frag}{tg:Expr}(d it:Addr)(o:Obj)(kvs:List (cf×V))(ep:Nat)(hep:∀ es ep',o.data=.dict es ep'->ep'=ep):zO P w K tg (JJ d o kvs) [it] it (fun i h=>h.IsKeyIter it d i kvs.length ep) where
 mem:=by simp
 obj:=fun i h st b hb=>by
  have e:b=it:=by simpa using hb
  subst e;obtain⟨o,e,c,d⟩:=st;exact⟨o,e,fun v z=>by rw[d]at z;cases z⟩
 keep:=fun i h h' st k=>st.at fun o e=>k it (by simp) o e
 item:=by
  intro X hP hw hK hc i pins s σ H E I hf st hg;subst hP hw hK;obtain⟨hH,hi⟩:=hg;obtain⟨lo,vs,rel,hat⟩:=uc hep (I.hok d _ hH);obtain⟨f0,f1,f2,f3,f4,f5⟩:=hf it (by simp);have hl:kvs.length=vs.length:=Mo rel;obtain⟨p,hp⟩:∃ p,kvs[i]? = some p:=⟨kvs[i],by simp[hi]⟩;obtain⟨q,hq⟩:∃ q,vs[i]? = some q:=⟨vs[i]'(by omega),by simp[show i<vs.length by omega]⟩;obtain⟨k,v⟩:=q
  have ek:p.1=k:=by
   have e1:(kvs.map (·.1))[i]? = some p.1:=by rw[List.getElem?_map,hp];rfl
   rw[rel.keys,List.getElem?_map,hq]at e1;exact (Mu e1).symm
  rw[hl]at st;refine wpAny_pyNext_dict_item (knd:=bz X.prog X.w) st hat hq fun key h' hk st' sb=>?_;have I1:aK X pins σ H { s with heap:=h' }:=I.turned (t':=s.toks) (fun b o hb e=>(sb.2 b hb).trans e) f0 f1 f3 f4 f5;obtain⟨o2,e,c,d2⟩:=id st';refine⟨key,rfl,z5 (s:={ s with heap:=h' }) e c d2 (by decide) ⟨kV k,H,I1,?_,⟨rfl,p,hp,by rw[ek]⟩,by rw[hl];exact st',fun b hb=>(hf b hb).1⟩⟩;rcases bU (k:=k) (v:=key) hk with ⟨j,t,ej,ev⟩ | ⟨j,t,ej,ev⟩
  ·subst ej;exact⟨t,ev⟩
  ·subst ej;exact⟨t,ev⟩
 done:=by
  intro X hP hw hK hc i pins s σ H E I hf st hg;subst hP hw hK;obtain⟨hH,hi⟩:=hg;obtain⟨lo,vs,rel,hat⟩:=uc hep (I.hok d _ hH);have hl:kvs.length=vs.length:=Mo rel;obtain⟨f0,f1,f2,f3,f4,f5⟩:=hf it (by simp);rw[hl]at st;exact wpAny_pyNext_dict_end (knd:=bz X.prog X.w) (I.ok.hd hc) st hat (by simp;omega) fun h' eb=>⟨rfl,I.turned (t':=s.toks) (fun b o hb e=>eb b o hb e) f0 f1 f3 f4 f5⟩
 self:=fun _ _ _ _ _ st h=>wpAny_pyIter_keyiter st h
def JZ (tl:TE):TI:=fun σ H R=>tl σ H fun x H1=>∃ d kvs,x=.ref d/\H1 d=some (.dK kvs)/\∀ o:Obj,R (JJ d o kvs) (upd H1 d (.frz o (.dK kvs)))
theorem Hr {X:Cx}{tg l:Expr}{tl:TE}(hl:PE X l tl):PI X tg l (JZ tl):=by
 intro pins s σ H R I h;refine bH (hl pins s σ H _ I h) fun v s1 ⟨x,H1,I1,r1,q1⟩=>?_;obtain⟨d,kvs,e,hH,q⟩:=q1;subst e;cases r1;obtain⟨hz,lo,vs,rel,dd⟩:=(show bD X.prog X.w H1 s1.heap d (.dK kvs) from I1.hok d _ hH);obtain⟨ep,hat⟩:=dd.dictAt;obtain⟨o,es,ho,hc,hdat,r⟩:=id hat;have hl2:kvs.length=vs.length:=Mo rel;refine wpAny_pyIter_dict (knd:=bz X.prog X.w) lo hat ?_;have I2:aK X pins σ (upd H1 d (.frz o (.dK kvs))) { s1 with heap:=s1.heap,toks:=s1.toks }:=I1.write (by rw[hH];trivial) (.inl rfl) (fun b u _ e=>e) ⟨_,ho⟩ ⟨ho,hz,lo,vs,rel,dd⟩;refine⟨s1.heap.objs.size,[s1.heap.objs.size],_,_,_,rfl,I2.kept (t':=s1.toks) fun b o e=>Heap.get?_push_of_some _ e,EG d _ o kvs ep (fun es' ep' e=>?_),⟨_,Heap.get?_push_size _ rfl,rfl,by rw[hl2];rfl⟩,fun b hb=>?_,q o⟩
 ·rw[hdat]at e;cases e;rfl
 ·have e:b=s1.heap.objs.size:=by simpa using hb
  subst e;exact I2.fpOk (Mn _) (I2.hok.fresh (Mn _))
theorem Fc {d:Addr}{o:Obj}{kvs:List (cf×V)}{g:TG}{tb:TS}{D:kY}{σ:St}{H:Hp}(Pv:Nat->St->Hp->Prop)(h0:Pv 0 σ H)(hl:∀ i σ H,i<=kvs.length->Pv i σ H->H d=some (.frz o (.dK kvs)))
  (hs:∀ i p σ H,kvs[i]? = some p->Pv i σ H->g (kV p.1) σ H fun σ2 H2=>tb { D with nx:=Pv (i+1),ct:=Pv (i+1),bk:=D.nx } σ2 H2) (hd:∀ σ H,Pv kvs.length σ H->D.nx σ H) :
  ∃ W:Nat->Nat->St->Hp->Prop,(∃ m,W 0 m σ H)/\∀ i m σ H,W i m σ H ->
   ((JJ d o kvs).stop i H/\D.nx σ H)\/((JJ d o kvs).go i H/\∃ N:St->Hp->Prop,(∀ σ' H',N σ' H'->∃ m',m'<m/\W (i+1) m' σ' H')/\∀ x H',(JJ d o kvs).yld i H x H'->g x σ H' fun σ2 H2=>tb { D with nx:=N,ct:=N,bk:=D.nx } σ2 H2):=by
 refine⟨fun i m σ H=>m=kvs.length-i/\i<=kvs.length/\Pv i σ H,⟨kvs.length,by simp,MD _,h0⟩,?_⟩;rintro i m σ H ⟨rfl,hi,p⟩;have q:=hl i σ H hi p
 by_cases hlt:i<kvs.length
 ·refine .inr ⟨⟨q,hlt⟩,Pv (i+1),fun σ' H' p'=>⟨kvs.length-(i+1),by omega,rfl,hlt,p'⟩,fun x H' y=>?_⟩
  obtain⟨e,p2,hp,ex⟩:=y;subst e ex;exact hs i p2 σ _ hp p
 ·have e:i=kvs.length:=by omega
  subst e;exact .inl ⟨⟨q,Mn _⟩,hd σ H p⟩
def Kf (K:PySem.W.Frag)(n:Nat):R2:=fun x y H Q=>LS x y H Q\/Ji K n true x y H Q
theorem IX {X:Cx}(n:Nat)(hu:X.A.units+n<cLine):sR X (compareOp .NotEq) (Kf X.K n):=by
 intro pins s σ H x y v u Q I rx ry h;rcases h with h | h
 ·exact iE pins s σ H x y v u Q I rx ry h
 ·exact vJ n hu pins s σ H x y v u Q I rx ry h
end L2
namespace Wz
open PySem L2
def az (ds:List aX):bX:=ds.foldl after ⟨[],[],[],[]⟩
theorem iw (ds:List aX)(d:aX):az (ds++[d])=after (az ds) d:=by unfold az;rw[M0];rfl
def bW (ds:List aX):Prop:=∀ i d,ds[i]? = some d->ba (az (ds.take i)) d=.done
theorem zX:bW []:=fun i d h=>by simp at h
theorem cj {ds:List aX}{d:aX}(h:bW ds)(hd:ba (az ds) d=.done):bW (ds++[d]):=by
 intro i e he
 by_cases hi:i<ds.length
 ·rw[List.getElem?_append_left hi]at he
  rw[List.take_append_of_le_length (by omega)];exact h i e he
 ·have hl:=(List.getElem?_eq_some_iff.mp he).1
  rw[Mj,MU]at hl
  have e1:i=ds.length:=by omega
  subst e1;simp at he;subst he;simpa using hd
theorem zP (st:bX)(d:aX):(after st d).deeds=st.deeds++[d]:=by cases d<;>rfl
structure yc (H0 H:Hp)(w m ls:Addr)(st:bX)(ml:List (Int×Int)):Prop where
 hw:H w=some (.dK (dk st.worn))
 hm:H m=some (.dT (rq ml))
 hs:bZ H ls st.deeds
 w0:H0 w=none
 m0:H0 m=none
 s0:H0 ls=none
theorem yc.on {H0 H H':Hp}{w m ls:Addr}{st:bX}{ml:List (Int×Int)}(e:yc H0 H w m ls st ml)(s:ax H H'):yc H0 H' w m ls st ml:=⟨s _ _ e.hw,s _ _ e.hm,cJ e.hs s,e.w0,e.m0,e.s0⟩
theorem yc.ws {H0 H:Hp}{w m ls:Addr}{st:bX}{ml:List (Int×Int)}(e:yc H0 H w m ls st ml):w≠ls:=by obtain⟨as,h,_⟩:=e.hs;exact bE e.hw h (by intro z;cases z)
theorem yc.ms {H0 H:Hp}{w m ls:Addr}{st:bX}{ml:List (Int×Int)}(e:yc H0 H w m ls st ml):m≠ls:=by obtain⟨as,h,_⟩:=e.hs;exact bE e.hm h (by intro z;cases z)
theorem yc.done {H0 H H1:Hp}{w m ls:Addr}{st:bX}{ml:List (Int×Int)}{d:aX}(e:yc H0 H w m ls st ml)(hj:ba st d=.done)
  (h1:H1 w=some (.dK (dk (ye st.worn d)))) (h2:H1 m=some (.dT (rq (oW ml d)))) (k:∀ b o,H b=some o->b≠w->b≠m->H1 b=some o)
  {as:List Addr} (hl:H ls=some (.lst (as.map V.ref))) (hp:Paired (fun a x=>H a=some (ca x)) as st.deeds) {t:Addr} (ht:H t=some (ca d)) :
  yc H0 (upd H1 ls (.lst (as.map V.ref++[.ref t]))) w m ls (cO st d) (oH st ml d)/\H1 ls=some (.lst (as.map V.ref)):=by
 have nt:∀ b y,H b=some (ca y)->b≠w/\b≠m:=fun b y q=>by
  obtain⟨xs,ex⟩:=eO y;rw[ex]at q;exact⟨bE q e.hw (by intro z;cases z),bE q e.hm (by intro z;cases z)⟩
 have hl1:=k _ _ hl (ME e.ws) (ME e.ms);have d1:bZ (upd H1 ls (.lst (as.map V.ref++[.ref t]))) ls (st.deeds++[d]):=DH hl1 (Paired.mapP hp fun b y q=>k _ _ q (nt b y q).1 (nt b y q).2) (k _ _ ht (nt t d ht).1 (nt t d ht).2);refine⟨⟨?_,?_,?_,e.w0,e.m0,e.s0⟩,hl1⟩
 ·rw[af e.ws,D5,Mi hj];exact h1
 ·rw[af e.ms];unfold oH;rw[Mi hj];exact h2
 ·rw[Hh,Mi hj];exact d1
theorem sZ:∀ {l:List (Int×Int)}{g m:Int},(aq l).Nodup->(g,m)∈l->look l g=some m
 | p::l,g,m,nd,h=>by
  unfold aq at nd;rw[MQ,MN]at nd;unfold look;rcases Ms.mp h with z | z
  ·rw[<-z,Mi rfl]
  ·rw[Mg (fun e=>nd.1 (by rw[e];exact List.mem_map_of_mem (f:=(·.1)) z))]
   exact sZ nd.2 z
end Wz
namespace L2
open PySem PySem.Spec PyProof.Rows
end L2
namespace Wz
open PySem L2
theorem Cu (l:List Int):(bn l).Pairwise (·<=·):=by
 have h1:(bn l).Pairwise (fun a b=>decide (a<=b)=true):=List.pairwise_mergeSort (by intro a b c;simp;omega) (by intro a b;simp;omega) l;exact h1.imp (by simp)
theorem gn (l:List Int):(bn l).Perm l:=Om l _
end Wz
namespace L2
open PySem PySem.Spec PyProof.Rows
theorem wF (elt t0 i0:Expr)(c0:List Expr)(t1 i1:Expr)(c1:List Expr)(scope:Scope)(pos:Pos)(it acc:Value)(env:Env) :
  compTurn (.ListComp elt [⟨t0,i0,c0,0⟩,⟨t1,i1,c1,0⟩] scope pos) 0 it acc env=(do
   standAt i0.pos
   match <-pyNext it with
   | none=>pure (.done .next)
   | some v =>
    letOwnedTupleGo t0 it v
    assign t0 env v
    let mut ok:=true
    for c in c0 do
     if ok then ok <-isTrue c env (eval c env)
    if ok then
     let x <-eval i1 env
     standAt i1.pos
     let x <-foldedSetIterable i1 env x
     let it1 <-holding [x] (pyIter x)
     let _ <-runOwn (.compStart (.ListComp elt [⟨t0,i0,c0,0⟩,⟨t1,i1,c1,0⟩] scope pos) 1 it1 acc env) env
     again (.compLoop (.ListComp elt [⟨t0,i0,c0,0⟩,⟨t1,i1,c1,0⟩] scope pos) 0 it acc env)
    else
     again (.compLoop (.ListComp elt [⟨t0,i0,c0,0⟩,⟨t1,i1,c1,0⟩] scope pos) 0 it acc env)):=by rfl
theorem wG (elt t0 i0:Expr)(c0:List Expr)(t1 i1:Expr)(c1:List Expr)(scope:Scope)(pos:Pos)(it acc:Value)(env:Env) :
  compTurn (.ListComp elt [⟨t0,i0,c0,0⟩,⟨t1,i1,c1,0⟩] scope pos) 1 it acc env=(do
   standAt i1.pos
   match <-pyNext it with
   | none=>pure (.done .next)
   | some v =>
    letOwnedTupleGo t1 it v
    assign t1 env v
    let mut ok:=true
    for c in c1 do
     if ok then ok <-isTrue c env (eval c env)
    if ok then
     (do let _ <-call (.builtin "list.append") [acc,<-eval elt env])
    again (.compLoop (.ListComp elt [⟨t0,i0,c0,0⟩,⟨t1,i1,c1,0⟩] scope pos) 1 it acc env)):=by rfl
section
variable {prog:Program}{w:World}{A:Around}{R:Result->Shared->Prop}{s:Shared}{elt t0 i0 t1 i1:Expr}{c0 c1:List Expr}{scope:Scope}{pos:Pos}{it acc:Value}{env:Env}
theorem n6 (I:Nat->Shared->Prop)
  (turn:∀ n s,I n s->wpAny (model prog w) A (pyNext it) (fun r s₁=>match r with
   | none=>R (.ok .next) s₁
   | some v=>wpAny (model prog w) A (letOwnedTupleGo t1 it v) (fun _ s₁'=>wpAny (model prog w) A (assign t1 env v) (fun _ s₂ =>
     wpAny (model prog w) A (forIn c1 true fun c r=>if r=true then do let ok <-isTrue c env (eval c env);pure (ForInStep.yield ok) else pure (ForInStep.yield r)) (fun ok s₃ =>
      if ok=true then wpAny (model prog w) A (eval elt env) (fun x s₄ =>
       wpAny (model prog w) A (call (.builtin "list.append") [acc,x]) (fun _ s₅=>∃ m,m<n/\I m s₅) (fun _ _=>False) s₄) (fun _ _=>False) s₃
      else ∃ m,m<n/\I m s₃) (fun _ _=>False) s₂) (fun _ _=>False) s₁') (fun _ _=>False) s₁) (fun _ _=>False) s)
  (n:Nat) (h:I n s) :
  codeAny (model prog w) A (.compLoop (.ListComp elt [⟨t0,i0,c0,0⟩,⟨t1,i1,c1,0⟩] scope pos) 1 it acc env) R s:=by
 refine codeAny_loop rfl I (fun n s hI=>?_) n h
 show wpAny _ A ((compTurn (.ListComp elt [⟨t0,i0,c0,0⟩,⟨t1,i1,c1,0⟩] scope pos) 1 it acc env).onRaise (fun x=>do noteFrame x env;theTreesLotGoes x)) _ _ s
 refine wpAny_noted ?_;rw[wG];refine Mf (NB (Mf (MP (turn n s hI) (fun r s₁ h₁=>?_) fun _ _ h'=>h'.elim)))
 cases r with
 | none=>exact Mq h₁
 | some v =>
  refine Mf (MP h₁ (fun _ s₁' h₁'=>?_) fun _ _ h'=>h'.elim);refine Mf (MP h₁' (fun _ s₂ h₂=>Mf (MP h₂ (fun ok s₃ h₃=>?_) fun _ _ h'=>h'.elim)) fun _ _ h'=>h'.elim)
  cases ok with
  | false=>exact Mq ⟨rfl,h₃⟩
  | true =>
   exact Mf (Mf (MP h₃ (fun x s₄ h₄=>Mf (MP h₄ (fun _ s₅ h₅=>Mq (Mq ⟨rfl,h₅⟩)) fun _ _ h'=>h'.elim)) fun _ _ h'=>h'.elim))
theorem lS (hs:∀ x,foldedSetIterable i1 env x=pure x)(I:Nat->Shared->Prop)
  (turn:∀ n s,I n s->wpAny (model prog w) A (pyNext it) (fun r s₁=>match r with
   | none=>R (.ok .next) s₁
   | some v=>wpAny (model prog w) A (letOwnedTupleGo t0 it v) (fun _ s₁'=>wpAny (model prog w) A (assign t0 env v) (fun _ s₂ =>
     wpAny (model prog w) A (forIn c0 true fun c r=>if r=true then do let ok <-isTrue c env (eval c env);pure (ForInStep.yield ok) else pure (ForInStep.yield r)) (fun ok s₃ =>
      if ok=true then wpAny (model prog w) A (eval i1 env) (fun x s₄ =>
       wpAny (model prog w) A (pyIter x) (fun it1 s₅=>codeAny (model prog w) A (.compStart (.ListComp elt [⟨t0,i0,c0,0⟩,⟨t1,i1,c1,0⟩] scope pos) 1 it1 acc env) (fun r s₆=>r=.ok .next/\∃ m,m<n/\I m s₆) s₅) (fun _ _=>False) s₄) (fun _ _=>False) s₃
      else ∃ m,m<n/\I m s₃) (fun _ _=>False) s₂) (fun _ _=>False) s₁') (fun _ _=>False) s₁) (fun _ _=>False) s)
  (n:Nat) (h:I n s) :
  codeAny (model prog w) A (.compLoop (.ListComp elt [⟨t0,i0,c0,0⟩,⟨t1,i1,c1,0⟩] scope pos) 0 it acc env) R s:=by
 refine codeAny_loop rfl I (fun n s hI=>?_) n h
 show wpAny _ A ((compTurn (.ListComp elt [⟨t0,i0,c0,0⟩,⟨t1,i1,c1,0⟩] scope pos) 0 it acc env).onRaise (fun x=>do noteFrame x env;theTreesLotGoes x)) _ _ s
 refine wpAny_noted ?_;rw[wF];refine Mf (NB (Mf (MP (turn n s hI) (fun r s₁ h₁=>?_) fun _ _ h'=>h'.elim)))
 cases r with
 | none=>exact Mq h₁
 | some v =>
  refine Mf (MP h₁ (fun _ s₁' h₁'=>?_) fun _ _ h'=>h'.elim);refine Mf (MP h₁' (fun _ s₂ h₂=>Mf (MP h₂ (fun ok s₃ h₃=>?_) fun _ _ h'=>h'.elim)) fun _ _ h'=>h'.elim)
  cases ok with
  | false=>exact Mq ⟨rfl,h₃⟩
  | true =>
   refine Mf (MP h₃ (fun x s₄ h₄=>?_) fun _ _ h'=>h'.elim);refine Mf (NB (Mf (wpAny_of_eq (hs x) ?_)));refine Mf (NA (MP h₄ (fun it1 s₅ h₅=>?_) fun _ _ h'=>h'.elim));refine Mf (wpAny_runOwn (Oa h₅ fun r s₆ h₆=>?_));obtain⟨rfl,h₆⟩:=h₆;exact Mq ⟨rfl,h₆⟩
theorem lT
  (h0:codeAny (model prog w) A (.compLoop (.ListComp elt [⟨t0,i0,c0,0⟩,⟨t1,i1,c1,0⟩] scope pos) 1 it acc env) R s)
  (h:wpAny (model prog w) A (pyIter it) (fun it' s'=>codeAny (model prog w) A (.compLoop (.ListComp elt [⟨t0,i0,c0,0⟩,⟨t1,i1,c1,0⟩] scope pos) 1 it' acc env) R s')
   (notedBy (model prog w) A env fun x s'=>R (.error x) s') s) :
  codeAny (model prog w) A (.compStart (.ListComp elt [⟨t0,i0,c0,0⟩,⟨t1,i1,c1,0⟩] scope pos) 1 it acc env) R s:=by
 refine codeAny_of_tree ?_
 show wpAny _ _ ((compStart (.ListComp elt [⟨t0,i0,c0,0⟩,⟨t1,i1,c1,0⟩] scope pos) 1 it acc env).onRaise (fun x=>do noteFrame x env;standAt theWindowsPlace)) _ _ s
 refine wpAny_notedAt ?_;unfold compStart
 show wpAny _ _ (ask >>= _) _ _ s
 refine Mf (wpAny_askSetting (wpAny_ite ?_));split
 ·first
   | exact Mf (Mq (Mq (And.intro rfl h0)))
   | exact Mq (And.intro rfl h0)
 ·first
   | exact Mf (wpAny_rule (Mf (NB (Mf (MP h (fun it' s' h'=>Mq (And.intro rfl h')) fun _ _ x=>x)))))
   | (refine Mf (wpAny_rule ?_);show wpAny _ _ (standAt i1.pos >>= _) _ _ s;exact Mf (NB (Mf (MP h (fun it' s' h'=>Mq (And.intro rfl h')) fun _ _ x=>x))))
end
theorem BB {Y:Cx}{P:List (Addr×Obj)}{σ:St}{H:Hp}{s:Shared}{elt t0 i0 t1 i1:Expr}{c0 c1:List Expr}{sc:Scope}{pos:Pos}{it a:Addr}{fp:List Addr}{tn:Nat->Heap->Prop}{J:It}{g:TG}{tt:TT}{te:TE}{nx:St->Hp->Prop}{rt:VK}{bk ct:St->Hp->Prop}
  (hc:Y.calm=true) (hxe:Y.xe=fun _ _=>False) (I:aK Y P σ H s) (T:zO Y.prog Y.w Y.K t1 J fp it tn) (st:tn 0 s.heap) (f:∀ b∈fp,lK Y P H b) (hL:kT J g (EF tt te a) ⟨nx,rt,bk,ct⟩ σ H) (hg:PG Y t1 g) (ht:HQ Y c1 tt) (he:PE Y elt te) :
  codeAny (model Y.prog Y.w) Y.A (.compLoop (.ListComp elt [⟨t0,i0,c0,0⟩,⟨t1,i1,c1,0⟩] sc pos) 1 (.ref it) (.ref a) Y.env) (fun r s'=>r=.ok .next/\∃ σ' H',aK Y P σ' H' s'/\nx σ' H') s:=by
 obtain⟨W,⟨m0,w0⟩,turn⟩:=hL;have stat:∀ {H':Hp},(∀ b∈fp,H' b=none)->∀ b∈fp,lK Y P H' b:=fun {H'} hn b hb=>⟨hn b hb,(f b hb).2⟩;refine n6 (fun n s'=>∃ i σ' H',aK Y P σ' H' s'/\tn i s'.heap/\(∀ b∈fp,H' b=none)/\W i n σ' H') ?_ m0 ⟨0,_,_,I,st,fun b hb=>(f b hb).1,w0⟩;rintro n s6 ⟨i,σ6,H6,I6,st6,fr6,w6⟩;rcases turn i n σ6 H6 w6 with ⟨stop,qn⟩ | ⟨go,Nx,hN,step⟩
 ·refine bH (T.done Y rfl rfl rfl hc i P s6 σ6 H6 _ I6 (stat fr6) st6 stop) fun r s7 ⟨hr,I7⟩=>?_
  subst hr;exact⟨rfl,σ6,H6,I7,qn⟩
 ·refine bH (T.item Y rfl rfl rfl hc i P s6 σ6 H6 _ I6 (stat fr6) st6 go) fun r s7 ⟨u,hr,h7⟩=>?_
  subst hr;refine bH h7 fun _ s8 ⟨x,H8,I8,r8,y8,st8,fr8⟩=>?_;have I8':=I8.pinned (stat fr8) (T.obj _ _ st8);have hgx:=hg _ s8 σ6 H8 x u _ I8' r8 (step x H8 y8);rw[hxe]at hgx;refine bH hgx fun _ s9 ⟨σ9,H9,I9,q9⟩=>?_
  have again:∀ {s':Shared}{σ7:St}{H7:Hp},aK Y (P++jZ fp s8.heap) σ7 H7 s'->Nx σ7 H7->∃ m,m<n/\∃ i σ' H',aK Y P σ' H' s'/\tn i s'.heap/\(∀ b∈fp,H' b=none)/\W i m σ' H':=fun {s' σ7 H7} I7 n7=>by
   obtain⟨m',hm,w7⟩:=hN σ7 H7 n7;refine⟨m',hm,i+1,σ7,H7,I7.unpinned,T.keep _ _ _ st8 fun b hb o e=>(I7.pin (b,o) (MC _ (MC _ (b9 hb e)))).1,fun b hb=>?_,w7⟩;obtain⟨o,e,d⟩:=T.obj _ _ st8 b hb;exact (I7.pin (b,o) (MC _ (MC _ (b9 hb e)))).2.1
  have htx:=ht _ s9 σ9 H9 _ I9 q9;rw[hxe]at htx;refine bH htx fun ok s10 ⟨H10,I10,q10⟩=>?_
  cases ok with
  | false =>
   rw[Mg Mt]at q10 ⊢;exact again I10 q10
  | true =>
   rw[Mi rfl]at q10 ⊢;have hex:=he _ s10 σ9 H10 _ I10 q10;rw[hxe]at hex;refine bH hex fun y s11 ⟨yv,H11,I11,ry,ys,hys,hlen,q11⟩=>?_;exact bH (lQ (X:=Y) I11 hys hlen ry) fun _ s12 I12=>again I12 q11
def Jz (tt0:TT)(wi1:TI)(g1:TG)(tt1:TT)(te:TE)(a:Addr):TS:=fun D σ H=>tt0 σ H fun b H1=>if b=true then wi1 σ H1 fun J1 H2=>kT J1 g1 (EF tt1 te a) { nx:=D.nx,rt:=fun _ _=>False } σ H2 else D.nx σ H1
def Jo (wi:TI)(g0:TG)(tt0:TT)(wi1:TI)(g1:TG)(tt1:TT)(te:TE)(src:List (Option Nat)):TE:=fun σ H Q=>wi σ H fun J H1=>∀ a,H1 a=none ->
 kT J g0 (Jz tt0 wi1 g1 tt1 te a) { nx:=fun _ H'=>Q (.ref a) H',rt:=fun _ _=>False } (jS src σ) (upd H1 a (.lst []))
theorem FS {X:Cx}{elt tg iter t1 i1:Expr}{ifs c1:List Expr}{sc so:Scope}{pos:Pos}{N':List Str}{src:List (Option Nat)}{wi wi1:TI}{g g1:TG}{tt tt1:TT}{te:TE}{N:List Str}(hso:X.env.scope=so)(hXN:X.N=N)(S:xu so sc N N' src)(hc:X.calm=true)(hi:PI X tg iter wi)
  (hb:∀ (cl:List (Str×Addr))(C:Addr)(s:Shared)(H:Hp)(ex:List Addr),PG (cI X sc cl C N' s H ex) tg g/\HQ (cI X sc cl C N' s H ex) ifs tt/\PI (cI X sc cl C N' s H ex) t1 i1 wi1/\PG (cI X sc cl C N' s H ex) t1 g1/\HQ (cI X sc cl C N' s H ex) c1 tt1/\PE (cI X sc cl C N' s H ex) elt te)
  (hs:∀ x,foldedSetIterable iter X.env x=pure x:=by intro _;rfl) (hs1:∀ env x,foldedSetIterable i1 env x=pure x:=by intro _ _;rfl):PE X (.ListComp elt [⟨tg,iter,ifs,0⟩,⟨t1,i1,c1,0⟩] sc pos) (Jo wi g tt wi1 g1 tt1 te src):=by
 subst hXN;intro pins s σ H Q I h
 obtain⟨cl,hcl,q1,q3⟩:=jR (sc:=sc) (env:=X.env) fun y hy hf=>by
  have:=S.fre y hy hf;rw[<-hso]at this;exact I.ok.has y.1 this
 rw[eval_ListComp];refine wpAny_comprehension_free (use:=none) rfl hs hcl S.kind S.loc (bH (hi pins s σ H _ I h) fun v s1 h1=>bH h1 fun itv s2 h2=>?_);obtain⟨it,fp,tn,J,H2,e,I2,T,st2,f2,hR⟩:=h2;subst e;refine Ni ?_
 have I3:aK X pins σ (upd H2 s2.heap.objs.size (.lst [])) { s2 with heap:=s2.heap.push { cls:=.type "list",dict:=none,data:=.seq ([]:List Value).toArray } } :=
  I2.laid (t':=s2.toks) (fun b u q=>Heap.get?_push_of_some _ q) (Mn _) ⟨MD _,[],0,.nil,Heap.get?_push_size _ rfl⟩
 have hfr:=I2.hok.fresh (Mn s2.heap.objs.size);obtain⟨W,⟨m0,w0⟩,turn⟩:=hR _ hfr
 have flt:∀ b∈fp,b<s2.heap.objs.size:=fun b hb=>by obtain⟨o,e,_⟩:=T.obj _ _ st2 b hb;exact Mw e
 generalize hs3:({ s2 with heap:=s2.heap.push { cls:=.type "list",dict:=none,data:=.seq ([]:List Value).toArray } }:Shared)=s3 at I3 ⊢
 have e3:s3.heap=s2.heap.push { cls:=.type "list",dict:=none,data:=.seq ([]:List Value).toArray }:=by rw[<-hs3]
 have sz3:s3.heap.objs.size=s2.heap.objs.size+1:=by rw[e3,NW]
 have hf3:∀ b∈fp,lK X pins (upd H2 s2.heap.objs.size (.lst [])) b:=fun b hb=>⟨by rw[af (MB (flt b hb))];exact (f2 b hb).1,(f2 b hb).2⟩
 have flt3:∀ b∈fp,b<s3.heap.objs.size:=fun b hb=>by rw[sz3];exact NM (flt b hb)
 have st3:tn 0 s3.heap:=T.keep _ _ _ st2 fun b _ o e=>by rw[e3];exact Heap.get?_push_of_some _ e
 refine wpAny_newFunctionEnv S.nocell (by intro y hy;simp at hy) (fun h4 hns4 hsb4=>?_) S.kind;have kp4:∀ b o,s3.heap.get? b=some o->h4.get? b=some o:=fun b o e=>hsb4.extBut b o (MB (Mw e)) (Heap.get?_push_of_some _ e);have I4:=p0 (h':=h4) I3 hso S q1 q3 hf3 flt3 (by simpa using hns4) kp4 (s3.toks+([]:List (Str×Value)).length);have st4:tn 0 h4:=T.keep _ _ _ st3 fun b _ o e=>kp4 b o e;generalize hC:s3.heap.objs.size=C at I4 hns4 hsb4 ⊢;obtain⟨hg,ht,hi1,hg1,ht1,he⟩:=hb cl C s3 (upd H2 s2.heap.objs.size (.lst [])) fp
 let Y:Cx:=cI X sc cl C N' s3 (upd H2 s2.heap.objs.size (.lst [])) fp
 have loop:∀ s5:Shared,s5={ s3 with heap:=h4,toks:=s3.toks+([]:List (Str×Value)).length }->codeAny (model X.prog X.w) X.A (.compLoop (.ListComp elt [⟨tg,iter,ifs,0⟩,⟨t1,i1,c1,0⟩] sc pos) 0 (.ref it) (.ref s2.heap.objs.size) (compEnvC sc cl C X.env))
   (compPost (model X.prog X.w) X.A X.xe none (EP X pins σ Q) (.ref s2.heap.objs.size) C) s5:=by
  rintro s5 rfl
  have stat:∀ {H':Hp},(∀ b∈fp,H' b=none)->∀ b∈fp,lK Y [] H' b:=fun {H'} hn b hb=>by
   obtain⟨f0,f1,f2',f3,f4,f5⟩:=hf3 b hb;refine⟨hn b hb,?_,fun z=>?_,.inl hb,fun x c e=>f4 x c (q1 x c e),fun p hp=>absurd (show p∈([]:List (Addr×Obj)) from hp) (by simp)⟩
   ·show b≠C
    rw[<-hC];exact MB (flt3 b hb)
   ·have z:b∈jU X.stack:=z
    rcases Ms.mp (I3.stkSub b z) with y | y
    ·exact f1 y
    ·exact f2' y
  refine lS (fun x=>hs1 _ x) (fun n s'=>∃ i σ' H',aK Y [] σ' H' s'/\tn i s'.heap/\(∀ b∈fp,H' b=none)/\W i n σ' H') ?_ m0 ⟨0,_,_,I4,st4,fun b hb=>(hf3 b hb).1,w0⟩;rintro n s6 ⟨i,σ6,H6,I6,st6,fr6,w6⟩;rcases turn i n σ6 H6 w6 with ⟨stop,qn⟩ | ⟨go,Nx,hN,step⟩
  ·refine bH (T.done Y rfl rfl rfl hc i [] s6 σ6 H6 _ I6 (stat fr6) st6 stop) fun r s7 ⟨hr,I7⟩=>?_
   subst hr;obtain⟨m,hn,_⟩:=id I7.loc;refine⟨m,hn,fun h' hsb=>?_⟩
   have neC:∀ b o,s3.heap.get? b=some o->b≠C:=fun b o e=>by rw[<-hC];exact MB (Mw e)
   have freeC:H6 C=none:=I7.free
   have un:Un (jU X.stack) fp (upd H2 s2.heap.objs.size (.lst [])) H6 s3.heap h' :=
    ⟨fun b o e n hb hx=>(hsb.2 b (neC b o e)).trans (I7.base.keep b o e n hb hx),fun b o e n hb hx=>by
      obtain⟨sl,q⟩:=I7.base.slot b o e n hb hx
      exact⟨sl,(hsb.2 b (neC b o e)).trans q⟩,I7.base.free,fun b o e hx=>by
      obtain⟨o',q⟩:=I7.base.there b o e hx
      exact⟨o',(hsb.2 b (neC b o e)).trans q⟩,I7.base.tups,I7.base.frzs,I7.base.tbls⟩
   have hok:kS X.prog X.w H6 h':=fun b ob e=>by
    refine (I7.hok b ob e).stay (fun c w' hc' q=>(hsb.2 c ?_).trans q) (fun _ q=>q) fun _ _ q=>q;rintro rfl;rcases hc' with z | z
    ·rw[<-z,freeC]at e;cases e
    ·rw[freeC]at z;cases z
   have J7:aK X pins σ H6 { s7 with heap:=h' }:=I3.call' (ch:=fp) (s':={ s7 with heap:=h' }) I7.os un hok I7.bare fun b hb=>⟨(hf3 b hb).2.2.2.1,(hf3 b hb).2.1,(hf3 b hb).2.2.2.2.1,(hf3 b hb).2.2.2.2.2⟩;exact⟨.ref s2.heap.objs.size,H6,J7,rfl,qn⟩
  ·refine bH (T.item Y rfl rfl rfl hc i [] s6 σ6 H6 _ I6 (stat fr6) st6 go) fun r s7 ⟨u,hr,h7⟩=>?_
   subst hr;refine bH h7 fun _ s8 ⟨x,H8,I8,r8,y8,st8,fr8⟩=>?_;have I8':=I8.pinned (stat fr8) (T.obj _ _ st8);refine bH (hg _ s8 σ6 H8 x u _ I8' r8 (step x H8 y8)) fun _ s9 ⟨σ9,H9,I9,q9⟩=>?_
   have again:∀ {s':Shared}{σ7:St}{H7:Hp},aK Y ([]++jZ fp s8.heap) σ7 H7 s'->Nx σ7 H7->∃ m,m<n/\∃ i σ' H',aK Y [] σ' H' s'/\tn i s'.heap/\(∀ b∈fp,H' b=none)/\W i m σ' H':=fun {s' σ7 H7} I7 n7=>by
    obtain⟨m',hm,w7⟩:=hN σ7 H7 n7;refine⟨m',hm,i+1,σ7,H7,I7.unpinned,T.keep _ _ _ st8 fun b hb o e=>(I7.pin (b,o) (MC _ (MC _ (b9 hb e)))).1,fun b hb=>?_,w7⟩;obtain⟨o,e,d⟩:=T.obj _ _ st8 b hb;exact (I7.pin (b,o) (MC _ (MC _ (b9 hb e)))).2.1
   refine bH (ht _ s9 σ9 H9 _ I9 q9) fun ok s10 ⟨H10,I10,q10⟩=>?_
   cases ok with
   | false =>
    rw[Mg Mt]at q10 ⊢;exact again I10 q10
   | true =>
    rw[Mi rfl]at q10 ⊢;refine bH (hi1 _ s10 σ9 H10 _ I10 q10) fun x1 s11 h11=>bH h11 fun it1 s12 h12=>?_;obtain⟨ia,fp1,tn1,J1,H12,e1,I12,T1,st12,f12,hR1⟩:=h12;subst e1;have inner:=BB (Y:=Y) (t0:=tg) (i0:=iter) (c0:=ifs) (i1:=i1) (sc:=sc) (pos:=pos) hc rfl I12 T1 st12 f12 hR1 hg1 ht1 he;have inner':=Oa inner (R':=fun r s₆=>r=.ok .next/\∃ m,m<n/\∃ i σ' H',aK Y [] σ' H' s₆/\tn i s₆.heap/\(∀ b∈fp,H' b=none)/\W i m σ' H') fun r s6 ⟨er,σ7,H7,I7,n7⟩=>⟨er,again I7 n7⟩;exact lT inner' (T1.self _ 0 _ _ _ st12 inner')
 exact codeAny_compStart_list (loop _ rfl) (T.self _ 0 _ _ _ st4 (loop _ rfl))
end L2
namespace Qs
open PySem PySem.W PyProof.Rows
structure ER (n:Nat)(lt:Nat->Nat->Bool):Prop where
 irr:∀ i,lt i i=false
 tot:∀ i j,i<n->j<n->i≠j->lt i j=true\/lt j i=true
 tr:∀ i j k,lt i j=true->lt j k=true->lt i k=true
def ask {α:Type}(lt:Nat->Nat->Bool):KasT α->α
 | .ret a=>a
 | .ask i j k=>ask lt (k (lt i j))
def JD {α:Type}(n:Nat)(lt:Nat->Nat->Bool):KasT α->Prop
 | .ret _=>True
 | .ask i j k=>i<n/\j<n/\JD n lt (k (lt i j))
theorem zR {α β:Type}{lt:Nat->Nat->Bool}{f:α->KasT β}:∀ t:KasT α,ask lt (t.bind f)=ask lt (f (ask lt t))
 | .ret _=>rfl
 | .ask i j k=>zR (k (lt i j))
theorem AO {α β:Type}{n:Nat}{lt:Nat->Nat->Bool}{f:α->KasT β}:∀ t:KasT α,JD n lt t->JD n lt (f (ask lt t))->JD n lt (t.bind f)
 | .ret _,_,h=>h
 | .ask i j k,⟨h1,h2,h3⟩,h=>⟨h1,h2,AO (k (lt i j)) h3 h⟩
def Bn {α:Type}(n:Nat)(lt:Nat->Nat->Bool)(t:KasT α)(R:α->Prop):Prop:=JD n lt t/\R (ask lt t)
theorem mG {α β:Type}{n:Nat}{lt:Nat->Nat->Bool}{t:KasT α}{f:α->KasT β}{R:β->Prop}(h:Bn n lt t fun a=>Bn n lt (f a) R):Bn n lt (t.bind f) R :=
 ⟨AO t h.1 h.2.1,by rw[zR];exact h.2.2⟩
theorem iI {α:Type}{n:Nat}{lt:Nat->Nat->Bool}{t:KasT α}{R R':α->Prop}(h:Bn n lt t R)(hr:∀ a,R a->R' a):Bn n lt t R':=⟨h.1,hr _ h.2⟩
theorem fJ {α:Type}{n:Nat}{lt:Nat->Nat->Bool}{a:α}{R:α->Prop}(h:R a):Bn n lt (.ret a) R:=⟨trivial,h⟩
theorem qq {α:Type}{n:Nat}{lt:Nat->Nat->Bool}{i j:Nat}{k:Bool->KasT α}{R:α->Prop}(hi:i<n)(hj:j<n)(h:∀ b,lt i j=b->Bn n lt (k b) R):Bn n lt (.ask i j k) R:=by
 have:=h _ rfl;exact⟨⟨hi,hj,this.1⟩,this.2⟩
section
variable {n:Nat}{lt:Nat->Nat->Bool}{p:Array Nat}
def Pm (n:Nat)(p:Array Nat):Prop:=p.Perm (List.toArray (List.range n))
theorem Pm.sz (h:Pm n p):p.size=n:=by have:=h.size_eq;simpa using this
theorem Pm.below (h:Pm n p)(hn:0<n)(i:Nat):p.getD i 0<n:=by
 by_cases hi:i<p.size
 ·have e:p.getD i 0=p[i]:=by simp[Array.getD,hi]
  rw[e]
  have hm:p[i]∈p.toList:=by simp
  have:=(Array.perm_iff_toList_perm.mp h).mem_iff.mp hm;simpa using this
 ·have e:p.getD i 0=0:=by simp[Array.getD,hi]
  rw[e];exact hn
theorem Pm.ne (h:Pm n p){i j:Nat}(hi:i<n)(hj:j<n)(hij:i≠j):p.getD i 0≠p.getD j 0:=by
 have hs:=h.sz;have nd:p.toList.Nodup:=(Array.perm_iff_toList_perm.mp h).nodup_iff.mpr (by simpa using List.nodup_range)
 have e1:p.getD i 0=p.toList[i]'(by simp;omega):=by simp[Array.getD,show i<p.size by omega]
 have e2:p.getD j 0=p.toList[j]'(by simp;omega):=by simp[Array.getD,show j<p.size by omega]
 rw[e1,e2];intro e;exact hij ((List.getElem_inj nd).mp e)
def Up (lt:Nat->Nat->Bool)(p:Array Nat)(k:Nat):Prop:=∀ i j,i<j->j<k->lt (p.getD i 0) (p.getD j 0)=true
def Dn (lt:Nat->Nat->Bool)(p:Array Nat)(k:Nat):Prop:=∀ i j,i<j->j<k->lt (p.getD j 0) (p.getD i 0)=true
theorem yz (L:ER n lt)(P:Pm n p){i j:Nat}(hi:i<n)(hj:j<n)(hij:i≠j)(h:lt (p.getD i 0) (p.getD j 0)=false):lt (p.getD j 0) (p.getD i 0)=true:=by
 rcases L.tot _ _ (P.below (by omega) i) (P.below (by omega) j) (P.ne hi hj hij) with z | z
 ·rw[h]at z;cases z
 ·exact z
theorem HD (L:ER n lt){a:Nat}(h1:1<=a)(hs:Up lt p a)(h:lt (p.getD (a-1) 0) (p.getD a 0)=true):Up lt p (a+1):=by
 intro i j hij hj
 by_cases hja:j<a
 ·exact hs i j hij hja
 ·have e:j=a:=by omega
  subst e
  by_cases hi:i=j-1
  ·rw[hi];exact h
  ·exact L.tr _ _ _ (hs i (j-1) (by omega) (by omega)) h
theorem CO (L:ER n lt){a:Nat}(h1:1<=a)(hs:Dn lt p a)(h:lt (p.getD a 0) (p.getD (a-1) 0)=true):Dn lt p (a+1):=by
 intro i j hij hj
 by_cases hja:j<a
 ·exact hs i j hij hja
 ·have e:j=a:=by omega
  subst e
  by_cases hi:i=j-1
  ·rw[hi];exact h
  ·exact L.tr _ _ _ h (hs i (j-1) (by omega) (by omega))
theorem zc (L:ER n lt)(P:Pm n p):∀ (f a:Nat),1<=a->a+f<=n->Up lt p a->Bn n lt (kas_asc p f a) fun m=>a<=m/\m<=a+f/\Up lt p m/\(m<a+f->lt (p.getD m 0) (p.getD (m-1) 0)=true)
 | 0,a,_,_,hs=>fJ ⟨Mn _,Mn _,hs,fun h=>absurd h (by omega)⟩
 | f+1,a,h1,h2,hs=>by
  refine qq (P.below (by omega) _) (P.below (by omega) _) fun b hb=>?_
  cases b with
  | true=>exact fJ ⟨Mn _,by omega,hs,fun _=>hb⟩
  | false =>
   have hlt:=yz L P (show a<n by omega) (show a-1<n by omega) (by omega) hb;refine iI (zc L P f (a+1) (by omega) (by omega) (HD L h1 hs hlt)) fun m ⟨m1,m2,m3,m4⟩=>⟨by omega,by omega,m3,fun h=>m4 (by omega)⟩
theorem A2 (L:ER n lt)(P:Pm n p):∀ (f a:Nat),1<=a->a+f<=n->Dn lt p a->Bn n lt (kas_desc f p a 0) fun r=>r.1=p/\r.2.2=0/\a<=r.2.1/\r.2.1<=a+f/\Dn lt p r.2.1
 | 0,a,_,_,hs=>fJ ⟨rfl,rfl,Mn _,Mn _,hs⟩
 | f+1,a,h1,h2,hs=>by
  refine qq (P.below (by omega) _) (P.below (by omega) _) fun b hb=>?_
  cases b with
  | true =>
   rw[Mi rfl,Mg (by omega)];exact iI (A2 L P f (a+1) (by omega) (by omega) (CO L h1 hs hb)) fun r ⟨r1,r2,r3,r4,r5⟩=>⟨r1,r2,by omega,by omega,r5⟩
  | false =>
   rw[Mg Mt];have hlt:=yz L P (show a<n by omega) (show a-1<n by omega) (by omega) hb;refine qq (P.below (by omega) _) (P.below (by omega) _) fun d hd=>?_;rw[hlt]at hd;subst hd;rw[Mi rfl];exact fJ ⟨rfl,rfl,Mn _,Nat.le_add_right _ _,hs⟩
theorem Dg {a:Nat}(ha:a<=p.size)(k:Nat):(kas_rev p 0 a).getD k 0=if k<a then p.getD (a-1-k) 0 else p.getD k 0:=by
 have h:=getElem?_mirror_all (xs:=p) (i:=0) (j:=a) ha k
 have e:∀ (q:Array Nat)(i:Nat),q.getD i 0=(q[i]?).getD 0:=fun q i=>by
  simp[Array.getD];split<;>simp_all
 show (mirror p 0 a ((a-0)/2)).getD k 0=_
 rw[e,h]
 by_cases hk:k<a
 ·rw[Mi ⟨MD _,hk⟩,Mi hk,e]
  congr 2
  omega
 ·rw[Mg (by omega),Mg hk,e]
theorem Pm.rev (h:Pm n p)(i j:Nat):Pm n (kas_rev p i j):=(mirror_perm _ _ _ _).trans h
theorem Ex (L:ER n lt)(P:Pm n p){a:Nat}(h1:1<=a)(h2:a<=n)(hd:Dn lt p a):Bn n lt (kas_tail3 a n p) fun r=>Pm n r.2/\Up lt r.2 r.1/\1<=r.1/\r.1<=n:=by
 have P':=P.rev 0 a
 have hs:Up lt (kas_rev p 0 a) a:=fun i j hij hj=>by
  rw[Dg (by rw[P.sz];exact h2),Dg (by rw[P.sz];exact h2),Mi (by omega),Mi hj];exact hd _ _ (by omega) (by omega)
 refine mG (iI (zc L P' (n-a) a h1 (by omega) hs) fun m ⟨m1,m2,m3,_⟩=>fJ ⟨P',m3,by omega,by omega⟩)
theorem Eu (L:ER n lt)(P:Pm n p)(hn:2<=n):Bn n lt (kas_count n p) fun r=>Pm n r.2/\Up lt r.2 r.1/\1<=r.1/\r.1<=n:=by
 refine mG (iI (zc L P (n-1) 1 (Mn _) (by omega) fun i j hij hj=>by omega) fun m ⟨m1,m2,m3,m4⟩=>?_)
 by_cases hm:m=n
 ·rw[Mi (by simp[hm])]
  exact fJ ⟨P,m3,m1,by omega⟩
 ·rw[Mg (by simp[hm])]
  by_cases h1:m>1
  ·rw[Mi h1]
   refine qq (P.below (by omega) _) (P.below (by omega) _) fun b hb=>?_;rw[m3 0 (m-1) (by omega) (by omega)]at hb;subst hb;rw[Mi rfl];exact fJ ⟨P,m3,m1,by omega⟩
  ·rw[Mg h1]
   have e:m=1:=by omega
   subst e;have hlt:=m4 (by omega);have hd:Dn lt p (1+1):=CO L (Mn _) (fun i j hij hj=>by omega) hlt;refine mG (iI (A2 L P (n-(1+1)) (1+1) (by omega) (by omega) hd) fun r ⟨r1,r2,r3,r4,r5⟩=>?_);rw[r2,Mg (by omega),r1];exact Ex L P (by omega) (by omega) r5
theorem rQ (L:ER n lt)(P:Pm n p){k:Nat}(hk:k<n)(hs:Up lt p k):∀ (f l r:Nat),l<=r->r<=k->r-l<=f->(∀ i,i<l->lt (p.getD i 0) (p.getD k 0)=true)->(∀ i,r<=i->i<k->lt (p.getD k 0) (p.getD i 0)=true) ->
  Bn n lt (kas_place p k f l r) fun m=>m<=k/\(∀ i,i<m->lt (p.getD i 0) (p.getD k 0)=true)/\∀ i,m<=i->i<k->lt (p.getD k 0) (p.getD i 0)=true
 | 0,l,r,h1,h2,h3,hl,hr=>fJ ⟨by omega,hl,fun i hi hk=>hr i (by omega) hk⟩
 | f+1,l,r,h1,h2,h3,hl,hr=>by
  show Bn n lt (if l>=r then .ret l else _) _
  by_cases h:l>=r
  ·rw[Mi h]
   exact fJ ⟨by omega,hl,fun i hi hk=>hr i (by omega) hk⟩
  ·rw[Mg h]
   refine qq (P.below (by omega) _) (P.below (by omega) _) fun b hb=>?_
   cases b with
   | true =>
    rw[Mi rfl];refine rQ L P hk hs f l ((l+r)/2) (by omega) (by omega) (by omega) hl fun i hi hik=>?_
    by_cases he:i=(l+r)/2
    ·rw[he];exact hb
    ·exact L.tr _ _ _ hb (hs _ _ (by omega) hik)
   | false =>
    rw[Mg Mt];have hlt:=yz L P hk (show (l+r)/2<n by omega) (by omega) hb;refine rQ L P hk hs f ((l+r)/2+1) r (by omega) h2 (by omega) (fun i hi=>?_) hr
    by_cases he:i=(l+r)/2
    ·rw[he];exact hlt
    ·exact L.tr _ _ _ (hs _ _ (by omega) (by omega)) hlt
theorem GO {k l:Nat}(hk:k<p.size)(hl:l<=k)(i:Nat):(bubble p k (k-l)).getD i 0=if i=l then p.getD k 0 else if l<i/\i<=k then p.getD (i-1) 0 else p.getD i 0:=by
 have h:=getElem?_bubble (xs:=p) hk (k-l) (by omega) i
 have e:∀ (q:Array Nat)(i:Nat),q.getD i 0=(q[i]?).getD 0:=fun q i=>by
  simp[Array.getD];split<;>simp_all
 rw[e,h,show k-(k-l)=l by omega]
 by_cases h1:i=l
 ·rw[Mi h1,Mi h1,e]
 ·rw[Mg h1,Mg h1]
  by_cases h2:l<i/\i<=k
  ·rw[Mi h2,Mi h2,e]
  ·rw[Mg h2,Mg h2,e]
theorem Di (L:ER n lt):∀ (f:Nat)(p:Array Nat)(k:Nat),Pm n p->k+f=n->Up lt p k->Bn n lt (kas_bin f p k) fun q=>Pm n q/\Up lt q n
 | 0,p,k,P,h,hs=>fJ ⟨P,by rw[show n=k by omega];exact hs⟩
 | f+1,p,k,P,h,hs=>by
  have hk:k<n:=by omega
  refine mG (iI (rQ L P hk hs k 0 k (MD _) (Mn _) (by omega) (fun i hi=>by omega) (fun i hi hik=>by omega)) fun l ⟨l1,l2,l3⟩=>?_);have g:=fun i=>GO (p:=p) (k:=k) (l:=l) (by rw[P.sz];exact hk) l1 i;refine Di L f _ (k+1) ((bubble_perm _ _ _).trans P) (by omega) fun i j hij hj=>?_;rw[g,g]
  by_cases hi1:i=l
  ·rw[Mi hi1,Mg (by omega),Mi ⟨by omega,by omega⟩]
   exact l3 _ (by omega) (by omega)
  ·rw[Mg hi1]
   by_cases hi2:l<i/\i<=k
   ·rw[Mi hi2,Mg (by omega),Mi ⟨by omega,by omega⟩]
    exact hs _ _ (by omega) (by omega)
   ·rw[Mg hi2]
    by_cases hj1:j=l
    ·rw[Mi hj1]
     exact l2 _ (by omega)
    ·rw[Mg hj1]
     by_cases hj2:l<j/\j<=k
     ·rw[Mi hj2]
      exact hs _ _ (by omega) (by omega)
     ·rw[Mg hj2]
      exact hs _ _ hij (by omega)
theorem Go (L:ER n lt)(hn:2<=n):Bn n lt (kas_sort n) fun q=>Pm n q/\Up lt q n:=by
 refine mG (iI (Eu L (p:=List.toArray (List.range n)) (Array.Perm.refl _) hn) fun r ⟨r1,r2,r3,r4⟩=>?_)
 by_cases h:r.1<n
 ·rw[Mi h]
  exact Di L _ _ _ r1 (by omega) (by rw[Nat.max_eq_left r3];exact r2)
 ·rw[Mg h]
  exact fJ ⟨r1,by rw[show n=r.1 by omega];exact r2⟩
end
theorem Fp {α:Type}{n:Nat}{lt:Nat->Nat->Bool}{cmp:Nat->Nat->(Bool->Shared->Prop)->Shared->Prop}{Q:α->Shared->Prop}{I:Shared->Prop}
  (hc:∀ i j,i<n->j<n->∀ (C:Bool->Shared->Prop) s,I s->(∀ s',I s'->C (lt i j) s')->cmp i j C s):∀ (t:KasT α)(s:Shared),JD n lt t->I s->(∀ s',I s'->Q (ask lt t) s')->t.kasWp cmp Q s
 | .ret a,s,_,hI,hq=>hq s hI
 | .ask i j k,s,⟨h1,h2,h3⟩,hI,hq=>hc i j h1 h2 _ s hI fun s' hs'=>Fp hc (k (lt i j)) s' h3 hs' hq
def ltP (p q:Int×Int):Bool:=decide (p.1<q.1\/(p.1=q.1/\p.2<q.2))
theorem ltP_irr (p:Int×Int):ltP p p=false:=by unfold ltP;simp
theorem ltP_tr {p q r:Int×Int}(h1:ltP p q=true)(h2:ltP q r=true):ltP p r=true:=by
 unfold ltP at *;have h1:=Nl h1;have h2:=Nl h2;exact Mp (by omega)
theorem Hd {p q:Int×Int}(h:p≠q):ltP p q=true\/ltP q p=true:=by
 unfold ltP
 by_cases h1:p.1<q.1
 ·exact .inl (Mp (.inl h1))
 ·by_cases h2:q.1<p.1
  ·exact .inr (Mp (.inl h2))
  ·have e:p.1=q.1:=by omega
   have n:p.2≠q.2:=fun z=>h (Prod.ext e z)
   by_cases h3:p.2<q.2
   ·exact .inl (Mp (.inr ⟨e,h3⟩))
   ·exact .inr (Mp (.inr ⟨e.symm,by omega⟩))
def IS (ps:List (Int×Int))(i j:Nat):Bool:=ltP (ps.getD i (0,0)) (ps.getD j (0,0))
theorem IR {ps:List (Int×Int)}(nd:ps.Nodup):ER ps.length (IS ps) where
 irr:=fun i=>ltP_irr _
 tot:=fun i j hi hj hij=>Hd fun e=>hij (by
  have e1:ps.getD i (0,0)=ps[i]:=by simp[hi]
  have e2:ps.getD j (0,0)=ps[j]:=by simp[hj]
  rw[e1,e2]at e
  exact (List.getElem_inj nd).mp e)
 tr:=fun i j k=>ltP_tr
def PairAt (h:Heap)(v:Value)(p:Int×Int):Prop:=∃ (b:Addr)(o:Obj)(n:Nat)(t u:Tok),v=.ref b/\h.get? b=some o/\o.cls=.type "tuple"/\o.data=.seq #[.int p.1 t,.int p.2 u] n
section
variable {prog:Program}{w:World}{A:Around}{E:Value->Shared->Prop}{s:Shared}
theorem He {x y:Value}{p q:Int×Int}{Q:Bool->Shared->Prop}(hx:PairAt s.heap x p)(hy:PairAt s.heap y q)(h:Q (ltP p q) s):wpAny (model prog w) A (keyLt' (tuples' true) x y) Q E s:=by
 obtain⟨b,o,n,t,u,rfl,ho,hc,hd⟩:=hx;obtain⟨b',o',n',t',u',rfl,ho',hc',hd'⟩:=hy;refine kat_lt ho hd ho' hd' ?_
 show KatLex prog w A true (decide (2<2)) Q [(.int p.1 t,.int q.1 t'),(.int p.2 u,.int q.2 u')] 0 s
 refine kat_cons (wpAny_eqBool_int ?_)
 by_cases h1:p.1=q.1
 ·rw[show (p.1 == q.1)=true by simpa using h1]
  refine kat_yes (kat_cons (wpAny_eqBool_int ?_))
  by_cases h2:p.2=q.2
  ·rw[show (p.2 == q.2)=true by simpa using h2]
   refine kat_yes (kat_nil ?_)
   have e:ltP p q=decide (2<2):=by rw[show p=q from Prod.ext h1 h2,ltP_irr];rfl
   rw[<-e];exact h
  ·rw[show (p.2 == q.2)=false by simpa using h2]
   refine kat_no ?_
   show wpAny (model prog w) A (oneLt' false (.int p.2 u) (.int q.2 u')) Q _ s
   refine kat_one _ _ (wpAny_lt_int ?_)
   show Q (decide (p.2<q.2)) s
   have e:ltP p q=decide (p.2<q.2):=by unfold ltP;simp[h1]
   rw[<-e];exact h
 ·rw[show (p.1 == q.1)=false by simpa using h1]
  refine kat_no ?_
  show wpAny (model prog w) A (oneLt' true (.int p.1 t) (.int q.1 t')) Q _ s
  refine oneLt_int ?_
  have e:ltP p q=decide (p.1<q.1):=by unfold ltP;simp[h1]
  rw[<-e];exact h
theorem Ds {h:Heap}:∀ {vs:List Value}{ps:List (Int×Int)},Paired (PairAt h) vs ps->∃ fs:List Value,KatTups h vs fs/\fs.length=vs.length/\∀ v∈fs,∃ i t,v=Value.int i t
 | [],[],.nil=>⟨[],KatTups.nil,rfl,fun v h=>by cases h⟩
 | v::vs,p::ps,.cons hv r=>by
  obtain⟨fs,k,hl,hi⟩:=Ds r;obtain⟨b,o,n,t,u,rfl,ho,hc,hd⟩:=hv;refine⟨.int p.1 t::fs,KatTups.cons ho hc hd rfl k,by simp[hl],fun v hv=>?_⟩;rcases Ms.mp hv with z | z
  ·exact⟨_,_,z⟩
  ·exact hi v z
theorem BK {vs:List Value}{ps:List (Int×Int)}{Q:SortKind->Shared->Prop}(hp:Paired (PairAt s.heap) vs ps)(h2:0<vs.length)(h:Q (tuples' true) s):wpAny (model prog w) A (keyKind' vs.toArray) Q E s:=by
 obtain⟨fs,k,hl,hi⟩:=Ds hp;refine kat_kind (T:=.type "int") k (by omega) (fun v hv=>?_) (by decide) h;obtain⟨i,t,rfl⟩:=hi v hv;exact .now
theorem mq {α β:Type}{F:α->β->Prop}{d:α}{e:β}:∀ {l:List α}{m:List β},Paired F l m->∀ i,i<l.length->F (l.getD i d) (m.getD i e)
 | _::_,_::_,.cons h _,0,_=>h
 | _::l,_::m,.cons _ r,i+1,hi=>mq r i (by simpa using hi)
def Bu (vs:List Value)(ps:List (Int×Int))(out:List Value):Prop:=∃ ix:List Nat,ix.Perm (List.range vs.length)/\out=ix.map (fun i=>vs.getD i Value.none)/\(ix.map fun i=>ps.getD i (0,0)).Pairwise (fun a b=>ltP a b=true)
theorem Ew {vs:List Value}{ps:List (Int×Int)}{Q:SortSt->Shared->Prop}(hp:Paired (PairAt s.heap) vs ps)(nd:ps.Nodup)(h2:2<=vs.length)(h64:vs.length<64)
  (h:∀ st':SortSt,failedOf st'=none->(∃ out:List Value,(arrOf st').map (·.2)=out.toArray/\Bu vs ps out)->Q st' s) :
  wpAny (model prog w) A ((sortRuns').run (SortSt.mk' (tuples' true) (vs.toArray.zip vs.toArray) #[] 7 none)) (fun r s'=>Q r.2 s') E s:=by
 have hl:vs.length=ps.length:=Mo hp;have L:=IR nd;rw[<-hl]at L;obtain⟨ok,P,hs⟩:=Go L h2;refine kat_run (G:=fun p s'=>p=ask (IS ps) (kas_sort vs.length)/\s'=s) rfl h2 h64 (fun p st' s' hsz har hf hg=>?_) ?_
 ·obtain⟨e1,e2⟩:=hg
  subst e2;rw[<-e1]at P hs;refine h st' hf ⟨_,kat_snds rfl har,p.toList,?_,rfl,?_⟩
  ·have:=Array.perm_iff_toList_perm.mp P
   simpa using this
  ·rw[N1,Oi]
   intro i j hi hj hij
   have hj':j<p.size:=by simpa using hj
   have hi':i<p.size:=by simpa using hi
   have:=hs i j hij (by rw[<-hsz];exact hj')
   have e3:p.getD i 0=p.toList[i]:=by simp[Array.getD,hi']
   have e4:p.getD j 0=p.toList[j]:=by simp[Array.getD,hj']
   rw[e3,e4]at this;exact this
 ·refine Fp (I:=fun s'=>s'=s) (lt:=IS ps) (n:=vs.length) (fun i j hi hj C s' hs' hC=>?_) _ s ok rfl fun s' hs'=>⟨rfl,hs'⟩
  subst hs'
  show wpAny (model prog w) A (keyLt' (tuples' true) (vs.getD i Value.none) (vs.getD j Value.none)) C _ s'
  exact He (mq hp i hi) (mq hp j hj) (hC _ rfl)
end
section
variable {prog:Program}{w:World}{A:Around}{E:Value->Shared->Prop}{s:Shared}
theorem sort_pairs {a:Addr}{vs:List Value}{ps:List (Int×Int)}{n:Nat}{P:Fin->Shared->Prop}(ho:s.heap.get? a=some (seqObj "list" vs.toArray n))(hp:Paired (PairAt s.heap) vs ps)(nd:ps.Nodup)(h64:vs.length<64)
  (h:∀ out:List Value,Bu vs ps out->P (.done (.ret .none)) { s with heap:=sortedHeap s.heap a vs out.toArray }):wpAny (model prog w) A (Builtin.«list.sort» ⟨[.ref a],[]⟩) P E s:=by
 have ha:a<s.heap.objs.size:=Mw ho;have hl:vs.length=ps.length:=Mo hp;obtain⟨e1,ho1⟩:∃ e1,(s.heap.update a (Obj.mapSeq fun _=>#[])).get? a=some (seqObj "list" #[] e1):=⟨_,get?_update_seq ho (fun _=>#[])⟩
 have ho6:(((s.heap.update a (Obj.mapSeq fun _=>#[])).push (seqObj "tuple" vs.toArray 0)).push (seqObj "list" #[] 0)).get? a=some (seqObj "list" #[] e1):=by
  rw[Heap.get?_push_ne _ _ _ (by rw[size_push',Heap.size_update];exact MB (NM ha)),Heap.get?_push_ne _ _ _ (by rw[Heap.size_update];exact MB ha)];exact ho1
 have sz:vs.toArray.size<=sizeLine:=by rw[My,N8];omega
 rw[list_sort_plain];refine Mf (listItems_at ho rfl (Mf (listUpdate_at ho rfl ?_ sz (MD _))));refine Mf (seqEpoch_at ho1 rfl (Mf (wpAny_newTuple ?_ (by show vs.length<=_;rw[N8];omega))));refine Mf (wpAny_newList (NA ?_) (MD _))
 show wpAny (model prog w) A _ P E { s with heap:=((s.heap.update a (Obj.mapSeq fun _=>#[])).push (seqObj "tuple" vs.toArray 0)).push (seqObj "list" #[] 0) }
 dsimp only
 by_cases h2:vs.toArray.size<2
 ·rw[Mi h2,Mi h2]
  refine Mf (Mq ?_);rw[StateT.run_pure];refine Mf (Mq ?_);dsimp only
  have e:((vs.toArray.zip vs.toArray).map (·.2))=vs.toArray:=by
   apply Array.ext';simp[List.map_snd_zip]
  refine Mf (seqEpoch_at ho6 rfl (Mf (listUpdate_at ho6 rfl ?_ (MD _) ?_)))
  ·simp only[bne_self_eq_false,Ov,OA]
   refine Mq ?_
   show P _ { s with heap:=(((s.heap.update a _).push _).push _).update a (Obj.mapSeq fun _=>(vs.toArray.zip vs.toArray).map (·.2)) }
   rw[e];refine h vs ⟨List.range vs.length,List.Perm.refl _,?_,?_⟩
   ·apply List.ext_getElem?
    intro i;rw[List.getElem?_map]
    by_cases hi:i<vs.length
    ·rw[List.getElem?_range hi];simp[hi]
    ·rw[List.getElem?_eq_none (by omega),List.getElem?_eq_none (by simp;omega)];rfl
   ·have hv:vs.length<2:=by simpa using h2
    rw[N1,Oi];intro i j hi hj hij;rw[ND]at hi hj;omega
  ·show ((vs.toArray.zip vs.toArray).map (·.2)).size<=_
   rw[e];omega
 ·rw[Mg h2,Mg h2]
  have h2':2<=vs.length:=by rw[My]at h2;omega
  have hp':Paired (PairAt (((s.heap.update a (Obj.mapSeq fun _=>#[])).push (seqObj "tuple" vs.toArray 0)).push (seqObj "list" #[] 0))) vs ps:=L2.Paired.mapP hp fun v q ⟨b,o,m,t,u,ev,hb,hc,hd⟩=>by
   refine⟨b,o,m,t,u,ev,?_,hc,hd⟩
   have nb:b≠a:=fun z=>by
    rw[z,ho]at hb;cases hb;exact absurd hc (by show ¬ (Value.type "list" = .type "tuple");decide)
   have hlt:=Mw hb;rw[Heap.get?_push_ne _ _ _ (by rw[size_push',Heap.size_update];exact MB (NM hlt)),Heap.get?_push_ne _ _ _ (by rw[Heap.size_update];exact MB hlt),Heap.get?_update_ne _ _ _ _ nb];exact hb
  refine Mf (BK (s:={ s with heap:=((s.heap.update a (Obj.mapSeq fun _=>#[])).push (seqObj "tuple" vs.toArray 0)).push (seqObj "list" #[] 0) }) hp' (by omega) ?_);refine Mf (Ew (Q:=fun st' s'=>failedOf st'=none/\(∃ out:List Value,(arrOf st').map (·.2)=out.toArray/\Bu vs ps out)/\s'={ s with heap:=((s.heap.update a (Obj.mapSeq fun _=>#[])).push (seqObj "tuple" vs.toArray 0)).push (seqObj "list" #[] 0) }) hp' nd h2' h64 (fun st' hf ho=>⟨hf,ho,rfl⟩) |> fun q=>MP q (fun r s' hr=>?_) fun _ _ x=>x);obtain⟨⟨⟩,st'⟩:=r;obtain⟨hf,⟨out,hout,so⟩,rfl⟩:=hr;dsimp only at hf hout ⊢
  have hol:out.length=vs.length:=by
   obtain⟨ix,hx,rfl,_⟩:=so;rw[Me,hx.length_eq,ND]
  rw[hout];refine Mf (seqEpoch_at ho6 rfl (Mf (listUpdate_at ho6 rfl ?_ (MD _) (by show out.toArray.size<=_;rw[My,hol,N8];omega))));rw[hf];simp only[bne_self_eq_false,Ov,OA];exact Mq (h out so)
end
def RawAt (h:Heap)(d:Addr)(es:Array DictEntry)(ep:Nat):Prop:=∃ o,h.get? d=some o/\o.ExactDict/\o.data=.dict es ep
section
variable {prog:Program}{w:World}{A:Around}{E:Value->Shared->Prop}{s:Shared}{d it:Addr}{es:Array DictEntry}{ep i:Nat}
theorem RawAt.typeIs (h:RawAt s.heap d es ep):s.TypeIs (.ref d) "dict":=let ⟨o,ho,hc,_⟩:=h;⟨o,ho,hc.1⟩
theorem RawAt.lt {h:Heap}(x:RawAt h d es ep):d<h.objs.size:=let ⟨_,ho,_⟩:=x;Mw ho
theorem RawAt.at {h h':Heap}(x:RawAt h d es ep)(e:∀ o,h.get? d=some o->h'.get? d=some o):RawAt h' d es ep:=let ⟨o,ho,r⟩:=x;⟨o,e _ ho,r⟩
theorem Ge {Q:Value->Shared->Prop}(lo:(d == sysModules)=false)(hm:RawAt s.heap d es ep)
  (hQ:Q (.ref s.heap.objs.size) { s with heap:=s.heap.push { cls:=.type "dict_keyiterator",data:=.fields #[.ref d,.int 0 0,.int es.size 0,.int ep 0] } }):wpAny (model prog w) A (pyIter (.ref d)) Q E s:=by
 have hT:=hm.typeIs;obtain⟨o,ho,hc,hdat⟩:=hm;refine wpAny_pyIter_slot hT F.slot_dict_iter (N6 F.slot_dict_iter hT F.entry_dict_iter ?go (F.args_dict_iter_1 _))
 case go =>
  unfold Builtin.«dict.__iter__»;refine Mf ?_;unfold Builtin.Dict.dictSlotNone;refine Mf (wpAny_notOrdered_dict hT (?_:wpAny (model prog w) A.in1 (pure (Value.ref d)) _ _ s));refine Mq ?_
  show wpAny _ _ (Builtin.Dict.showsAll d >>= _) _ _ s;unfold Builtin.Dict.showsAll;rw[Mg (by rw[lo];simp)]
  refine Mf (Mq (Mf (wpAny_dictEntries ho hdat (Mf (wpAny_dictEpoch ho hdat ?_)))));refine Mf (Ni (Mq ⟨_,rfl,"dict_keyiterator",_,⟨_,Heap.get?_push_size _ rfl,rfl⟩,NJ.lookup,?_⟩));simpa [rawInt] using hQ
theorem Gc {Q:Option Value->Shared->Prop}{e:DictEntry}(hit:s.heap.IsKeyIter it d i es.size ep)(hm:RawAt s.heap d es ep)(hx:es[i]? = some e)
  (hQ:∀ h',h'.IsKeyIter it d (i+1) es.size ep->Heap.SameBut it s.heap h'->Q (some e.key) { s with heap:=h' }):wpAny (model prog w) A (pyNext (.ref it)) Q E s:=by
 obtain⟨o,ho,hc,hd⟩:=id hit;obtain⟨od,hod,hcd,hdd⟩:=id hm
 have hlt:i<es.size:=by
  by_cases h:i<es.size
  ·exact h
  ·rw[Array.getElem?_eq_none (by omega)]at hx;cases hx
 have he:es[i]=e:=by rw[Array.getElem?_eq_getElem hlt]at hx;exact Mu hx
 unfold pyNext;refine Mf (wpAny_attempt (wpAny_callSpecial?_slot (name:=Str.ofString "__next__") hit.typeIs NJ (N6 NJ hit.typeIs F.entry_dict_keyiterator_next ?go (F.args_dict_keyiterator_next_1 _))))
 case go =>
  refine Mf (Mq (Mf (Mf ?_)))
  first | refine Mf (NF hit.typeIs (Mq (Mf (wpAny_fieldsOf ho hd ?_)))) | refine Mf (NY hit.typeIs (Mq (Mf (wpAny_fieldsOf ho hd ?_))))
  simp only[show Builtin.Dict_items.ownsTuple "dict_keyiterator" = false by decide,Ov,OA]
  show wpAny _ _ (if (Value.ref d == Value.none)=true then _ else _) _ _ s;rw[Mg (show ¬ ((Value.ref d == Value.none)=true) from Mt)]
  refine Mf (Mq (Mf (wpAny_dictEntries hod hdd ?_)));rw[Mg (by simp)];refine Mf (Mq (Mf (wpAny_dictEpoch hod hdd ?_)));rw[Mg (by simp)];refine Mq ?_;simp only[show ¬ ((i:Int)<0) from by omega,OA,Int.toNat_natCast,Array.getElem?_eq_getElem hlt];refine Mf ?_
  first | refine Mf (NF hit.typeIs (Mq (Mf (wpAny_isOneOf_keyiter hit.typeIs ?_)))) | refine Mf (NY hit.typeIs (Mq (Mf (wpAny_isOneOf_keyiter hit.typeIs ?_)))) | (first | refine Mf (NF hit.typeIs (Mq ?_)) | refine Mf (NY hit.typeIs (Mq ?_));refine Mf (wpAny_isOneOf_keyiter hit.typeIs ?_))
  show wpAny _ _ (setField (.ref it) 1 (rawInt ((i:Int)+1)) >>= _) _ _ s;refine Mf (Oz ho hd (by simp) ?_)
  have hit':(s.heap.update it (Obj.mapFields (·.setIfInBounds 1 (rawInt ((i:Int)+1))))).IsKeyIter it d (i+1) es.size ep:=⟨_,Heap.get?_update_self _ ho (Obj.isFreed_of_fields (Ow hd _)),(Obj.cls_mapFields ..).trans hc,by rw[Ow hd];simp[rawInt]⟩;refine Mf (NA (Mf (wpAny_isOneOf_keyiter (s:={ s with heap:=s.heap.update it (Obj.mapFields (·.setIfInBounds 1 (rawInt ((i:Int)+1)))) }) hit'.typeIs ?_)))
  show wpAny _ _ (pure es[i].key) _ _ _;rw[he];exact Mq (Mq ⟨_,rfl,Mq (hQ _ hit' (Heap.SameBut.update ..))⟩)
theorem Hw {Q:Option Value->Shared->Prop}(hh:A.handled=none)(hit:s.heap.IsKeyIter it d i es.size ep)(hm:RawAt s.heap d es ep)(hx:es.size<=i)
  (hQ:∀ h',Heap.ExtBut it s.heap h'->Q none { s with heap:=h' }):wpAny (model prog w) A (pyNext (.ref it)) Q E s:=by
 obtain⟨o,ho,hc,hd⟩:=id hit;obtain⟨od,hod,hcd,hdd⟩:=id hm;unfold pyNext;refine Mf (wpAny_attempt (wpAny_callSpecial?_slot (name:=Str.ofString "__next__") hit.typeIs NJ (N6 NJ hit.typeIs F.entry_dict_keyiterator_next ?go (F.args_dict_keyiterator_next_1 _))))
 case go =>
  refine Mf (Mq (Mf (Mf ?_)))
  first | refine Mf (NF hit.typeIs (Mq (Mf (wpAny_fieldsOf ho hd ?_)))) | refine Mf (NY hit.typeIs (Mq (Mf (wpAny_fieldsOf ho hd ?_))))
  simp only[show Builtin.Dict_items.ownsTuple "dict_keyiterator" = false by decide,Ov,OA]
  show wpAny _ _ (if (Value.ref d == Value.none)=true then _ else _) _ _ s;rw[Mg (show ¬ ((Value.ref d == Value.none)=true) from Mt)]
  refine Mf (Mq (Mf (wpAny_dictEntries hod hdd ?_)));rw[Mg (by simp)];refine Mf (Mq (Mf (wpAny_dictEpoch hod hdd ?_)));rw[Mg (by simp)];refine Mq ?_;simp only[show ¬ ((i:Int)<0) from by omega,OA,Int.toNat_natCast,Array.getElem?_eq_none hx];refine Mf ?_
  first | refine Mf (NF hit.typeIs (Mq ?_)) | refine Mf (NY hit.typeIs (Mq ?_))
  show wpAny _ _ (setField (.ref it) 0 .none >>= _) _ _ s;refine Mf (Oz ho hd (by simp) ?_)
  show wpAny _ _ (newExc (.type "StopIteration") [] >>= _) _ _ _;refine Mf ?_;simp only[newExc,newTuple]
  refine Mf (Ni ?_ (by size_fits));refine Mf (m:=firstArgMember _ _) (wpAny_of_eq (a:=Value.none) (by first | rfl | (simp only[firstArgMember];rfl)) ?_);refine Ni ?_ (by size_fits);simp only[raiseNew];refine Mf (wpAny_handled ?_);rw[show A.in1.handled=none from hh];refine Mf (Mq (wpAny_throw ?_));refine Mf (wpAny_isInstance (T:="StopIteration") (b:=true) ⟨_,Heap.get?_push_size _ rfl,rfl⟩ isSubtype_stop ?_);exact Mq (hQ _ (((Heap.SameBut.update ..).extBut.push _).push _))
end
theorem Eo {prog:Program}{w:World}{A:Around}(hh:A.handled=none)(I d:Addr)(hne:d≠I)(es:Array DictEntry)(ep:Nat) :
  Walks prog w A I [I,d] [I] es.size (fun i v=>∃ e,es[i]? = some e/\v=e.key) (fun i h=>h.IsKeyIter I d i es.size ep/\RawAt h d es ep) where
 sub:=fun b hb=>by simp at hb;simp[hb]
 frame:=fun _ _ _ st hk=>⟨st.1.at fun o e=>hk I (by simp) o e,st.2.at fun o e=>hk d (by simp) o e⟩
 item:=fun i s Q E hi st hQ=>Gc st.1 st.2 (Array.getElem?_eq_getElem hi) fun h' hit' hs'=>hQ _ h' s.toks ⟨_,Array.getElem?_eq_getElem hi,rfl⟩ ⟨hit',st.2.at fun o e=>hs'.extBut d o hne e⟩ fun b o hb e=>hs'.extBut b o (fun h=>hb (by simp[h])) e
 done:=fun s Q E st hQ=>Hw hh st.1 st.2 (Mn _) fun h' he'=>hQ h' s.toks fun b o hb e=>he' b o (fun h=>hb (by simp[h])) e
 self:=fun _ _ _ _ st hQ=>wpAny_pyIter_keyiter st.1 hQ
theorem raw_src {prog:Program}{w:World}{d:Addr}{es:Array DictEntry}{ep:Nat}(lo:(d == sysModules)=false):KdlSrc prog w "dict" d d es.size (fun i v=>∃ e,es[i]? = some e/\v=e.key) (fun h=>RawAt h d es ep) where
 type:=fun _ hm=>hm.typeIs
 there:=fun _ hm=>⟨hm.lt,hm.lt⟩
 keep:=fun _ _ hm hk=>hm.at fun o e=>hk d (.inl rfl) o e
 notList:=by decide
 notTuple:=by decide
 hint:=fun _ _ _ _ hm hq=>kdl_hint_dict hm.typeIs hq
 iter:=fun _ _ hh hm=>⟨_,_,(fun _ _ hq=>Ge lo hm hq),Eo hh _ d (MB hm.lt) es ep,⟨⟨_,Heap.get?_push_size _ rfl,rfl,rfl⟩,hm.at fun o e=>Heap.get?_push_of_some _ e⟩⟩
end Qs
namespace Wz
open PySem PySem.Spec PyProof.Rows L2
theorem mw {α β γ:Type}{F:β->γ->Prop}{f:α->β}{g:α->γ}:∀ (l:List α),(∀ x∈l,F (f x) (g x))->Paired F (l.map f) (l.map g)
 | [],_=>.nil
 | x::l,h=>.cons (h x Mm) (mw l fun y hy=>h y (Mh _ hy))
theorem o0 {α:Type}(d:α)(l:List α):(List.range l.length).map (fun i=>l.getD i d)=l:=by
 apply List.ext_getElem?
 intro i;rw[List.getElem?_map]
 by_cases hi:i<l.length
 ·rw[List.getElem?_range hi];simp[hi]
 ·rw[List.getElem?_eq_none (by simp;omega),List.getElem?_eq_none (by omega)];rfl
theorem yi {X:Cx}(hc:X.calm=true):kJ X (.builtin "sorted") (fun xs H Q=>∃ (p:Addr)(ml:List (Int×Int)),xs=[.ref p]/\H p=some (.dT (rq ml))/\ml.Nodup/\ml.length<64 /\
  ∀ (l:Addr)(qs:List (Int×Int))(H':Hp),H l=none->ax H H'->aY H' l qs->qs.Perm ml->qs.Pairwise (fun a b=>Qs.ltP a b=true)->Q (.ref l) H'):=by
 intro pins s σ H xs us Q I r h;obtain⟨p,ml,rfl,hH,nd,h64,q⟩:=h;obtain⟨u,rfl,rx⟩:=wz r;cases rx;obtain⟨hz,lo,ks,rel,o,es,ep,ho,hex,hd,hes,hnd⟩:=(show bD X.prog X.w H s.heap p (.dT (rq ml)) from I.hok p _ hH);have raw:Qs.RawAt s.heap p es ep:=⟨o,ho,hex,hd⟩
 have l1:ks.length=ml.length:=by
  have:=Mo rel;unfold rq at this;rw[Me]at this;exact this.symm
 have l2:es.size=ml.length:=by
  have:=Ng List.length hes;rw[Me,N3]at this;omega
 have tup:∀ i,i<ml.length->H ((ks.map fun x=>x.2.1).getD i 0)=some (.tup [.int (ml.getD i (0,0)).1,.int (ml.getD i (0,0)).2]):=fun i hi=>by
  have hk:ks[i]? = some (ks[i]'(by omega)):=by simp[show i<ks.length by omega]
  have hm:(rq ml)[i]? = some ([Sum.inl (ml[i]).1,Sum.inl (ml[i]).2],V.bl true):=by unfold rq;rw[List.getElem?_map];simp[hi]
  obtain⟨b,hb,e1,e2,e3⟩:=paired_get rel hm;rw[hk]at hb;cases hb
  have e4:(ks.map fun x=>x.2.1).getD i 0=(ks[i]'(by omega)).2.1:=by simp[show i<ks.length by omega]
  have e5:ml.getD i (0,0)=ml[i]:=by simp[hi]
  rw[e4,e5,e2];rfl
 refine PySem.Calls.call_function_entry kind_sorted plain_sorted entry_sorted (args_sorted1 _) ?_;unfold Builtin.«sorted»;refine Mf (m:=checkCount "sorted" 1 1 _) (Mq (Mf (PySem.W.kdu_collect (A:=X.A.in1) (Qs.raw_src lo) (I.ok.hd hc) raw (by rw[l2,N8];omega) fun h' tk acc kp hacc=>?_)));have I1:aK X pins σ H { s with heap:=h',toks:=tk }:=I.kept kp
 have al:acc.toList.length=ml.length:=by rw[N3,hacc.1,l2]
 have ea:acc.toList=(ks.map fun x=>x.2.1).map Value.ref:=by
  apply List.ext_getElem?
  intro i
  by_cases hi:i<ml.length
  ·have hv:acc.toList[i]? = some (acc.toList[i]'(by omega)):=by simp[show i<acc.size by rw[hacc.1,l2];exact hi]
   obtain⟨e,he,hk⟩:=hacc.2 i _ (by rw[<-Array.getElem?_toList];exact hv);rw[hv,hk,List.getElem?_map,List.getElem?_map]
   have:es.toList[i]? = some e:=by rw[Array.getElem?_toList];exact he
   rw[hes,List.getElem?_map]at this
   cases ek:ks[i]? with
   | none=>rw[ek]at this;cases this
   | some x =>
    rw[ek]at this;have e2:=Mu this;rw[<-e2];rfl
  ·rw[List.getElem?_eq_none (by omega),List.getElem?_eq_none (by simp;omega)]
 have pa:Paired (Qs.PairAt h') acc.toList ml:=by
  rw[ea,<-o0 (0,0) ml,<-o0 0 (ks.map fun x=>x.2.1),Me,l1,M8];refine mw _ fun i hi=>?_
  have hi:i<ml.length:=by simpa using hi
  obtain⟨_,its,rv,ob,hob,hcl,n,hdt⟩:=(show bD X.prog X.w H h' _ (.tup _) from I1.hok _ _ (tup i hi))
  cases rv with
  | cons r1 r2 =>
   cases r2 with
   | cons r3 r4 =>
    cases r4;obtain⟨t,rfl⟩:=r1;obtain⟨t',rfl⟩:=r3;exact⟨_,ob,n,t,t',rfl,hob,hcl,hdt⟩
 refine Mf (wpAny_newList ?_ (by rw[al,N8];omega));have hoL:(h'.push (seqObj "list" acc.toList.toArray 0)).get? h'.objs.size=some (seqObj "list" acc.toList.toArray 0):=Heap.get?_push_size _ rfl;have c9:Paired (Qs.PairAt (h'.push (seqObj "list" acc.toList.toArray 0))) acc.toList ml:=Paired.mapP pa fun v x ⟨b,ob,n,t,t',e,hb,hc',hd'⟩=>⟨b,ob,n,t,t',e,Heap.get?_push_of_some _ hb,hc',hd'⟩;refine Mf (NA (N6 slot_list_sort ⟨_,hoL,rfl⟩ entry_list_sort (Qs.sort_pairs hoL c9 nd (by rw[al];exact h64) fun out so=>⟨_,rfl,?_⟩) (args_list_sort _)));refine Mq ⟨_,rfl,?_⟩;obtain⟨ix,hx,hout,hso⟩:=so;rw[al]at hx
 have hin:∀ i∈ix,i<ml.length:=fun i hi=>by have:=hx.mem_iff.mp hi;simpa using this
 have eo:out=(ix.map fun i=>(ks.map fun x=>x.2.1).getD i 0).map Value.ref:=by
  rw[hout,M8];refine NT fun i hi=>?_;have:=hin i hi;rw[ea]
  show ((ks.map fun x=>x.2.1).map Value.ref).getD i Value.none=Value.ref ((ks.map fun x=>x.2.1).getD i 0)
  simp[show i<ks.length by omega]
 obtain⟨e,he⟩:=sortedHeap_at (vs:=acc.toList) (out:=out.toArray) hoL
 have hl2:out.length=ml.length:=by rw[eo,Me,Me,hx.length_eq,ND]
 have vr:∀ l:List Addr,bw (l.map V.ref) (l.map Value.ref):=fun l=>by
  induction l with
  | nil=>exact .nil
  | cons a l ih=>exact .cons rfl ih
 have fr:=I1.hok.fresh (Mn h'.objs.size);refine⟨.ref h'.objs.size,_,I1.laid (t':=tk) (a:=h'.objs.size) (o:=.lst ((ix.map fun i=>(ks.map fun x=>x.2.1).getD i 0).map V.ref)) (fun b ob eb=>?_) (Mn _) ⟨?_,out,e,?_,by simpa using he⟩,rfl,?_⟩
 ·rw[sortedHeap_old (MB (Mw eb)) (by rw[size_push'];exact NM (Mw eb))]
  exact Heap.get?_push_of_some _ eb
 ·rw[Me,Me,hx.length_eq,ND,N8];omega
 ·rw[eo];exact vr _
 ·refine q h'.objs.size (ix.map fun i=>ml.getD i (0,0)) _ fr (ag fr) ⟨_,ac,?_⟩ ?_ hso
  ·refine mw ix fun i hi=>(ag fr) _ _ (tup i (hin i hi))
  ·have:=hx.map fun i=>ml.getD i (0,0)
   rwa [o0]at this
end Wz
namespace L2
open PySem PySem.Spec PyProof.Rows
theorem aK.thaw {X:Cx}{pins:List (Addr×Obj)}{σ:St}{H:Hp}{s:Shared}{d:Addr}{o:Obj}{u:HO}(I:aK X pins σ H s)(hd:H d=some (.frz o u))(h0:∀ o' u',X.H₀ d≠some (.frz o' u')):aK X pins σ (upd H d u) s:=by
 have up:∀ b,upd H d u b=none->H b=none:=fun b e=>by
  by_cases hb:b=d
  ·rw[hb,ac]at e;cases e
  ·rw[af hb]at e;exact e
 have dn:∀ b,H b=none->upd H d u b=none:=fun b e=>by rw[af (fun z=>by rw[z,hd]at e;cases e)];exact e
 have ne:∀ b v,H b=some v->(∀ o' u',v≠.frz o' u')->b≠d:=fun b v e n z=>by rw[z,hd]at e;exact n _ _ (Mu e).symm
 refine⟨I.ok,I.os,I.bare,⟨I.base.keep,I.base.slot,fun b ob e n hx=>dn _ (I.base.free b ob e n hx),I.base.there,fun b xs e=>?_,fun b ob v e=>?_,fun b ps e=>?_⟩,I.loc,I.cell,dn _ I.free,fun x c e=>dn _ (I.freeC x c e),fun p hp=>?_,fun b ob e=>?_,I.len⟩
 ·have e1:=I.base.tups b xs e
  rw[af (ne b _ e1 (fun _ _ z=>by cases z))];exact e1
 ·have nb:b≠d:=fun z=>h0 ob v (by rw[<-z];exact e)
  rw[af nb];exact I.base.frzs b ob v e
 ·obtain⟨more,e1⟩:=I.base.tbls b ps e
  exact⟨more,by rw[af (ne b _ e1 (fun _ _ z=>by cases z))];exact e1⟩
 ·obtain⟨a1,a2,a3⟩:=I.pin p hp
  exact⟨a1,dn _ a2,a3⟩
 ·have tr:∀ v,bD X.prog X.w H s.heap b v->bD X.prog X.w (upd H d u) s.heap b v:=fun v x=>x.stay (fun c w' hc q=>q) (fun c q=>(by rw[af (ne c _ q (fun _ _ z=>by cases z))];exact q)) (fun c y q=>(by rw[af (ne c _ q (fun _ _ z=>by cases z))];exact q))
  by_cases hb:b=d
  ·rw[hb,ac]at e
   cases e;obtain⟨_,x⟩:=(show bD X.prog X.w H s.heap d (.frz o u) from I.hok d _ hd);rw[hb];rw[hb]at tr;exact tr u x
  ·rw[af hb]at e
   exact tr ob (I.hok b ob e)
def Ku (H0:Hp)(nx:St->Hp->Prop):St->Hp->Prop:=fun σ H=>∃ d o u,H d=some (.frz o u)/\(∀ o' u',H0 d≠some (.frz o' u'))/\nx σ (upd H d u)
theorem Dc {X:Cx}{st:Stmt}{t:TS}(h:PS X st t):PS X st (fun D σ H=>t { D with nx:=Ku X.H₀ D.nx } σ H):=by
 intro pins s σ H D I ht;refine bH (h pins s σ H _ I ht) fun f s' hq=>?_
 cases f with
 | next=>obtain⟨σ',H',I',d,o,u,hd,h0,q⟩:=hq;exact⟨σ',_,I'.thaw hd h0,q⟩
 | brk=>exact hq
 | cont=>exact hq
 | ret v=>exact hq
end L2
namespace Wz
open PySem L2
structure yb (L:List Int)(st:bX):Prop where
 kn:(st.circ.map (·.1)).Nodup
 kl:∀ x∈st.circ,x.1∈L/\x.2.Nodup/\∀ b∈x.2,b∈L
theorem K7 {L:List Int}:yb L ⟨[],[],[],[]⟩:=⟨Nj,fun x h=>by cases h⟩
theorem GM {L ks:List Int}{b:Int}(h:ks.Nodup/\∀ x∈ks,x∈L)(hb:b∈L):(gI ks b).Nodup/\∀ x∈gI ks b,x∈L:=by
 unfold gI;split
 ·exact h
 ·rename_i n
  refine⟨ny h.1 n,fun x hx=>?_⟩;rcases Ml.mp hx with z | z
  ·exact h.2 x z
  ·rw[Mv.mp z];exact hb
theorem yd {L:List Int}{a b:Int}(ha:a∈L)(hb:b∈L):∀ {ci:List (Int×List Int)},(ci.map (·.1)).Nodup->(∀ x∈ci,x.1∈L/\x.2.Nodup/\∀ y∈x.2,y∈L) ->
  ((cr ci a b).map (·.1)).Nodup/\(∀ x∈cr ci a b,x.1∈L/\x.2.Nodup/\∀ y∈x.2,y∈L)/\∀ k,k∈(cr ci a b).map (·.1)->k∈ci.map (·.1)\/k=a
 | [],_,_=>by
  refine⟨by simp[cr],fun x hx=>?_,fun k hk=>?_⟩
  ·simp[cr]at hx
   subst hx;exact⟨ha,by simp,fun y hy=>by simp at hy;rw[hy];exact hb⟩
  ·simp[cr]at hk
   exact .inr hk
 | x::r,hn,hl=>by
  rw[MQ,MN]at hn;unfold cr
  by_cases h:x.1=a
  ·rw[Mi h]
   refine⟨by rw[MQ,MN];exact hn,fun y hy=>?_,fun k hk=>.inl (by simpa using hk)⟩;rcases Ms.mp hy with z | z
   ·subst z
    obtain⟨h1,h2,h3⟩:=hl x Mm;exact⟨h1,GM ⟨h2,h3⟩ hb⟩
   ·exact hl y (Mh _ z)
  ·rw[Mg h]
   obtain⟨i1,i2,i3⟩:=yd ha hb (ci:=r) hn.2 (fun y hy=>hl y (Mh _ hy));refine⟨?_,fun y hy=>?_,fun k hk=>?_⟩
   ·rw[MQ,MN]
    refine⟨fun z=>?_,i1⟩;rcases i3 _ z with z | z
    ·exact hn.1 z
    ·exact h z
   ·rcases Ms.mp hy with z | z
    ·subst z;exact hl _ Mm
    ·exact i2 y z
   ·rw[MQ]at hk
    rcases Ms.mp hk with z | z
    ·exact .inl (by rw[z];simp)
    ·rcases i3 k z with z | z
     ·exact .inl (Mh _ z)
     ·exact .inr z
theorem EU {L:List Int}{st:bX}{d:aX}(h:yb L st)(hn:∀ g∈names d,g∈L):yb L (cO st d):=by
 unfold cO;split
 ·cases d with
  | come g=>exact⟨h.kn,h.kl⟩
  | go g=>exact⟨h.kn,h.kl⟩
  | exch a b =>
   have ha:=hn a (by simp[names]);have hb:=hn b (by simp[names]);obtain⟨j1,j2,_⟩:=yd ha hb h.kn h.kl;obtain⟨k1,k2,_⟩:=yd hb ha j1 j2;exact⟨k1,k2⟩
 ·exact h
theorem qW {L:List Int}{a:Int}:∀ {ci:List (Int×List Int)},(∀ x∈ci,x.1∈L/\x.2.Nodup/\∀ y∈x.2,y∈L)->(dG ci a).Nodup/\(∀ y∈dG ci a,y∈L)/\∀ y,y∈dG ci a->a∈ci.map (·.1)
 | [],_=>⟨Nj,(fun y h=>by cases h),fun y h=>by cases h⟩
 | x::r,hl=>by
  unfold dG
  by_cases h:x.1=a
  ·rw[Mi h]
   obtain⟨_,h2,h3⟩:=hl x Mm;exact⟨h2,h3,fun y _=>by rw[<-h];simp⟩
  ·rw[Mg h]
   obtain⟨i1,i2,i3⟩:=qW (ci:=r) (a:=a) fun y hy=>hl y (Mh _ hy);exact⟨i1,i2,fun y hy=>Mh _ (i3 y hy)⟩
theorem yb.cl {L:List Int}{st:bX}(h:yb L st)(a:Int):(dG st.circ a).length<=L.length:=by obtain⟨h1,h2,_⟩:=qW (a:=a) h.kl;exact b7 h1 h2
theorem yb.kk {L:List Int}{st:bX}(h:yb L st):st.circ.length<=L.length:=by
 have:=b7 h.kn (m:=L) fun x hx=>by obtain⟨y,hy,e⟩:=MF.mp hx;rw[<-e];exact (h.kl y hy).1
 rwa [Me]at this
def e7 (ci:List (Int×List Int))(a:Int):List (Int×Int):=((bn (dG ci a)).filter fun b=>decide (a<b)).map fun b=>(a,b)
def fF (ci:List (Int×List Int)):List (Int×Int):=(bn (ci.map (·.1))).flatMap (e7 ci)
structure tG (ml:List (Int×Int)):Prop where
 nd:ml.Nodup
 lo:∀ p∈ml,p.1<p.2
theorem L1:tG []:=⟨Nj,fun p h=>by cases h⟩
theorem Hf {st:bX}{ml:List (Int×Int)}(h:tG ml)(d:aX):tG (oH st ml d):=by
 unfold oH;split
 ·rename_i hj
  cases d with
  | come g=>exact h
  | go g=>exact h
  | exch a b =>
   have hab:a≠b:=fun e=>by
    subst e
    cases e:look st.worn a with
    | none=>simp[ba,e]at hj
    | some m=>simp[ba,e]at hj
   show tG (pQ ml (bx a b))
   unfold pQ;split
   ·exact h
   ·rename_i n
    refine⟨?_,fun p hp=>?_⟩
    ·rw[MW]
     exact⟨h.nd,by simp,fun x hx y hy e=>n (by rw[Mv.mp hy]at e;rw[<-e];exact hx)⟩
    ·rcases Ml.mp hp with z | z
     ·exact h.lo p z
     ·rw[Mv.mp z]
      unfold bx;split
      ·assumption
      ·show a<b
       omega
 ·exact h
theorem qi {L:List Int}{st:bX}(h:yb L st):(fF st.circ).Pairwise fun a b=>Qs.ltP a b=true:=by
 have ss:∀ l:List Int,l.Nodup->(bn l).Pairwise (· < ·):=fun l nd=>by
  have h1:=Cu l;have h2:(bn l).Nodup:=(gn l).nodup_iff.mpr nd
  exact (h1.and h2).imp fun {a b} ⟨x,y⟩=>by have:a≠b:=y;omega
 unfold fF;rw[List.pairwise_flatMap];refine⟨fun a ha=>?_,(ss _ h.kn).imp fun {a b} hab x hx y hy=>?_⟩
 ·unfold e7
  rw[N1];refine ((ss _ (qW h.kl).1).filter _).imp fun {x y} hxy=>?_;unfold Qs.ltP;exact Mp (.inr ⟨rfl,hxy⟩)
 ·unfold e7 at hx hy
  obtain⟨x',_,rfl⟩:=MF.mp hx;obtain⟨y',_,rfl⟩:=MF.mp hy;unfold Qs.ltP;exact Mp (.inl hab)
theorem x8 {L:List Int}{st:bX}{ml:List (Int×Int)}(h:yb L st)(al:jv st ml)(ok:tG ml)(p:Int×Int):p∈fF st.circ↔p∈ml:=by
 obtain⟨a,b⟩:=p
 have hm:b∈dG st.circ a↔bx a b∈ml:=by
  have:=al a b;unfold cY k7 at this;constructor
  ·intro z;rw[Mp z]at this;exact Nl this.symm
  ·intro z;rw[Mp z]at this;exact Nl this
 unfold fF;rw[List.mem_flatMap];constructor
 ·rintro⟨a',ha',hb⟩
  unfold e7 at hb;obtain⟨b',hb',e⟩:=MF.mp hb;cases e;obtain⟨h1,h2⟩:=Nh.mp hb';have h2:=Nl h2;have:=hm.mp (f6.mp h1);unfold bx at this;rw[Mg (by omega)]at this;exact this
 ·intro hp
  have hlt:=ok.lo _ hp;have hb:b∈dG st.circ a:=hm.mpr (by unfold bx;rw[Mg (by show ¬ b<a;have:a<b:=hlt;omega)];exact hp);refine⟨a,f6.mpr ((qW h.kl).2.2 b hb),?_⟩;unfold e7;exact MF.mpr ⟨b,Nh.mpr ⟨f6.mpr hb,Mp hlt⟩,rfl⟩
theorem FQ {L:List Int}{st:bX}{ml qs:List (Int×Int)}(h:yb L st)(al:jv st ml)(ok:tG ml)(hp:qs.Perm ml)(hs:qs.Pairwise fun a b=>Qs.ltP a b=true):fF st.circ=qs:=by
 have p1:=qi h
 have irr:∀ a b:Int×Int,Qs.ltP a b=true->a≠b:=fun a b z e=>by rw[e,Qs.ltP_irr]at z;cases z
 have nd1:(fF st.circ).Nodup:=p1.imp fun {a b} z=>irr a b z;have nd2:qs.Nodup:=hp.nodup_iff.mpr ok.nd
 have pm:(fF st.circ).Perm qs:=(List.perm_ext_iff_of_nodup nd1 nd2).mpr fun x=>by rw[x8 h al ok,hp.mem_iff]
 exact pm.eq_of_pairwise (fun a b _ _ z1 z2=>by have:=Qs.ltP_tr z1 z2;rw[Qs.ltP_irr]at this;cases this) p1 hs
inductive gr (C:Addr) (vs:List V) (H:Hp) (Q:VK) (E_:XK):Prop
 | mk (p:Addr) (A:HA) (st:bX) (g:Int) (h_0:vs=[.ref p,.int g]) (h_1:aM C H p A st) (h_2:(dG st.circ g).length<64) (h_3:∀ (l:Addr)(H':Hp),H l=none->ax H H'->H' l=some (.lst ((bn (dG st.circ g)).map V.int))->Q (.ref l) H'):gr C vs H Q E_
inductive qC (C:Addr) (vs:List V) (H:Hp) (Q:VK) (E_:XK):Prop
 | mk (p:Addr) (A:HA) (st:bX) (L:List Int) (h_0:vs=[.ref p]) (h_1:aM C H p A st) (h_2:yb L st) (h_3:L.length<64) (h_4:(fF st.circ).length<=1000) (h_5:∀ (l:Addr)(H':Hp),H l=none->ax H H'->aY H' l (fF st.circ)->Q (.ref l) H'):qC C vs H Q E_
end Wz
namespace L2
open PySem PySem.Spec PyProof.Rows
inductive Kd (neg:Bool) (x:V) (y:V) (H:Hp) (Q:VK):Prop
 | mk (a b:Bool) (h_0:x=.bl a) (h_1:y=.bl b) (h_2:Q (.bl (if neg then !decide (a=b) else decide (a=b))) H):Kd neg x y H Q
theorem Ee {X:Cx}:sR X (compareOp .IsNot) (Kd true):=by
 intro pins s σ H x y v u Q I rx ry h;obtain⟨a,b,rfl,rfl,q⟩:=h;cases rx;cases ry;refine wpAny_isNot_plain rfl ⟨.bl _,H,I,?_,q⟩;cases a<;>cases b<;>rfl
theorem FZ {X:Cx}{tg:Expr}(K:PySem.W.Frag){l:Expr}{tl:TE}(hl:PE X l tl)(hK:X.K=K:=by rfl):PI X tg l (HV K tl):=by subst hK;exact bi hl
theorem Gv {wi1:TI}{g1:TG}{tt1:TT}{te:TE}{a:Addr}{D:kY}{σ:St}{H:Hp}(h:wi1 σ H fun J1 H2=>kT J1 g1 (EF tt1 te a) { nx:=D.nx,rt:=fun _ _=>False } σ H2):Jz wv wi1 g1 tt1 te a D σ H:=by
 unfold Jz wv;dsimp only;rw[Mi rfl];exact h
end L2
namespace Wz
open PySem L2
inductive qJ (c:HX) (vs:List V) (H:Hp) (Q:VK) (E_:XK):Prop
 | mk (p w m ls:Addr) (A:HA) (st:bX) (ml:List (Int×Int)) (L:List Int) (h_0:vs=[.ref p,.ref w,.ref m,.ref ls]) (h_1:aM c.C H p A st) (h_2:w∉A.fp) (h_3:H w=some (.dK (dk st.worn))) (h_4:H m=some (.dT (rq ml))) (h_5:bZ H ls st.deeds) (h_6:dZ st) (h_7:jv st ml) (h_8:yb L st) (h_9:tG ml) (h_10:L.length<64) (h_11:ml.length<64) (h_12:st.worn.length<64) (h_13:(∀ g∈aq st.worn,bj g)) (h_14:∀ H',ax H H'->Q (.bl true) H'):qJ c vs H Q E_
end Wz
namespace L2
open PySem PySem.Spec PyProof.Rows
end L2
namespace Wz
open PySem L2
def lV:aX->Bool
 | .exch _ _=>true
 | _=>false
inductive qy (K:PySem.W.Frag) (vs:List V) (H:Hp) (Q:VK) (E_:XK):Prop
 | mk (a:Addr) (ns:List Int) (h_0:vs=[.ref a]) (h_1:aW K H a (ns.map V.int)) (h_2:∀ (l:Addr)(H':Hp)(ds:List aX),H l=none->ax H H'->bZ H' l ds->(∀ d∈ds,∀ g∈names d,g∈bc 40 (de ns 1))->ds.length<=88->(ds.filter lV).length<=48->Q (.ref l) H'):qy K vs H Q E_
theorem BN (st:bX)(ml:List (Int×Int))(d:aX):(oH st ml d).length<=ml.length+(if lV d then 1 else 0):=by
 unfold oH;split
 ·cases d with
  | come g=>exact Mn _
  | go g=>exact Mn _
  | exch a b=>show (pQ ml _).length<=_;unfold pQ;split<;>simp[lV]
 ·omega
end Wz
namespace L2
open PySem PySem.Spec PyProof.Rows
end L2
namespace Wz
open PySem L2
def fm (ds:List aX):List (Int×Int):=ds.foldl oW []
theorem xY (ds:List aX)(d:aX):fm (ds++[d])=oW (fm ds) d:=by unfold fm;rw[M0];rfl
theorem u5:∀ (ds:List aX)(st:bX),(ds.foldl after st).deeds=st.deeds++ds
 | [],st=>by simp
 | d::ds,st=>by rw[NR,u5 ds,zP,Nf];rfl
theorem py (ds:List aX):(az ds).deeds=ds:=by unfold az;rw[u5];rfl
structure IB (L:List Int)(ds:List aX):Prop where
 good:dZ (az ds)
 of:Of L (az ds)
 sz:Sz ds.length (az ds)
 al:jv (az ds) (fm ds)
 ci:yb L (az ds)
 mo:tG (fm ds)
 ml:(fm ds).length<=(ds.filter lV).length
theorem Ll {L:List Int}:IB L []:=⟨o5,of_empty,LU,zQ,K7,L1,Mn _⟩
theorem dM {ds:List aX}{d:aX}(hj:ba (az ds) d=.done):cO (az ds) d=az (ds++[d]):=by unfold cO;rw[Mi hj,iw]
theorem o8 {ds:List aX}{d:aX}(hj:ba (az ds) d=.done):oH (az ds) (fm ds) d=fm (ds++[d]):=by unfold oH;rw[Mi hj,xY]
theorem IB.next {L:List Int}{ds:List aX}{d:aX}(h:IB L ds)(hj:ba (az ds) d=.done)(hn:∀ g∈names d,g∈L/\bj g):IB L (ds++[d]):=by
 have e1:=dM hj;have e2:=o8 hj;refine⟨?_,?_,?_,?_,?_,?_,?_⟩
 ·rw[<-e1];exact qZ h.good fun g hg=>(hn g hg).2
 ·rw[<-e1];exact Da h.good h.of fun g hg=>(hn g hg).1
 ·rw[<-e1,Mj];exact Dm h.sz d
 ·rw[<-e1,<-e2];exact Bx h.al
 ·rw[<-e1];exact EU h.ci fun g hg=>(hn g hg).1
 ·rw[<-e2];exact Hf h.mo d
 ·rw[<-e2,M5,Mj]
  have h1:=BN (az ds) (fm ds) d;have h2:=h.ml;cases e:lV d<;>simp[e]at h1 ⊢<;>omega
theorem iG {L:List Int}{ds:List aX}(hd:bW ds)(hn:∀ d∈ds,∀ g∈names d,g∈L/\bj g):∀ i,IB L (ds.take i)
 | 0=>Ll
 | i+1=>by
  have ih:=iG hd hn i;rw[MG]
  cases e:ds[i]? with
  | none=>simpa using ih
  | some d=>rw[ML];exact ih.next (hd i d e) (hn d (MA e))
inductive ka (K:PySem.W.Frag) (vs:List V) (H:Hp) (Q:VK) (E_:XK):Prop
 | mk (a:Addr) (ns:List Int) (h_0:vs=[.ref a]) (h_1:aW K H a (ns.map V.int)) (h_2:∀ (t w m ls:Addr)(H':Hp)(es:List aX),ax H H'->H' t=some (.tup [.ref w,.ref m,.ref ls])->yc H H' w m ls (az es) (fm es)->bW es->(∀ d∈es,∀ g∈names d,g∈bc 40 (de ns 1))->es.length<=88->(es.filter lV).length<=48->Q (.ref t) H'):ka K vs H Q E_
end Wz
namespace L2
open PySem PySem.Spec PyProof.Rows
theorem IW {X:Cx}(K:PySem.W.Frag)(hK:X.K=K:=by rfl):sR X (compareOp .In) (Ln K false):=by subst hK;exact Ed
end L2
namespace Wz
open PySem L2
theorem yn {i j c:Int}(hi:0<=i/\i<100)(hj:0<=j/\j<100)(h:d7 i c=d7 j c):i=j:=by
 have ht0:0<=iB c*1234567891%2147483646:=No _ (by decide);have ht1:iB c*1234567891%2147483646<2147483646:=Np _ (by decide);unfold d7 at h;dsimp only at h;generalize iB c*1234567891%2147483646=t0 at *;generalize iB c/2147483646=q at *
 have h2:(i*(1+t0)+q)%2147483647=(j*(1+t0)+q)%2147483647:=by
  by_cases e:iB c%5=4
  ·rw[Mi e,Mi e]at h;omega
  ·rw[Mg e,Mg e]at h;exact h
 have h3:(2147483647:Int) ∣ (i-j)*(1+t0):=by
  have h5:=Int.dvd_of_emod_eq_zero (Int.emod_eq_emod_iff_emod_sub_eq_zero.mp h2)
  have e:i*(1+t0)+q-(j*(1+t0)+q)=(i-j)*(1+t0):=by rw[Int.sub_mul];omega
  rw[e]at h5;exact h5
 have key:∀ d:Nat,d<100->d≠0->Nat.gcd 2147483647 d=1:=by decide +kernel
 by_cases hij:i=j
 ·exact hij
 exfalso
 have h6:2147483647 ∣ (i-j).natAbs*(1+t0).natAbs:=by
  have:=Int.natAbs_dvd_natAbs.mpr h3;rw[Int.natAbs_mul]at this;exact this
 have h7:2147483647 ∣ (1+t0).natAbs:=Nat.Coprime.dvd_of_dvd_mul_left (key _ (by omega) (by omega)) h6;have:=Nat.le_of_dvd (by omega) h7;omega
inductive um (c:HX) (vs:List V) (H:Hp) (Q:VK) (E:XK):Prop
 | mk (p:Addr) (A:HA) (st:bX) (g:Int) (h_0:vs=[.ref p,.int g]) (h_1:aM c.C H p A st) (h_2:bj g) (h_3:(dG st.circ g).length<64) (h_4:(if (look st.worn g).isSome=true then ∀ H',ax H H'->Q (.bl (decide (dG st.circ g=[]))) H' else ∀ dx H',ax H H'->H' dx=some (.xd [("guest",.int g)])->E (.ref c.cN) (some dx) H')):um c vs H Q E
inductive wg (vs:List V) (H:Hp) (Q:VK) (E_:XK):Prop
 | mk (k c:Int) (h_0:vs=[.int k,.int c]) (h_1:(0<=k/\k<=1000)) (h_2:Q (.int (d7 (60+k) c)) H):wg vs H Q E_
inductive wf (vs:List V) (H:Hp) (Q:VK) (E_:XK):Prop
 | mk (t ld w m ls:Addr) (H0:Hp) (es ds:List aX) (L:List Int) (h_0:vs=[.ref t,.ref ld]) (h_1:H t=some (.tup [.ref w,.ref m,.ref ls])) (h_2:yc H0 H w m ls (az es) (fm es)) (h_3:bZ H ld ds) (h_4:ld≠ls) (h_5:bW (es++ds)) (h_6:L.length<=100) (h_7:(∀ d∈es++ds,∀ g∈names d,g∈L/\bj g)) (h_8:(es++ds).length<=300) (h_9:∀ H',yc H0 H' w m ls (az (es++ds)) (fm (es++ds))->(∀ b o,H b=some o->b≠w->b≠m->b≠ls->H' b=some o)->Q (.ref t) H'):wf vs H Q E_
inductive nL (c:HX) (vs:List V) (H:Hp) (Q:VK) (E_:XK):Prop
 | mk (l:Addr) (ds:List aX) (L:List Int) (h_0:vs=[.ref l]) (h_1:bZ H l ds) (h_2:bW ds) (h_3:ds.length<=300) (h_4:L.length<=100) (h_5:(∀ d∈ds,∀ g∈names d,g∈L/\bj g)) (h_6:∀ (x:Addr)(B:HA)(H':Hp),H x=none->Ev c H H' x B (az ds)->Q (.ref x) H'):nL c vs H Q E_
structure Ky (n:Int)(es:List aX):Prop where
 dn:bW es
 nm:∀ d∈es,∀ g∈names d,g∈bc 62 n/\bj g
 len:es.length<=92
 ex:(es.filter lV).length<=48
 l0:look (az es).worn (d7 60 n)=some (d7 60 n)
 l1:look (az es).worn (d7 61 n)=some (d7 61 n)
 m1:∀ x,cY (az es).circ x (d7 61 n)=false
 m0:∀ x,cY (az es).circ x (d7 60 n)=false
inductive uv (K:PySem.W.Frag) (vs:List V) (H:Hp) (Q:VK) (E_:XK):Prop
 | mk (a:Addr) (ns:List Int) (h_0:vs=[.ref a]) (h_1:aW K H a (ns.map V.int)) (h_2:∀ (t w m ls:Addr)(H':Hp)(es:List aX),ax H H'->H' t=some (.tup [.ref w,.ref m,.ref ls])->yc H H' w m ls (az es) (fm es)->Ky (de ns 1) es->Q (.ref t) H'):uv K vs H Q E_
theorem ue {k c m:Int}(h:0<=k/\k<m):d7 k c∈bc m c:=by
 unfold bc;rw[MF];exact⟨k.toNat,Nd.mpr (by omega),by rw[On h.1]⟩
theorem vo {m c g:Int}(h:g∈bc m c):∃ k:Int,(0<=k/\k<m)/\g=d7 k c:=by
 unfold bc at h;obtain⟨k,hk,rfl⟩:=MF.mp h;have:=Nd.mp hk;exact⟨k,by omega,rfl⟩
theorem B3 {m n c g:Int}(h:g∈bc m c)(hmn:m<=n):g∈bc n c:=by
 obtain⟨k,hk,rfl⟩:=vo h;exact ue ⟨hk.1,by omega⟩
theorem jV {k m c:Int}(hm:m<=k)(hk:k<100)(h0:0<=k):d7 k c∉bc m c:=fun z=>by
 obtain⟨j,hj,e⟩:=vo z;have:=yn ⟨h0,hk⟩ ⟨hj.1,by omega⟩ e;omega
theorem Ad {st:bX}{L:List Int}{g:Int}(o:Of L st)(h:g∉L):look st.worn g=none:=by
 cases e:look st.worn g with
 | none=>rfl
 | some m=>exact absurd (o.1 g (bd.mp (by rw[e];rfl))) h
theorem Gh {n:Int}{es:List aX}(dn:bW es)(nm:∀ d∈es,∀ g∈names d,g∈bc 40 n)(len:es.length<=88)(ex:(es.filter lV).length<=48) :
  Ky n (es++[.come (d7 60 n),.come (d7 61 n)])/\Ky n (es++[.come (d7 60 n),.come (d7 61 n),.go (d7 60 n),.come (d7 60 n)]):=by
 have nmS:∀ d∈es,∀ g∈names d,g∈bc 40 n/\bj g:=fun d hd g hg=>⟨nm d hd g hg,db (nm d hd g hg)⟩;have P:=iG dn nmS es.length;rw[MI]at P;have q0:=Ad P.of (jV (k:=60) (m:=40) (c:=n) (by decide) (by decide) (by decide));have q1:=Ad P.of (jV (k:=61) (m:=40) (c:=n) (by decide) (by decide) (by decide))
 have mm:∀ x,cY (az es).circ x (d7 61 n)=false:=fun x=>by
  unfold cY;exact Mx fun z=>jV (k:=61) (m:=40) (c:=n) (by decide) (by decide) (by decide) ((qW (a:=x) P.ci.kl).2.1 _ z)
 have mn:∀ x,cY (az es).circ x (d7 60 n)=false:=fun x=>by
  unfold cY;exact Mx fun z=>jV (k:=60) (m:=40) (c:=n) (by decide) (by decide) (by decide) ((qW (a:=x) P.ci.kl).2.1 _ z)
 have ne:d7 60 n≠d7 61 n:=fun z=>by have:=yn (by decide) (by decide) z;omega
 have h0:d7 60 n∈bc 62 n:=ue (by decide);have h1:d7 61 n∈bc 62 n:=ue (by decide);generalize e0:d7 60 n=g0 at *;generalize e1:d7 61 n=g1 at *;have s0:bj g0:=db h0;have s1:bj g1:=db h1
 have jc:∀ (st:bX)(g:Int),look st.worn g=none->ba st (.come g)=.done:=fun st g h=>by simp[ba,h]
 have lc:∀ (st:bX)(g x:Int),look (after st (.come g)).worn x=if x=g then some g else look st.worn x:=fun st g x=>dj _ _ _ _
 have lg:∀ (st:bX)(g x:Int),look (after st (.go g)).worn x=if x=g then none else look st.worn x:=fun st g x=>iu _ _ _
 have d1:=cj dn (jc _ g0 q0);have t1:=iw es (.come g0)
 have a1:look (az (es++[.come g0])).worn g1=none:=by rw[t1,lc,Mg (ME ne)];exact q1
 have d2:=cj d1 (jc _ g1 a1);have t2:=iw (es++[.come g0]) (.come g1)
 have b0:look (az (es++[.come g0]++[.come g1])).worn g0=some g0:=by rw[t2,lc,Mg ne,t1,lc,Mi rfl]
 have b1:look (az (es++[.come g0]++[.come g1])).worn g1=some g1:=by rw[t2,lc,Mi rfl]
 have c2:(az (es++[.come g0]++[.come g1])).circ=(az es).circ:=by rw[t2,t1];rfl
 have jg:∀ (st:bX)(g:Int),look st.worn g=some g->ba st (.go g)=.done:=fun st g h=>by simp[ba,h]
 have d3:=cj d2 (jg _ g0 b0);have t3:=iw (es++[.come g0]++[.come g1]) (.go g0)
 have a3:look (az (es++[.come g0]++[.come g1]++[.go g0])).worn g0=none:=by rw[t3,lg,Mi rfl]
 have d4:=cj d3 (jc _ g0 a3);have t4:=iw (es++[.come g0]++[.come g1]++[.go g0]) (.come g0)
 have f0:look (az (es++[.come g0]++[.come g1]++[.go g0]++[.come g0])).worn g0=some g0:=by rw[t4,lc,Mi rfl]
 have f1:look (az (es++[.come g0]++[.come g1]++[.go g0]++[.come g0])).worn g1=some g1:=by rw[t4,lc,Mg (ME ne),t3,lg,Mg (ME ne)];exact b1
 have c4:(az (es++[.come g0]++[.come g1]++[.go g0]++[.come g0])).circ=(az es).circ:=by rw[t4,t3];exact c2
 have big:∀ d∈es,∀ g∈names d,g∈bc 62 n/\bj g:=fun d hd g hg=>⟨B3 (nm d hd g hg) (by decide),db (nm d hd g hg)⟩
 have x1:es++[.come g0,.come g1]=es++[.come g0]++[.come g1]:=by simp
 have x2:es++[.come g0,.come g1,.go g0,.come g0]=es++[.come g0]++[.come g1]++[.go g0]++[.come g0]:=by simp
 constructor
 ·rw[x1]
  refine⟨d2,fun d hd=>?_,by simp;omega,?_,by rw[e0];exact b0,by rw[e1];exact b1,(fun x=>by rw[c2,e1];exact mm x),fun x=>by rw[c2,e0];exact mn x⟩
  ·rw[Nf]at hd
   rcases Ml.mp hd with z | z
   ·exact big d z
   ·simp at z
    intro g hg;rcases z with rfl | rfl<;>(simp[names]at hg;subst hg)
    ·exact⟨h0,s0⟩
    ·exact⟨h1,s1⟩
  ·rw[M5,M5]
   simp[lV];exact ex
 ·rw[x2]
  refine⟨d4,fun d hd=>?_,by simp;omega,?_,by rw[e0];exact f0,by rw[e1];exact f1,(fun x=>by rw[c4,e1];exact mm x),fun x=>by rw[c4,e0];exact mn x⟩
  ·rw[<-x2]at hd
   rcases Ml.mp hd with z | z
   ·exact big d z
   ·simp at z
    intro g hg;rcases z with rfl | rfl | rfl | rfl<;>(simp[names]at hg;subst hg)
    ·exact⟨h0,s0⟩
    ·exact⟨h1,s1⟩
    ·exact⟨h0,s0⟩
    ·exact⟨h0,s0⟩
  ·rw[M5,M5,M5,M5]
   simp[lV];exact ex
def GE (f:Int->Int):Prop:=∀ a b,f a=f b->a=b
theorem wA {w:List (Int×Int)}{g:Int}(h:g∉aq w):wr w g=g:=by
 unfold wr
 cases e:look w g with
 | none=>rfl
 | some m=>exact absurd (bd.mp (by rw[e];rfl)) h
def iter (f:Int->Int):Nat->Int->Int
 | 0,g=>g
 | n+1,g=>f (iter f n g)
theorem cX (f:Int->Int)(m:Nat):∀ (n:Nat)(g:Int),iter f (n+m) g=iter f n (iter f m g)
 | 0,_=>by rw[Nat.zero_add];rfl
 | n+1,g=>by
  rw[Nat.add_right_comm]
  show f (iter f (n+m) g)=f (iter f n (iter f m g))
  rw[cX f m n g]
theorem p7 {f:Int->Int}(h:GE f):∀ (n:Nat){a b:Int},iter f n a=iter f n b->a=b
 | 0,_,_,e=>e
 | n+1,_,_,e=>p7 h n (h _ _ e)
theorem ni {f:Int->Int}{ks:List Int}(hk:∀ g∈ks,f g∈ks){g:Int}(hg:g∈ks):∀ n,iter f n g∈ks
 | 0=>hg
 | n+1=>hk _ (ni hk hg n)
theorem rC:∀ {l:List Int},¬ l.Nodup->∃ i j:Nat,i<j/\∃ x,l[i]? = some x/\l[j]? = some x
 | [],h=>absurd Nj h
 | a::r,h=>by
  by_cases ha:a∈r
  ·obtain⟨n,hn,e⟩:=List.getElem_of_mem ha
   exact⟨0,n+1,Nat.succ_pos _,a,rfl,by rw[List.getElem?_cons_succ,List.getElem?_eq_getElem hn,e]⟩
  ·have hr:¬ r.Nodup:=fun z=>h (MN.mpr ⟨ha,z⟩)
   obtain⟨i,j,hij,x,e1,e2⟩:=rC hr;exact⟨i+1,j+1,Nat.succ_lt_succ hij,x,by simpa using e1,by simpa using e2⟩
theorem BA {f:Int->Int}(hf:GE f){ks:List Int}(hk:∀ g∈ks,f g∈ks){g:Int}(hg:g∈ks):∃ n,0<n/\n<=ks.length/\iter f n g=g:=by
 have h:¬ ((List.range (ks.length+1)).map fun n=>iter f n g).Nodup:=fun nd=>by
  have:=b7 nd (m:=ks) fun x hx=>by
   obtain⟨n,_,rfl⟩:=MF.mp hx;exact ni hk hg n
  rw[Me,ND]at this;omega
 obtain⟨i,j,hij,x,e1,e2⟩:=rC h;rw[List.getElem?_map]at e1 e2
 have hj:j<ks.length+1:=by
  have:=(List.getElem?_eq_some_iff.mp (show ((List.range (ks.length+1)).map fun n=>iter f n g)[j]? = some x by rw[List.getElem?_map];exact e2)).1;simpa using this
 have hi:i<ks.length+1:=by omega
 rw[List.getElem?_range hi]at e1;rw[List.getElem?_range hj]at e2;have e1':iter f i g=x:=Mu e1;have e2':iter f j g=x:=Mu e2;refine⟨j-i,by omega,by omega,?_⟩
 have e3:iter f (i+(j-i)) g=iter f i g:=by rw[show i+(j-i)=j by omega,e2',e1']
 rw[cX]at e3;exact p7 hf i e3
theorem BE {f:Int->Int}{g:Int}:∀ (n:Nat),0<n->iter f n g=g->∃ m,0<m/\m<=n/\iter f m g=g/\∀ k,0<k->k<m->iter f k g≠g:=by
 intro n
 induction n using Nat.strongRecOn with
 | _ n ih =>
  intro hn he
  by_cases h:∃ k,0<k/\k<n/\iter f k g=g
  ·obtain⟨k,k0,kn,ke⟩:=h
   obtain⟨m,m0,mk,me,mf⟩:=ih k kn k0 ke;exact⟨m,m0,by omega,me,mf⟩
  ·exact⟨n,hn,Mn _,he,fun k k0 kn ke=>h ⟨k,k0,kn,ke⟩⟩
def aE (f:Int->Int)(g:Int)(m:Nat):List Int:=(List.range m).map fun i=>iter f i g
theorem f8 {f:Int->Int}(hf:GE f){g:Int}{m:Nat}(hm:∀ k,0<k->k<m->iter f k g≠g):(aE f g m).Nodup:=by
 cases Classical.em (aE f g m).Nodup with
 | inl h=>exact h
 | inr h =>
  obtain⟨i,j,hij,x,e1,e2⟩:=rC h;unfold aE at e1 e2
  have hj:j<m:=by
   have:=(List.getElem?_eq_some_iff.mp e2).1;simpa using this
  rw[List.getElem?_map,List.getElem?_range (by omega)]at e1;rw[List.getElem?_map,List.getElem?_range hj]at e2;have e1':iter f i g=x:=Mu e1;have e2':iter f j g=x:=Mu e2
  have e3:iter f (i+(j-i)) g=iter f i g:=by rw[show i+(j-i)=j by omega,e2',e1']
  rw[cX]at e3;exact absurd (p7 hf i e3) (hm (j-i) (by omega) (by omega))
theorem mB {f:Int->Int}{g:Int}{m:Nat}(hm:0<m)(he:iter f m g=g){x:Int}(hx:x∈aE f g m):f x∈aE f g m:=by
 unfold aE at hx ⊢;obtain⟨i,hi,rfl⟩:=MF.mp hx;have hi:=Nd.mp hi
 by_cases h:i+1<m
 ·exact MF.mpr ⟨i+1,Nd.mpr h,rfl⟩
 ·refine MF.mpr ⟨0,Nd.mpr hm,?_⟩
  have:i+1=m:=by omega
  rw[<-this]at he;exact he.symm
theorem v7 (l:List Int):(bn l).Perm l:=Om l _
def cU (f:Int->Int)(g:Int)(m:Nat):Prop:=0<m/\iter f m g=g/\∀ k,0<k->k<m->iter f k g≠g
def pe (f:Int->Int)(N:Nat)(g:Int):Nat:=((List.range N).find? fun i=>decide (iter f (i+1) g=g)).getD 0+1
def c7 (f:Int->Int)(N:Nat)(g:Int):List Int:=aE f g (pe f N g)
theorem oZ (p:Nat->Bool):∀ (N m:Nat),m<N->p m=true->(∀ k,k<m->p k=false)->(List.range N).find? p=some m
 | 0,m,h,_,_=>by omega
 | N+1,m,h,hm,hk=>by
  rw[List.range_succ,List.find?_append]
  by_cases e:m<N
  ·rw[oZ p N m e hm hk];rfl
  ·have e:m=N:=by omega
   subst e;rw[List.find?_eq_none.mpr fun x hx=>by rw[hk x (Nd.mp hx)];simp];simp[hm]
theorem FP {f:Int->Int}{g:Int}{m N:Nat}(h:cU f g m)(hN:m<=N):pe f N g=m:=by
 obtain⟨h0,h1,h2⟩:=h;unfold pe;rw[oZ _ N (m-1) (by omega) (by rw[show m-1+1=m by omega];exact Mp h1) fun k hk=>Mx (h2 (k+1) (by omega) (by omega))];simp;omega
theorem xN {f:Int->Int}(hf:GE f){K:List Int}(hk:∀ g∈K,f g∈K){g:Int}(hg:g∈K){N:Nat}(hN:K.length<=N):cU f g (pe f N g):=by
 obtain⟨n,n0,n1,n2⟩:=BA hf hk hg;obtain⟨m,m0,m1,m2,m3⟩:=BE n n0 n2;have R:cU f g m:=⟨m0,m2,m3⟩;rw[FP R (by omega)];exact R
theorem cE {f:Int->Int}{g x:Int}{m:Nat}:x∈aE f g m↔∃ i,i<m/\x=iter f i g:=by
 unfold aE;rw[MF];constructor
 ·rintro⟨i,hi,rfl⟩;exact⟨i,Nd.mp hi,rfl⟩
 ·rintro⟨i,hi,rfl⟩;exact⟨i,Nd.mpr hi,rfl⟩
theorem sU {f:Int->Int}{S:List Int}(h:∀ x∈S,f x∈S):∀ (n:Nat){x:Int},x∈S->iter f n x∈S
 | 0,_,hx=>hx
 | n+1,_,hx=>h _ (sU h n hx)
theorem Cm {f:Int->Int}{g:Int}{m:Nat}(R:cU f g m){S:List Int}(hS:∀ x∈S,f x∈S)(hg:g∉S):∀ x∈aE f g m,x∉S:=fun x hx z=>by
 obtain⟨i,hi,rfl⟩:=cE.mp hx;have:=sU hS (m-i) z;rw[<-cX,show m-i+i=m by omega,R.2.1]at this;exact hg this
def dE (f:Int->Int)(N:Nat):List Int->List Int->List (List Int)
 | [],_=>[]
 | g::ks,S=>if g∈S then dE f N ks S else c7 f N g::dE f N ks (S++c7 f N g)
theorem du {f:Int->Int}(hf:GE f){K:List Int}(hk:∀ g∈K,f g∈K){N:Nat}(hN:K.length<=N):∀ (ks S:List Int),(∀ x∈ks,x∈K)->(∀ x∈S,f x∈S) ->
  (dE f N ks S).flatten.Nodup/\(∀ x∈(dE f N ks S).flatten,x∉S/\x∈K)/\(∀ x∈ks,x∈S\/x∈(dE f N ks S).flatten)/\∀ r∈dE f N ks S,∃ g∈ks,r=c7 f N g/\cU f g (pe f N g)
 | [],S,_,_=>by simp[dE]
 | g::ks,S,h1,h2=>by
  have hgK:=h1 g Mm;have h1':∀ x∈ks,x∈K:=fun x hx=>h1 x (Mh _ hx);unfold dE
  by_cases hg:g∈S
  ·rw[Mi hg]
   obtain⟨a,b,c,d⟩:=du hf hk hN ks S h1' h2;refine⟨a,b,fun x hx=>?_,fun r hr=>?_⟩
   ·rcases Ms.mp hx with rfl | z
    ·exact .inl hg
    ·exact c x z
   ·obtain⟨q,hq,e⟩:=d r hr
    exact⟨q,Mh _ hq,e⟩
  ·rw[Mg hg]
   have R:=xN hf hk hgK hN;have ap:=Cm R h2 hg;have cl:∀ x∈c7 f N g,f x∈c7 f N g:=fun x hx=>mB R.1 R.2.1 hx
   have inK:∀ x∈c7 f N g,x∈K:=fun x hx=>by
    obtain⟨i,hi,rfl⟩:=cE.mp hx;exact ni hk hgK i
   have g0:g∈c7 f N g:=cE.mpr ⟨0,R.1,rfl⟩
   obtain⟨a,b,c,d⟩:=du hf hk hN ks (S++c7 f N g) h1' fun x hx=>by
    rcases Ml.mp hx with z | z
    ·exact Ml.mpr (.inl (h2 x z))
    ·exact Ml.mpr (.inr (cl x z))
   rw[MJ];refine⟨?_,fun x hx=>?_,fun x hx=>?_,fun r hr=>?_⟩
   ·rw[MW]
    exact⟨f8 hf R.2.2,a,fun x hx y hy e=>(b y hy).1 (Ml.mpr (.inr (by rw[<-e];exact hx)))⟩
   ·rcases Ml.mp hx with z | z
    ·exact⟨ap x z,inK x z⟩
    ·exact⟨fun q=>(b x z).1 (Ml.mpr (.inl q)),(b x z).2⟩
   ·rcases Ms.mp hx with rfl | z
    ·exact .inr (Ml.mpr (.inl g0))
    ·rcases c x z with q | q
     ·rcases Ml.mp q with q | q
      ·exact .inl q
      ·exact .inr (Ml.mpr (.inl q))
     ·exact .inr (Ml.mpr (.inr q))
   ·rcases Ms.mp hr with rfl | z
    ·exact⟨g,Mm,rfl,R⟩
    ·obtain⟨q,hq,e⟩:=d r z
     exact⟨q,Mh _ hq,e⟩
theorem iq {f:Int->Int}{N:Nat}{g:Int}:(c7 f N g).length=pe f N g:=by unfold c7 aE;rw[Me,ND]
theorem Eg {f:Int->Int}{N:Nat}{g:Int}(h:f g≠g)(R:cU f g (pe f N g)):2<=pe f N g:=by
 have h0:=R.1
 by_cases e:pe f N g=1
 ·have:=R.2.1
  rw[e]at this;exact absurd this h
 ·omega
theorem Paired.mapP' {α β:Type}{F G:α->β->Prop}:∀ {l₁:List α}{l₂:List β},Paired F l₁ l₂->(∀ a b,a∈l₁->F a b->G a b)->Paired G l₁ l₂
 | _,_,.nil,_=>.nil
 | _,_,.cons e r,h=>.cons (h _ _ Mm e) (Paired.mapP' r fun a b ha=>h a b (Mh _ ha))
structure kU (W:List (Int×Int)):Prop where
 inj:GE (wr W)
 cl:∀ g∈aq W,wr W g∈aq W
 nd:(aq W).Nodup
theorem jW {W:List (Int×Int)}{g:Int}(h:g∈aq W):look W g=some (wr W g):=by
 obtain⟨m,e⟩:=MY.mp (bd.mpr h);unfold wr;rw[e];rfl
theorem dt {st:bX}(G:dZ st):kU st.worn:=by
 refine⟨fun a b e=>?_,fun g hg=>G.ow g _ (jW hg),G.wn⟩
 by_cases ha:a∈aq st.worn
 ·have ea:=jW ha
  by_cases hb:b∈aq st.worn
  ·have eb:=jW hb
   have h1:=(G.wh a _).mp ea;have h2:=(G.wh b _).mp eb;rw[e,h2]at h1;exact (Mu h1).symm
  ·have:=G.ow a _ ea
   rw[e,wA hb]at this;exact absurd this hb
 ·by_cases hb:b∈aq st.worn
  ·have:=G.ow b _ (jW hb)
   rw[<-e,wA ha]at this;exact absurd this ha
  ·rw[wA ha,wA hb]at e
   exact e
theorem lX (W:List (Int×Int)):(aq W).length=W.length:=by unfold aq;rw[Me]
theorem kU.ring {W:List (Int×Int)}(P:kU W){g:Int}(hg:g∈aq W):cU (wr W) g (pe (wr W) W.length g):=xN P.inj P.cl hg (by rw[lX];exact Mn _)
theorem kU.ord_le {W:List (Int×Int)}(P:kU W){g:Int}(hg:g∈aq W):pe (wr W) W.length g<=W.length:=by
 have h:=b7 (f8 P.inj (P.ring hg).2.2) (m:=aq W) fun x hx=>by
  obtain⟨i,_,rfl⟩:=cE.mp hx;exact ni P.cl hg i
 rw[lX]at h;unfold aE at h
 rwa [Me,ND]at h
def aQ (W:List (Int×Int)):List (List Int):=dE (wr W) W.length (aU W) []
theorem kU.wrong {W:List (Int×Int)}(P:kU W):(∀ g∈aU W,g∈aq W/\wr W g≠g)/\(aU W).Nodup/\(∀ g∈aU W,wr W g∈aU W)/\(aU W).length<=W.length:=by
 have m:∀ g,g∈aU W↔g∈aq W/\wr W g≠g:=fun g=>by
  unfold aU;rw[Nh,(v7 _).mem_iff];simp
 refine⟨fun g hg=>(m g).mp hg,((v7 _).nodup_iff.mpr P.nd).filter _,fun g hg=>(m _).mpr ⟨P.cl g ((m g).mp hg).1,fun z=>((m g).mp hg).2 (P.inj _ _ z)⟩,EM W⟩
theorem pj (f:Int->Int)(g:Int)(i:Nat):aE f g (i+1)=aE f g i++[iter f i g]:=by unfold aE;rw[List.range_succ,Mr];rfl
theorem b6 (f:Int->Int)(g:Int)(i:Nat):(aE f g i).length=i:=by unfold aE;rw[Me,ND]
def wq (f:Int->Int)(N:Nat)(q:List Int×List (List Int))(g:Int):List Int×List (List Int):=if g∈q.1 then q else (q.1++c7 f N g,q.2++[c7 f N g])
theorem jT (f:Int->Int)(N:Nat):∀ (ks S:List Int)(rs:List (List Int)),ks.foldl (wq f N) (S,rs)=(S++(dE f N ks S).flatten,rs++dE f N ks S)
 | [],S,rs=>by simp[dE]
 | g::ks,S,rs=>by
  rw[NR];unfold wq dE
  by_cases h:g∈S
  ·rw[Mi h,Mi h];exact jT f N ks S rs
  ·rw[Mg h,Mg h]
   have:=jT f N ks (S++c7 f N g) (rs++[c7 f N g]);unfold wq at this;rw[this,MJ];simp
def qR (W:List (Int×Int))(i:Nat):List Int×List (List Int):=((aU W).take i).foldl (wq (wr W) W.length) ([],[])
theorem F9 (W:List (Int×Int)){n:Nat}(h:(aU W).length<=n):(qR W n).2=aQ W:=by unfold qR;rw[Nb h,jT];rfl
theorem Hu {W:List (Int×Int)}{i:Nat}{g:Int}(h:(aU W)[i]? = some g):qR W (i+1)=wq (wr W) W.length (qR W i) g:=by unfold qR;rw[MG,h,ML,M0];rfl
theorem Ie {W:List (Int×Int)}(P:kU W)(i:Nat):(qR W i).1.Nodup/\(∀ x∈(qR W i).1,x∈aU W)/\(∀ x∈(qR W i).1,wr W x∈(qR W i).1)/\(qR W i).1.length<=W.length/\(qR W i).2.length<=i:=by
 obtain⟨w1,w2,w3,w4⟩:=P.wrong;have sub:∀ x∈(aU W).take i,x∈aU W:=fun x hx=>Na hx;obtain⟨a,b,c,d⟩:=du P.inj w3 w4 ((aU W).take i) [] sub (fun x h=>by cases h)
 have e:qR W i=((dE (wr W) W.length ((aU W).take i) []).flatten,dE (wr W) W.length ((aU W).take i) []):=by unfold qR;rw[jT];rfl
 rw[e];refine⟨a,fun x hx=>(b x hx).2,fun x hx=>?_,MZ (b7 a fun x hx=>(b x hx).2) w4,?_⟩
 ·obtain⟨r,hr,hxr⟩:=MO.mp hx
  obtain⟨g,_,rfl,R⟩:=d r hr;exact MO.mpr ⟨_,hr,mB R.1 R.2.1 hxr⟩
 ·have:∀ (ks S:List Int),(dE (wr W) W.length ks S).length<=ks.length:=by
   intro ks
   induction ks with
   | nil=>intro S;exact Mn _
   | cons g ks ih =>
    intro S;unfold dE;split
    ·exact Nat.le_succ_of_le (ih S)
    ·rw[MX,MX]
     have:=ih (S++c7 (wr W) W.length g);omega
  have h1:=this ((aU W).take i) [];rw[Mz]at h1
  show (dE (wr W) W.length ((aU W).take i) []).length<=i
  omega
def KO (H:Hp)(l:Addr)(rs:List (List Int)):Prop:=∃ as:List Addr,H l=some (.lst (as.map V.ref))/\Paired (fun a (r:List Int)=>H a=some (.lst (r.map V.int))) as rs
inductive mQ (c:HX) (vs:List V) (H:Hp) (Q:VK) (E_:XK):Prop
 | mk (p:Addr) (A:HA) (st:bX) (h_0:vs=[.ref p]) (h_1:aM c.C H p A st) (h_2:dZ st) (h_3:st.worn.length<64) (h_4:(∀ g∈aq st.worn,bj g)) (h_5:∀ (l:Addr)(H':Hp),H l=none->ax H H'->H' l=some (.lst ((aU st.worn).map V.int))->Q (.ref l) H'):mQ c vs H Q E_
inductive qH (c:HX) (vs:List V) (H:Hp) (Q:VK) (E:XK):Prop
 | mk (p:Addr) (A:HA) (st:bX) (g:Int) (h_0:vs=[.ref p,.int g]) (h_1:aM c.C H p A st) (h_2:dZ st) (h_3:st.worn.length<64) (h_4:(∀ g∈aq st.worn,bj g)) (h_5:bj g) (h_6:(if (look st.worn g).isSome=true then ∀ (l:Addr)(H':Hp),H l=none->ax H H'->H' l=some (.lst ((c7 (wr st.worn) st.worn.length g).map V.int))->Q (.ref l) H' else ∀ dx H',ax H H'->H' dx=some (.xd [("guest",.int g)])->E (.ref c.cN) (some dx) H')):qH c vs H Q E
inductive kh (c:HX) (vs:List V) (H:Hp) (Q:VK) (E_:XK):Prop
 | mk (p:Addr) (A:HA) (st:bX) (h_0:vs=[.ref p]) (h_1:aM c.C H p A st) (h_2:dZ st) (h_3:st.worn.length<64) (h_4:(∀ g∈aq st.worn,bj g)) (h_5:∀ (l:Addr)(as:List Addr)(H':Hp),H l=none->ax H H'->H' l=some (.lst (as.map V.ref))->Paired (fun a (r:List Int)=>H' a=some (.lst (r.map V.int))) as (aQ st.worn)->(∀ a∈as,H a=none)->Q (.ref l) H'):kh c vs H Q E_
theorem dO {W:List (Int×Int)}(P:kU W):(aQ W).length<=W.length/\∀ r∈aQ W,r.length<=W.length:=by
 obtain⟨w1,w2,w3,w4⟩:=P.wrong;have h:=Ie P (aU W).length;rw[F9 W (Mn _)]at h;refine⟨by omega,fun r hr=>?_⟩;obtain⟨g,hg,rfl,R⟩:=(du P.inj w3 w4 (aU W) [] (fun x h=>h) (fun x h=>by cases h)).2.2.2 r hr;rw[iq];exact P.ord_le (w1 g hg).1
end Wz
namespace L2
open PySem PySem.Spec PyProof.Rows
theorem jP {X:Cx}:kJ X (.type "dict") (fun xs H Q=>∃ p kvs,xs=[.ref p]/\H p=some (.dK kvs)/\∀ l,H l=none->Q (.ref l) (upd H l (.dK kvs))):=by
 intro pins s σ H xs us Q I r h;obtain⟨p,kvs,rfl,hp,q⟩:=h;obtain⟨u,rfl,rx⟩:=wz r;cases rx;obtain⟨hz,hS,vs,rv,m⟩:kvs.length<=sizeLine/\(p == sysModules)=false/\∃ vs,KV kvs vs/\s.heap.DictOf (bz X.prog X.w) p vs:=I.hok p _ hp;have hlen:kvs.length=vs.length:=Mo rv;refine kt_call_dict hS m (by omega) fun h' hm hs=>?_;have kp:∀ b o',s.heap.get? b=some o'->h'.get? b=some o':=fun b o' e=>hs.extBut b o' (MB (Mw e)) (Heap.get?_push_of_some _ e);have e0:bD X.prog X.w (upd H s.heap.objs.size (.dK [])) _ s.heap.objs.size (.dK []):=uT s.heap I.big;have e1:(s.heap.objs.size == sysModules)=false:=e0.2.1;exact⟨.ref s.heap.objs.size,_,I.laid (t':=s.toks) kp (Mn _) (show bD X.prog X.w _ h' _ (.dK kvs) from ⟨hz,e1,vs,rv,hm⟩),rfl,q _ (I.hok.fresh (Mn _))⟩
theorem EV (xs:List V):gR xs (some 1) none=xs.drop 1:=by
 unfold gR;rw[show HT.sIx xs.length 0 (some 1)=min 1 xs.length from HT.sIx_nat _ _ 1,HT.sIx_none]
 by_cases h:xs=[]
 ·subst h;rfl
 ·have:0<xs.length:=List.length_pos_iff.mpr h
  rw[show min 1 xs.length=1 by omega,Nb (by rw[M7];omega)]
end L2
namespace Wz
open PySem L2
def iV (r:List Int):List (Int×Int):=(r.drop 1).map fun x=>(r.headD 0,x)
def d8 (rs:List (List Int)):List (Int×Int):=rs.flatMap iV
def kX (f:Int->Int)(g:Int):Nat->List (Int×Int)
 | 0=>[]
 | n+1=>kX f g n++[(g,iter f (n+1) g)]
theorem EE (f:Int->Int)(g:Int)(n:Nat):iV (aE f g (n+1))=kX f g n:=by
 have h0:(aE f g (n+1)).headD 0=g:=by unfold aE;rw[Nr];rfl
 unfold iV;rw[h0];clear h0
 induction n with
 | zero=>rfl
 | succ n ih =>
  have e:aE f g (n+1+1)=aE f g (n+1)++[iter f (n+1) g]:=by unfold aE;rw[List.range_succ,Mr];rfl
  rw[e,List.drop_append_of_le_length (by unfold aE;rw[Me,ND];omega),Mr,ih];rfl
theorem EC {f h:Int->Int}{g:Int}{m:Nat}(nd:(aE f g (m+1)).Nodup)(hh:∀ i,i<=m->h (iter f i g)=iter f (i+1) g) :
  ∀ n,n<=m->(∀ i,1<=i->i<=n->(kX f g n).foldl aG h (iter f i g)=iter f i g)/\(kX f g n).foldl aG h g=iter f (n+1) g/\(∀ i,n<i->i<=m->(kX f g n).foldl aG h (iter f i g)=iter f (i+1) g)/\∀ x,(∀ i,i<=m->x≠iter f i g)->(kX f g n).foldl aG h x=h x:=by
 have apart:∀ i j,i<=m->j<=m->iter f i g=iter f j g->i=j:=fun i j hi hj e=>by
  have e1:(aE f g (m+1))[i]? = some (iter f i g):=by unfold aE;rw[List.getElem?_map,List.getElem?_range (by omega)];rfl
  have e2:(aE f g (m+1))[j]? = some (iter f i g):=by unfold aE;rw[List.getElem?_map,List.getElem?_range (by omega),e];rfl
  obtain⟨h1,q1⟩:=List.getElem?_eq_some_iff.mp e1;obtain⟨h2,q2⟩:=List.getElem?_eq_some_iff.mp e2;exact (List.getElem_inj nd).mp (q1.trans q2.symm)
 intro n
 induction n with
 | zero =>
  intro _;exact⟨fun i h1 h2=>by omega,hh 0 (MD _),fun i _ hi=>hh i hi,fun x _=>rfl⟩
 | succ n ih =>
  intro hn;obtain⟨i1,i2,i3,i4⟩:=ih (by omega)
  have fold:∀ x,(kX f g (n+1)).foldl aG h x=aG ((kX f g n).foldl aG h) (g,iter f (n+1) g) x:=fun x=>by
   show (kX f g n++[(g,iter f (n+1) g)]).foldl aG h x=_
   rw[M0];rfl
  generalize (kX f g n).foldl aG h=F at i1 i2 i3 i4 fold
  have ng:g≠iter f (n+1) g:=fun e=>by have:=apart 0 (n+1) (by omega) hn e;omega
  refine⟨fun i h1 h2=>?_,?_,fun i h1 h2=>?_,fun x hx=>?_⟩
  ·rw[fold]
   unfold aG;dsimp only
   by_cases e:i=n+1
   ·subst e;rw[Mi rfl,i2]
   ·rw[Mg fun z=>e (apart i (n+1) (by omega) hn z),Mg fun z=>by have:=apart i 0 (by omega) (by omega) z;omega]
    exact i1 i h1 (by omega)
  ·rw[fold]
   unfold aG;dsimp only;rw[Mg ng,Mi rfl];exact i3 (n+1) (by omega) hn
  ·rw[fold]
   unfold aG;dsimp only;rw[Mg fun z=>by have:=apart i (n+1) h2 hn z;omega,Mg fun z=>by have:=apart i 0 h2 (by omega) z;omega];exact i3 i (by omega) h2
  ·rw[fold]
   unfold aG;dsimp only;rw[Mg (hx (n+1) hn),Mg (show x≠g from hx 0 (MD _))];exact i4 x hx
theorem Gp (r:List Int):(iV r).length=r.length-1:=by unfold iV;rw[Me,M7]
theorem u7:∀ (rs:List (List Int)),(∀ r∈rs,0<r.length)->(d8 rs).length+rs.length=rs.flatten.length
 | [],_=>rfl
 | r::rs,h=>by
  have ih:=u7 rs fun q hq=>h q (Mh _ hq);have h0:=h r Mm
  have e:(d8 (r::rs)).length=(r.length-1)+(d8 rs).length:=by unfold d8;rw[NN,Mj,Gp]
  rw[e,MJ,Mj,MX];omega
theorem wo {r:List Int}{p:Int×Int}(nd:r.Nodup)(hp:p∈iV r):p.1∈r/\p.2∈r/\p.1≠p.2:=by
 unfold iV at hp;obtain⟨x,hx,rfl⟩:=MF.mp hp
 cases r with
 | nil=>cases hx
 | cons a r =>
  have hx:x∈r:=hx;refine⟨Mm,Mh _ hx,fun z=>?_⟩;have z:a=x:=z;exact (MN.mp nd).1 (by rw[z];exact hx)
theorem Ei {W:List (Int×Int)}{ps:List (Int×Int)}(nd:(aq W).Nodup)(h:∀ p∈ps,p.1∈aq W/\p.2∈aq W):(cZ W ps).length<=W.length:=by
 have:=b7 (tu ps nd) (m:=aq W) fun x hx=>by
  rcases (rp ps).mp hx with z | ⟨p,hp,e⟩
  ·exact z
  ·rcases e with rfl | rfl
   ·exact (h p hp).1
   ·exact (h p hp).2
 rwa [lX,lX]at this
inductive kg (vs:List V) (H:Hp) (Q:VK) (E_:XK):Prop
 | mk (l:Addr) (r:List Int) (h_0:vs=[.ref l]) (h_1:H l=some (.lst (r.map V.int))) (h_2:r≠[]) (h_3:r.length<=1000) (h_4:∀ (l2:Addr)(H':Hp),H l2=none->ax H H'->aY H' l2 (iV r)->Q (.ref l2) H'):kg vs H Q E_
theorem z9 {f:Int->Int}{g:Int}{m:Nat}(R:cU f g m):∀ n,iter f n g∈aE f g m:=by
 intro n
 induction n with
 | zero=>exact cE.mpr ⟨0,R.1,rfl⟩
 | succ n ih=>exact mB R.1 R.2.1 ih
theorem Gj {f:Int->Int}{g g':Int}{m m':Nat}(R:cU f g m)(R':cU f g' m')(h:g∈aE f g' m')(x:Int):x∈aE f g m↔x∈aE f g' m':=by
 obtain⟨j,hj,e⟩:=cE.mp h
 have JS:iter f (m'-j) g=g':=by rw[e,<-cX,show m'-j+j=m' by omega];exact R'.2.1
 constructor
 ·intro z
  obtain⟨i,_,rfl⟩:=cE.mp z;rw[e,<-cX];exact z9 R' _
 ·intro z
  obtain⟨i,_,rfl⟩:=cE.mp z;rw[<-JS,<-cX];exact z9 R _
theorem DC {ns:List Int}{k:Int}{n:Nat}(h0:0<=k)(h:k<n):de (ns.take n) k=de ns k:=by
 unfold de;rw[Mz]
 by_cases hk:k<(ns.length:Int)
 ·rw[Mi hk,Mi (by omega),List.getD_eq_getElem?_getD,List.getD_eq_getElem?_getD,List.getElem?_take_of_lt (by omega)]
 ·rw[Mg hk,Mg (by omega)]
end Wz
namespace L2
open PySem PySem.Spec PyProof.Rows PySem.Calls
section
variable {X:Cx}{pins:List (Addr×Obj)}{σ:St}{H H':Hp}{s:Shared}
end
section
variable {prog:Program}{w:World}{A:Around}{E:Value->Shared->Prop}{s:Shared}
end
end L2
namespace Wz
open PySem L2
end Wz
namespace L2
open PySem PySem.Spec PyProof.Rows
end L2
namespace Wz
open PySem L2
theorem EN {W:List (Int×Int)}{x:Int}(h:x∉aU W):wr W x=x:=by
 by_cases hx:x∈aq W
 ·by_cases e:wr W x=x
  ·exact e
  ·exact absurd (Nh.mpr ⟨(v7 _).mem_iff.mpr hx,Mp e⟩) h
 ·exact wA hx
end Wz
namespace L2
open PySem PySem.Spec PyProof.Rows
end L2
namespace Wz
open PySem L2
end Wz
namespace L2
open PySem PySem.Spec PyProof.Rows
theorem DD {X:Cx}{pins:List (Addr×Obj)}{σ:St}{H:Hp}{s:Shared}{a:Addr}{v:V}{u r:Value}{A:Around}{E:Value->Shared->Prop}{kvs:List (cf×V)}{k:cf}{Q:Unit->Shared->Prop}(I:aK X pins σ H s)(e:H a=some (.dK kvs))(l:kvs.length<sizeLine)(ry:bu (kV k) u)(rv:bu v r)(h:∀ s',aK X pins σ (upd H a (.dK (gL kvs k v))) s'->Q () s') :
  wpAny (model X.prog X.w) A (dictSet a u r) Q E s:=by
 obtain⟨z,hd,vs,rel,dd⟩:=CN I.hok e
 have hz:vs.length<=sizeLine:=by rw[<-rel.length];exact z
 have hl:(gL kvs k v).length<=sizeLine:=by have:=i8 kvs k v;omega
 refine wpAny_dictSet_pairs (hsz:=hz) (p8 ry) dd fun h' dd' hs=>h _ ?_;have he:∃ q,h'.get? a=some q:=let ⟨q,_,_,hq,_⟩:=dd';⟨q,hq⟩;exact pT I (by rw[e];exact True.intro) hs he (yk hl hd (rel.put k rv) dd')
theorem k6 {prog:Program}{w:World}{A:Around}{R:Result->Shared->Prop}{s:Shared}{kx vx target iter:Expr}{ifs:List Expr}{scope:Scope}{pos:Pos}{it:Value}{acc:Addr}{env:Env}(I:Nat->Shared->Prop)
  (turn:∀ n s,I n s->wpAny (model prog w) A (pyNext it) (fun r s₁=>match r with
   | none=>R (.ok .next) s₁
   | some v=>wpAny (model prog w) A (letOwnedTupleGo target it v) (fun _ s₁'=>wpAny (model prog w) A (assign target env v) (fun _ s₂ =>
     wpAny (model prog w) A (forIn ifs true fun c r=>if r=true then do let ok <-isTrue c env (eval c env);pure (ForInStep.yield ok) else pure (ForInStep.yield r)) (fun ok s₃ =>
      if ok=true then wpAny (model prog w) A (eval kx env) (fun kv s₄=>wpAny (model prog w) A (eval vx env) (fun vv s₅ =>
       wpAny (model prog w) A (dictSet acc kv vv) (fun _ s₆=>∃ m,m<n/\I m s₆) (fun _ _=>False) s₅) (fun _ _=>False) s₄) (fun _ _=>False) s₃
      else ∃ m,m<n/\I m s₃) (fun _ _=>False) s₂) (fun _ _=>False) s₁') (fun _ _=>False) s₁) (fun _ _=>False) s)
  (n:Nat) (h:I n s) :
  codeAny (model prog w) A (.compLoop (.DictComp kx vx [⟨target,iter,ifs,0⟩] scope pos) 0 it (.ref acc) env) R s:=by
 refine codeAny_loop rfl I (fun n s hI=>?_) n h
 show wpAny _ A ((compTurn (.DictComp kx vx [⟨target,iter,ifs,0⟩] scope pos) 0 it (.ref acc) env).onRaise (fun x=>do noteFrame x env;theTreesLotGoes x)) _ _ s
 refine wpAny_noted ?_;rw[compTurn_dict];refine Mf (NB (Mf (MP (turn n s hI) (fun r s₁ h₁=>?_) fun _ _ h'=>h'.elim)))
 cases r with
 | none=>exact Mq h₁
 | some v =>
  refine Mf (MP h₁ (fun _ s₁' h₁'=>?_) fun _ _ h'=>h'.elim);refine Mf (MP h₁' (fun _ s₂ h₂=>Mf (MP h₂ (fun ok s₃ h₃=>?_) fun _ _ h'=>h'.elim)) fun _ _ h'=>h'.elim)
  cases ok with
  | false=>exact Mq ⟨rfl,h₃⟩
  | true =>
   exact Mf (Mf (MP h₃ (fun kv s₄ h₄=>Mf (NA (MP h₄ (fun vv s₅ h₅=>Mf (NB (NA (MP h₅ (fun _ s₆ h₆=>Mq ⟨rfl,h₆⟩) fun _ _ h'=>h'.elim)))) fun _ _ h'=>h'.elim))) fun _ _ h'=>h'.elim))
def LD (tt:TT)(tk tv:TE)(a:Addr):TS:=fun D σ H=>tt σ H fun b H1=>if b=true then tk σ H1 fun y H2=>tv σ H2 fun z H3=>∃ kvs k,H3 a=some (.dK kvs)/\y=kV k/\kvs.length<sizeLine/\D.nx σ (upd H3 a (.dK (gL kvs k z))) else D.nx σ H1
def Jq (wi:TI)(g:TG)(tt:TT)(tk tv:TE)(src:List (Option Nat)):TE:=fun σ H Q=>wi σ H fun J H1=>∀ a,H1 a=none ->
 kT J g (LD tt tk tv a) { nx:=fun _ H'=>Q (.ref a) H',rt:=fun _ _=>False } (jS src σ) (upd H1 a (.dK []))
theorem AT {X:Cx}{kx vx tg iter:Expr}{ifs:List Expr}{sc so:Scope}{pos:Pos}{N':List Str}{src:List (Option Nat)}{wi:TI}{g:TG}{tt:TT}{tk tv:TE}{N:List Str}(hso:X.env.scope=so)(hXN:X.N=N)(S:xu so sc N N' src)(hc:X.calm=true)(hi:PI X tg iter wi)
  (hb:∀ (cl:List (Str×Addr))(C:Addr)(s:Shared)(H:Hp)(ex:List Addr),PG (cI X sc cl C N' s H ex) tg g/\HQ (cI X sc cl C N' s H ex) ifs tt/\PE (cI X sc cl C N' s H ex) kx tk/\PE (cI X sc cl C N' s H ex) vx tv)
  (hs:∀ x,foldedSetIterable iter X.env x=pure x:=by intro _;rfl):PE X (.DictComp kx vx [⟨tg,iter,ifs,0⟩] sc pos) (Jq wi g tt tk tv src):=by
 subst hXN;intro pins s σ H Q I h
 obtain⟨cl,hcl,q1,q3⟩:=jR (sc:=sc) (env:=X.env) fun y hy hf=>by
  have:=S.fre y hy hf;rw[<-hso]at this;exact I.ok.has y.1 this
 rw[arm_eval_DictComp];refine wpAny_comprehension_free (use:=none) rfl hs hcl S.kind S.loc (bH (hi pins s σ H _ I h) fun v s1 h1=>bH h1 fun itv s2 h2=>?_);obtain⟨it,fp,tn,J,H2,e,I2,T,st2,f2,hR⟩:=h2;subst e;refine Ni ?_
 have I3:aK X pins σ (upd H2 s2.heap.objs.size (.dK [])) { s2 with heap:=s2.heap.push { cls:=.type "dict",dict:=none,data:=.dict #[] } } :=
  I2.laid (t':=s2.toks) (fun b u q=>Heap.get?_push_of_some _ q) (Mn _) (uT s2.heap I2.big)
 have hfr:=I2.hok.fresh (Mn s2.heap.objs.size);obtain⟨W,⟨m0,w0⟩,turn⟩:=hR _ hfr
 have flt:∀ b∈fp,b<s2.heap.objs.size:=fun b hb=>by obtain⟨o,e,_⟩:=T.obj _ _ st2 b hb;exact Mw e
 generalize hs3:({ s2 with heap:=s2.heap.push { cls:=.type "dict",dict:=none,data:=.dict #[] } }:Shared)=s3 at I3 ⊢
 have e3:s3.heap=s2.heap.push { cls:=.type "dict",dict:=none,data:=.dict #[] }:=by rw[<-hs3]
 have sz3:s3.heap.objs.size=s2.heap.objs.size+1:=by rw[e3,NW]
 have hf3:∀ b∈fp,lK X pins (upd H2 s2.heap.objs.size (.dK [])) b:=fun b hb=>⟨by rw[af (MB (flt b hb))];exact (f2 b hb).1,(f2 b hb).2⟩
 have flt3:∀ b∈fp,b<s3.heap.objs.size:=fun b hb=>by rw[sz3];exact NM (flt b hb)
 have st3:tn 0 s3.heap:=T.keep _ _ _ st2 fun b _ o e=>by rw[e3];exact Heap.get?_push_of_some _ e
 refine wpAny_newFunctionEnv S.nocell (by intro y hy;simp at hy) (fun h4 hns4 hsb4=>?_) S.kind;have kp4:∀ b o,s3.heap.get? b=some o->h4.get? b=some o:=fun b o e=>hsb4.extBut b o (MB (Mw e)) (Heap.get?_push_of_some _ e);have I4:=p0 (h':=h4) I3 hso S q1 q3 hf3 flt3 (by simpa using hns4) kp4 (s3.toks+([]:List (Str×Value)).length);have st4:tn 0 h4:=T.keep _ _ _ st3 fun b _ o e=>kp4 b o e;generalize hC:s3.heap.objs.size=C at I4 hns4 hsb4 ⊢;obtain⟨hg,ht,hek,hev⟩:=hb cl C s3 (upd H2 s2.heap.objs.size (.dK [])) fp
 let Y:Cx:=cI X sc cl C N' s3 (upd H2 s2.heap.objs.size (.dK [])) fp
 have loop:∀ s5:Shared,s5={ s3 with heap:=h4,toks:=s3.toks+([]:List (Str×Value)).length }->codeAny (model X.prog X.w) X.A (.compLoop (.DictComp kx vx [⟨tg,iter,ifs,0⟩] sc pos) 0 (.ref it) (.ref s2.heap.objs.size) (compEnvC sc cl C X.env))
   (compPost (model X.prog X.w) X.A X.xe none (EP X pins σ Q) (.ref s2.heap.objs.size) C) s5:=by
  rintro s5 rfl
  have stat:∀ {H':Hp},(∀ b∈fp,H' b=none)->∀ b∈fp,lK Y [] H' b:=fun {H'} hn b hb=>by
   obtain⟨f0,f1,f2',f3,f4,f5⟩:=hf3 b hb;refine⟨hn b hb,?_,fun z=>?_,.inl hb,fun x c e=>f4 x c (q1 x c e),fun p hp=>absurd (show p∈([]:List (Addr×Obj)) from hp) (by simp)⟩
   ·show b≠C
    rw[<-hC];exact MB (flt3 b hb)
   ·have z:b∈jU X.stack:=z
    rcases Ms.mp (I3.stkSub b z) with y | y
    ·exact f1 y
    ·exact f2' y
  refine k6 (fun n s'=>∃ i σ' H',aK Y [] σ' H' s'/\tn i s'.heap/\(∀ b∈fp,H' b=none)/\W i n σ' H') ?_ m0 ⟨0,_,_,I4,st4,fun b hb=>(hf3 b hb).1,w0⟩;rintro n s6 ⟨i,σ6,H6,I6,st6,fr6,w6⟩;rcases turn i n σ6 H6 w6 with ⟨stop,qn⟩ | ⟨go,Nx,hN,step⟩
  ·refine bH (T.done Y rfl rfl rfl hc i [] s6 σ6 H6 _ I6 (stat fr6) st6 stop) fun r s7 ⟨hr,I7⟩=>?_
   subst hr;obtain⟨m,hn,_⟩:=id I7.loc;refine⟨m,hn,fun h' hsb=>?_⟩
   have neC:∀ b o,s3.heap.get? b=some o->b≠C:=fun b o e=>by rw[<-hC];exact MB (Mw e)
   have freeC:H6 C=none:=I7.free
   have un:Un (jU X.stack) fp (upd H2 s2.heap.objs.size (.dK [])) H6 s3.heap h' :=
    ⟨fun b o e n hb hx=>(hsb.2 b (neC b o e)).trans (I7.base.keep b o e n hb hx),fun b o e n hb hx=>by
      obtain⟨sl,q⟩:=I7.base.slot b o e n hb hx
      exact⟨sl,(hsb.2 b (neC b o e)).trans q⟩,I7.base.free,fun b o e hx=>by
      obtain⟨o',q⟩:=I7.base.there b o e hx
      exact⟨o',(hsb.2 b (neC b o e)).trans q⟩,I7.base.tups,I7.base.frzs,I7.base.tbls⟩
   have hok:kS X.prog X.w H6 h':=fun b ob e=>by
    refine (I7.hok b ob e).stay (fun c w' hc' q=>(hsb.2 c ?_).trans q) (fun _ q=>q) fun _ _ q=>q;rintro rfl;rcases hc' with z | z
    ·rw[<-z,freeC]at e;cases e
    ·rw[freeC]at z;cases z
   have J7:aK X pins σ H6 { s7 with heap:=h' }:=I3.call' (ch:=fp) (s':={ s7 with heap:=h' }) I7.os un hok I7.bare fun b hb=>⟨(hf3 b hb).2.2.2.1,(hf3 b hb).2.1,(hf3 b hb).2.2.2.2.1,(hf3 b hb).2.2.2.2.2⟩;exact⟨.ref s2.heap.objs.size,H6,J7,rfl,qn⟩
  ·refine bH (T.item Y rfl rfl rfl hc i [] s6 σ6 H6 _ I6 (stat fr6) st6 go) fun r s7 ⟨u,hr,h7⟩=>?_
   subst hr;refine bH h7 fun _ s8 ⟨x,H8,I8,r8,y8,st8,fr8⟩=>?_;have I8':=I8.pinned (stat fr8) (T.obj _ _ st8);refine bH (hg _ s8 σ6 H8 x u _ I8' r8 (step x H8 y8)) fun _ s9 ⟨σ9,H9,I9,q9⟩=>?_
   have again:∀ {s':Shared}{σ7:St}{H7:Hp},aK Y ([]++jZ fp s8.heap) σ7 H7 s'->Nx σ7 H7->∃ m,m<n/\∃ i σ' H',aK Y [] σ' H' s'/\tn i s'.heap/\(∀ b∈fp,H' b=none)/\W i m σ' H':=fun {s' σ7 H7} I7 n7=>by
    obtain⟨m',hm,w7⟩:=hN σ7 H7 n7;refine⟨m',hm,i+1,σ7,H7,I7.unpinned,T.keep _ _ _ st8 fun b hb o e=>(I7.pin (b,o) (MC _ (MC _ (b9 hb e)))).1,fun b hb=>?_,w7⟩;obtain⟨o,e,d⟩:=T.obj _ _ st8 b hb;exact (I7.pin (b,o) (MC _ (MC _ (b9 hb e)))).2.1
   refine bH (ht _ s9 σ9 H9 _ I9 q9) fun ok s10 ⟨H10,I10,q10⟩=>?_
   cases ok with
   | false =>
    rw[Mg Mt]at q10 ⊢;exact again I10 q10
   | true =>
    rw[Mi rfl]at q10 ⊢;refine bH (hek _ s10 σ9 H10 _ I10 q10) fun kv s11 ⟨y,H11,I11,ry,q11⟩=>?_;refine bH (hev _ s11 σ9 H11 _ I11 q11) fun vv s12 ⟨z,H12,I12,rz,kvs,kk,hkv,ey,hlen,q12⟩=>?_;subst ey;exact DD (X:=Y) I12 hkv hlen ry rz fun s13 I13=>again I13 q12
 exact codeAny_compStart_dict (loop _ rfl) (T.self _ 0 _ _ _ st4 (loop _ rfl))
open PySem
theorem Dr {tk tv:TE}{a:Addr}{D:kY}{σ:St}{H:Hp}(h:tk σ H fun y H2=>tv σ H2 fun z H3=>∃ kvs k,H3 a=some (.dK kvs)/\y=kV k/\kvs.length<sizeLine/\D.nx σ (upd H3 a (.dK (gL kvs k z)))):LD wv tk tv a D σ H:=by
 unfold LD wv;dsimp only;rw[Mi rfl];exact h
end L2
namespace Wz
open PySem L2
theorem CP {f:Int->Bool}:∀ {r:List Int}{i:Nat}{g:Int},(∀ x∈r.take i,f x=false)->r[i]? = some g->f g=true->r.find? f=some g
 | [],_,_,_,h,_=>by simp at h
 | x::r,0,g,_,h,hg=>by simp at h;subst h;rw[List.find?_cons,hg]
 | x::r,i+1,g,h0,h,hg=>by
  rw[List.find?_cons,h0 x (by simp)];exact CP (fun y hy=>h0 y (by rw[List.take_succ_cons];exact Mh _ hy)) (by simpa using h) hg
theorem uP:∀ (r ks:List Int)(y:Int),y∈r.foldl gI ks↔y∈ks\/y∈r
 | [],ks,y=>by simp
 | x::r,ks,y=>by
  rw[NR,uP r];unfold gI;split
  ·rename_i h
   constructor
   ·rintro (z | z)
    ·exact .inl z
    ·exact .inr (Mh _ z)
   ·rintro (z | z)
    ·exact .inl z
    ·rcases Ms.mp z with z | z
     ·rw[z];exact .inl h
     ·exact .inr z
  ·rw[Ml,Mv,Ms,or_assoc]
theorem uO:∀ (r ks:List Int),(r.foldl gI ks).length<=ks.length+r.length
 | [],ks=>by simp
 | x::r,ks=>by
  have:=uO r (gI ks x)
  have h:(gI ks x).length<=ks.length+1:=by unfold gI;split<;>simp
  rw[NR,MX];omega
def fZ (circ:List (Int×List Int))(r:List Int)(g:Int):Bool:=(bn (dG circ g)).any fun p=>decide (p∈r)
def fT (circ:List (Int×List Int))(r:List Int):Option Int:=r.find? fun g=>!fZ circ r g
def Ag (ml:List (Int×Int))(r:List Int)(h:Int):Bool:=(r.filter fun g=>decide (g≠h)).any fun g=>k7 ml h g
theorem FE {ml:List (Int×Int)}(ok:tG ml)(g:Int):k7 ml g g=false:=by
 unfold k7 bx;rw[Mg (by omega)]
 exact Mx fun z=>by have:=ok.lo _ z;dsimp only at this;omega
theorem FB {st:bX}{ml:List (Int×Int)}(al:jv st ml)(ok:tG ml)(r:List Int)(g:Int):fZ st.circ r g=Ag ml r g:=by
 have key:fZ st.circ r g=true↔Ag ml r g=true:=by
  unfold fZ Ag;rw[List.any_eq_true,List.any_eq_true];constructor
  ·rintro⟨p,hp,hr⟩
   have hm:k7 ml g p=true:=by rw[<-al g p];exact Mp (f6.mp hp)
   refine⟨p,Nh.mpr ⟨Nl hr,Mp fun z=>?_⟩,hm⟩;rw[z,FE ok]at hm;cases hm
  ·rintro⟨p,hp,hm⟩
   have hm:cY st.circ g p=true:=by rw[al g p];exact hm
   exact⟨p,f6.mpr (Nl hm),Mp (Nh.mp hp).1⟩
 cases h1:fZ st.circ r g<;>cases h2:Ag ml r g
 ·rfl
 ·rw[key.mpr h2]at h1;cases h1
 ·rw[key.mp h1]at h2;cases h2
 ·rfl
def iH (r:List Int)(i:Nat):Int:=(r[if i=0 then r.length-1 else i-1]?).getD 0
def i7 (r:List Int)(i:Nat):Int:=(r[i]?).getD 0
def cw (circ:List (Int×List Int))(r:List Int):Option Nat:=(List.range r.length).find? fun i=>!cY circ (iH r i) (i7 r i)
def Hj:Option Int->V
 | some g=>.int g
 | none=>.non
inductive nO (c:HX) (vs:List V) (H:Hp) (Q:VK) (E_:XK):Prop
 | mk (p l:Addr) (A:HA) (st:bX) (L r:List Int) (h_0:vs=[.ref p,.ref l]) (h_1:aM c.C H p A st) (h_2:H l=some (.lst (r.map V.int))) (h_3:r.length<=64) (h_4:yb L st) (h_5:L.length<64) (h_6:∀ H',ax H H'->Q (Hj (fT st.circ r)) H'):nO c vs H Q E_
inductive qF (c:HX) (vs:List V) (H:Hp) (Q:VK) (E_:XK):Prop
 | mk (p l:Addr) (A:HA) (st:bX) (r:List Int) (h_0:vs=[.ref p,.ref l]) (h_1:aM c.C H p A st) (h_2:H l=some (.lst (r.map V.int))) (h_3:r.length<=64) (h_4:match cw st.circ r with
 | none=>∀ H',ax H H'->Q .non H'
 | some i=>∀ l' H',H l'=none->ax H H'->H' l'=some (.lst ((r.drop i++r.take i).map V.int))->Q (.ref l') H'):qF c vs H Q E_
theorem zU (xs:List V)(n:Nat):gR xs (some (n:Int)) none=xs.drop n:=by
 unfold gR;rw[HT.sIx_nat,HT.sIx_none]
 by_cases h:n<=xs.length
 ·rw[Nat.min_eq_left h,Nb (by rw[M7];exact Mn _)]
 ·rw[Nat.min_eq_right (by omega),List.drop_length,List.drop_of_length_le (by omega)];simp
theorem Hs {r:List Int}{i:Nat}(h:i<r.length):Bo (r.map V.int) ((i:Int)-1)=some (V.int (iH r i)):=by
 by_cases h0:i=0
 ·subst h0
  have e:r=r.dropLast++[r.getLast (by intro z;rw[z]at h;simp at h)]:=(NK _).symm
  have hl:iH r 0=r.getLast (by intro z;rw[z]at h;simp at h):=by
   unfold iH;rw[Mi rfl,<-List.getLast?_eq_getElem?,List.getLast?_eq_some_getLast];rfl
  rw[hl]
  have:r.map V.int=r.dropLast.map V.int++[V.int (r.getLast (by intro z;rw[z]at h;simp at h))]:=by
   have:=Ng (List.map V.int) e;rw[Mr]at this;exact this
  rw[this];exact pR _ _
 ·rw[show (i:Int)-1=((i-1:Nat):Int) by omega]
  refine fz ?_;unfold iH;rw[Mg h0,List.getElem?_map,List.getElem?_eq_getElem (by omega)];rfl
theorem G6 {r:List Int}{i:Nat}(h:i<r.length):Bo (r.map V.int) (i:Int)=some (V.int (i7 r i)):=by
 refine fz ?_;unfold i7;rw[List.getElem?_map,List.getElem?_eq_getElem h];rfl
theorem Fa {f:Nat->Bool}{n i:Nat}(h:i<n)(h0:∀ x,x<i->f x=false)(hf:f i=true):(List.range n).find? f=some i:=oZ f n i h hf h0
inductive Cv (c:HX) (f:bX->List Int->Bool) (vs:List V) (H:Hp) (Q:VK) (E_:XK):Prop
 | mk (p:Addr) (A:HA) (st:bX) (L:List Int) (h_0:vs=[.ref p]) (h_1:aM c.C H p A st) (h_2:dZ st) (h_3:st.worn.length<64) (h_4:(∀ g∈aq st.worn,bj g)) (h_5:yb L st) (h_6:L.length<64) (h_7:∀ (l:Addr)(as:List Addr)(H':Hp),H l=none->ax H H'->H' l=some (.lst (as.map V.ref))->Paired (fun a (r:List Int)=>H' a=some (.lst (r.map V.int))) as ((aQ st.worn).filter fun r=>f st r)->(∀ a∈as,H a=none)->Q (.ref l) H'):Cv c f vs H Q E_
def rY (c:HX):Sp:=Cv c fun st r=>(fT st.circ r).isNone
def wm (c:HX):Sp:=Cv c fun st r=>(cw st.circ r).isNone
theorem DI {K:PySem.W.Frag}{tt:TT}{Qf:Hp->Prop}{lr q:Addr}{as:List Addr}{rs:List (List Int)}{f:List Int->Bool}{rest:St}{H:Hp}(hq:H q=none)(h1:H lr=some (.lst (as.map V.ref)))(pa:Paired (fun a (r:List Int)=>H a=some (.lst (r.map V.int))) as rs)(hlen:as.length<=64)
  (ht:∀ (a:Addr)(r:List Int)(HK:Hp)(Q':Bool->Hp->Prop),r∈rs->ax H HK->HK a=some (.lst (r.map V.int))->(∀ H5,ax HK H5->Q' (f r) H5)->tt (some (.ref a)::rest) HK Q')
  (k:∀ (bs:List Addr)(HK:Hp),ax H HK->HK q=some (.lst (bs.map V.ref))->Paired (fun a (r:List Int)=>HK a=some (.lst (r.map V.int))) bs (rs.filter f)->(∀ b∈bs,b∈as)->Qf HK) :
  kT (GF K lr) (jA 0) (EF tt (Gs 0) q) { nx:=fun _ H'=>Qf H',rt:=fun _ _=>False } (none::rest) (upd H q (.lst [])):=by
 have hpl:=Mo pa
 have noq:∀ b∈as,b≠q:=fun b hb z=>by
  obtain⟨j,hj⟩:=List.getElem?_of_mem hb;obtain⟨r',_,e⟩:=paired_get pa hj;rw[z,hq]at e;cases e
 refine a5 (K:=K) (a:=lr) (xs:=as.map V.ref) (fun i σ HK=>∃ (v:Option V)(bs:List Addr),σ=v::rest/\ax H HK/\HK q=some (.lst (bs.map V.ref))/\Paired (fun a (r:List Int)=>HK a=some (.lst (r.map V.int))) bs ((rs.take i).filter f)/\(∀ b∈bs,b∈as)/\bs.length<=i)
  ⟨none,[],rfl,ag hq,ac,.nil,(fun b h=>nomatch h),Mn _⟩ (fun i σ HK _ ⟨_,_,_,s2,_⟩=>aW.of (s2 _ _ h1)) ?_ ?_
 ·rintro i y σ HK hi ⟨v,bs,rfl,t1,hq2,pb,sub,bl⟩
  obtain⟨a,ha,rfl⟩:=bg hi;have hil:i<as.length:=(List.getElem?_eq_some_iff.mp ha).1;obtain⟨r,hr0,hA⟩:=paired_get pa ha
  have ex:(rs.take (i+1)).filter f=(rs.take i).filter f++[r].filter f:=by rw[MG,hr0,ML,M5]
  refine pF (ht a r HK _ (MA hr0) t1 (t1 _ _ hA) fun H5 s5=>?_)
  cases e:f r with
  | true =>
   rw[Mi rfl];refine⟨_,rfl,_,s5 _ _ hq2,by rw[Me];exact aw (by omega),_,bs++[a],rfl,aR (t1.trans s5) hq,by rw[ac,Mr];rfl,?_,fun b hb=>?_,by rw[Mj,MU];omega⟩
   ·rw[ex,show [r].filter f=[r] by simp[e]]
    exact aJ (Wz.Paired.mapP' pb fun b z hb e=>by rw[af (noq b (sub b hb))];exact s5 _ _ e) (.cons (by rw[af (noq a (MA ha))];exact s5 _ _ (t1 _ _ hA)) .nil)
   ·rcases Ml.mp hb with z | z
    ·exact sub b z
    ·rw[Mv.mp z];exact MA ha
  | false =>
   rw[Mg Mt];exact⟨_,bs,rfl,t1.trans s5,s5 _ _ hq2,by rw[ex,show [r].filter f=[] by simp[e],NQ];exact Paired.mapP pb fun b z e=>s5 _ _ e,sub,by omega⟩
 ·rintro σ HK ⟨v,bs,rfl,t1,hq2,pb,sub,bl⟩
  rw[Me,hpl,MI]at pb;exact k bs HK t1 hq2 pb sub
theorem xM {f:Int->Int}(hf:GE f):∀ (rs:List (List Int))(S:List Int)(h:Int->Int),(∀ r∈rs,∃ g m,r=aE f g m/\cU f g m)->rs.flatten.Nodup->(∀ x∈rs.flatten,x∉S)->(∀ x,h x=if x∈S then x else f x) ->
  ∀ x,(d8 rs).foldl aG h x=if x∈S\/x∈rs.flatten then x else f x
 | [],S,h,_,_,_,hh=>fun x=>by simp[d8];rw[hh]
 | r::rs,S,h,h1,nd,ap,hh=>fun x=>by
  obtain⟨g,m,rfl,R⟩:=h1 r Mm;rw[MJ]at nd ap;obtain⟨nd1,nd2,nd3⟩:=MW.mp nd
  have sh:d8 (aE f g m::rs)=iV (aE f g m)++d8 rs:=by unfold d8;rw[NN]
  rw[sh,M0]
  rw[xM hf rs (S++aE f g m) _ (fun r hr=>h1 r (Mh _ hr)) nd2 (fun x hx z=>by
   rcases Ml.mp z with z | z
   ·exact ap x (Ml.mpr (.inr hx)) z
   ·exact nd3 x z x hx rfl) (fun x=>?_) x]
  ·rw[MJ]
   by_cases q1:x∈S
   ·simp[q1]
   ·by_cases q2:x∈aE f g m
    ·simp[q2]
    ·simp[q1,q2]
  ·have m0:=R.1
   have eo:m=m-1+1:=by omega
   have ec:iV (aE f g m)=kX f g (m-1):=by rw[eo];exact EE f g _
   have nd':=f8 hf R.2.2;rw[eo]at nd';obtain⟨c1,c2,_,c3⟩:=EC (h:=h) nd' (fun i hi=>by rw[hh,Mg (ap _ (Ml.mpr (.inl (cE.mpr ⟨i,by omega,rfl⟩))))];rfl) _ (Mn _);rw[ec]
   by_cases q2:x∈aE f g m
   ·rw[Mi (Ml.mpr (.inr q2))]
    obtain⟨i,hi,rfl⟩:=cE.mp q2
    by_cases hi0:i=0
    ·subst hi0
     show (kX f g (m-1)).foldl aG h g=g
     rw[c2];have r2:=R.2.1;rw[eo]at r2;exact r2
    ·exact c1 i (by omega) (by omega)
   ·have n2:∀ i,i<=m-1->x≠iter f i g:=fun i hi e=>q2 (cE.mpr ⟨i,by omega,e⟩)
    rw[c3 x n2,hh];simp[q2]
theorem pk {W:List (Int×Int)}(P:kU W){r:List Int}(hr:r∈aQ W){c:Int}(hc:c∈r):(c7 (wr W) W.length c).Perm r/\cU (wr W) c (pe (wr W) W.length c):=by
 obtain⟨w1,w2,w3,w4⟩:=P.wrong;obtain⟨g,hg,rfl,R⟩:=(du P.inj w3 w4 (aU W) [] (fun x h=>h) (fun x h=>by cases h)).2.2.2 r hr;have gk:=(w1 g hg).1
 have ck:c∈aq W:=by obtain⟨i,_,rfl⟩:=cE.mp hc;exact ni P.cl gk i
 have Rc:=P.ring ck;refine⟨(List.perm_ext_iff_of_nodup (f8 P.inj Rc.2.2) (f8 P.inj R.2.2)).mpr fun x=>Gj Rc R hc x,Rc⟩
theorem vc {rs:List (List Int)}{φ:List Int->List Int}(h:∀ r∈rs,(φ r).Perm r):(rs.map φ).flatten.Perm rs.flatten:=by
 induction rs with
 | nil=>exact List.Perm.refl _
 | cons r rs ih =>
  rw[MQ,MJ,MJ];exact (h r Mm).append (ih fun q hq=>h q (Mh _ hq))
def fk (circ:List (Int×List Int))(r:List Int):Int:=(fT circ r).getD 0
theorem pY {circ:List (Int×List Int)}{r:List Int}(h:(fT circ r).isNone=false):fk circ r∈r/\fZ circ r (fk circ r)=false:=by
 cases e:fT circ r with
 | none=>rw[e]at h;cases h
 | some g =>
  have h1:=List.mem_of_find?_eq_some e;have h2:=List.find?_some e;unfold fk;rw[e];exact⟨h1,by simpa using h2⟩
end Wz
namespace L2
open PySem PySem.Spec PyProof.Rows
end L2
namespace Wz
open PySem L2
def hU (p:Int×Int):Int×Int:=bx p.1 p.2
theorem ED {r:List Int}(nd:r.Nodup):((iV r).map hU).Nodup:=by
 unfold iV;rw[M8];refine N1.mpr ((nd.sublist (List.drop_sublist 1 r)).imp fun {x y} hne e=>hne ?_);have e:bx (r.headD 0) x=bx (r.headD 0) y:=e;rcases gB.mp e with ⟨_,z⟩ | ⟨z1,z2⟩
 ·exact z
 ·rw[z2,z1]
theorem xL:∀ (rs:List (List Int)),rs.flatten.Nodup->((d8 rs).map hU).Nodup
 | [],_=>Nj
 | r::rs,nd=>by
  rw[MJ]at nd;obtain⟨n1,n2,n3⟩:=MW.mp nd
  have sh:d8 (r::rs)=iV r++d8 rs:=by unfold d8;rw[NN]
  rw[sh,Mr];refine MW.mpr ⟨ED n1,xL rs n2,fun a ha b hb e=>?_⟩;obtain⟨p,hp,rfl⟩:=MF.mp ha;obtain⟨q,hq,rfl⟩:=MF.mp hb;obtain⟨h1,_,_⟩:=wo n1 hp;unfold d8 at hq;obtain⟨r2,hr2,hq2⟩:=List.mem_flatMap.mp hq
  have nd2:r2.Nodup:=by
   have:r2.Sublist rs.flatten:=List.sublist_flatten_of_mem hr2;exact n2.sublist this
  obtain⟨g1,g2,_⟩:=wo nd2 hq2;have e:bx p.1 p.2=bx q.1 q.2:=e;rcases gB.mp e with ⟨z,_⟩ | ⟨z,_⟩
  ·exact n3 p.1 h1 q.1 (MO.mpr ⟨r2,hr2,g1⟩) z
  ·exact n3 p.1 h1 q.2 (MO.mpr ⟨r2,hr2,g2⟩) z
def lL (W ml:List (Int×Int))(ps:List (Int×Int)):Prop:=(∀ p∈ps,p.1≠p.2/\p.1∈aq W/\p.2∈aq W/\hU p∉ml)/\(ps.map hU).Nodup
def o9 (f:Int->Int)(g one:Int):Nat->List (Int×Int)
 | 0=>[]
 | n+1=>o9 f g one n++[(one,iter f n g)]
theorem tz {f:Int->Int}{g:Int}{m:Nat}(nd:(aE f g (m+1)).Nodup):∀ i j,i<=m->j<=m->iter f i g=iter f j g->i=j:=fun i j hi hj e=>by
 have e1:(aE f g (m+1))[i]? = some (iter f i g):=by unfold aE;rw[List.getElem?_map,List.getElem?_range (by omega)];rfl
 have e2:(aE f g (m+1))[j]? = some (iter f i g):=by unfold aE;rw[List.getElem?_map,List.getElem?_range (by omega),e];rfl
 obtain⟨h1,q1⟩:=List.getElem?_eq_some_iff.mp e1;obtain⟨h2,q2⟩:=List.getElem?_eq_some_iff.mp e2;exact (List.getElem_inj nd).mp (q1.trans q2.symm)
theorem Ec {f h:Int->Int}{g one:Int}{m:Nat}(nd:(aE f g (m+1)).Nodup)(ho:∀ i,i<=m->one≠iter f i g)(hh:∀ i,i<=m->h (iter f i g)=iter f (i+1) g)(h1:h one=one) :
  ∀ n,1<=n->n<=m->(o9 f g one n).foldl aG h one=iter f n g/\(o9 f g one n).foldl aG h g=one/\(∀ i,1<=i->i<n->(o9 f g one n).foldl aG h (iter f i g)=iter f i g) /\
   (∀ i,n<=i->i<=m->(o9 f g one n).foldl aG h (iter f i g)=iter f (i+1) g)/\∀ x,x≠one->(∀ i,i<=m->x≠iter f i g)->(o9 f g one n).foldl aG h x=h x:=by
 have apart:=tz nd;intro n
 induction n with
 | zero=>intro h;omega
 | succ n ih =>
  intro _ hn
  have fold:∀ x,(o9 f g one (n+1)).foldl aG h x=aG ((o9 f g one n).foldl aG h) (one,iter f n g) x:=fun x=>by
   show (o9 f g one n++[(one,iter f n g)]).foldl aG h x=_
   rw[M0];rfl
  by_cases h0:n=0
  ·subst h0
   have e0:(o9 f g one 0).foldl aG h=h:=rfl;rw[e0]at fold;have n0:=ho 0 (MD _);refine⟨?_,?_,fun i a b=>by omega,fun i a b=>?_,fun x a b=>?_⟩
   ·rw[fold];unfold aG;dsimp only
    rw[Mg n0,Mi rfl];exact hh 0 (MD _)
   ·rw[fold];unfold aG;dsimp only
    rw[Mi (show g=iter f 0 g from rfl)];exact h1
   ·rw[fold];unfold aG;dsimp only
    rw[Mg fun z=>by have:=apart i 0 b (MD _) z;omega,Mg fun z=>ho i b z.symm];exact hh i b
   ·rw[fold];unfold aG;dsimp only
    rw[Mg (b 0 (MD _)),Mg a]
  ·obtain⟨i1,i2,i3,i4,i5⟩:=ih (by omega) (by omega)
   generalize (o9 f g one n).foldl aG h=F at i1 i2 i3 i4 i5 fold;have nn:=ho n (by omega);refine⟨?_,?_,fun i a b=>?_,fun i a b=>?_,fun x a b=>?_⟩
   ·rw[fold];unfold aG;dsimp only
    rw[Mg nn,Mi rfl];exact i4 n (Mn _) (by omega)
   ·rw[fold];unfold aG;dsimp only
    rw[Mg fun z=>by have:=apart 0 n (MD _) (by omega) z;omega,Mg fun z=>ho 0 (MD _) z.symm];exact i2
   ·rw[fold];unfold aG;dsimp only
    by_cases e:i=n
    ·subst e;rw[Mi rfl];exact i1
    ·rw[Mg fun z=>e (apart i n (by omega) (by omega) z),Mg fun z=>ho i (by omega) z.symm]
     exact i3 i a (by omega)
   ·rw[fold];unfold aG;dsimp only
    rw[Mg fun z=>by have:=apart i n b (by omega) z;omega,Mg fun z=>ho i b z.symm];exact i4 i (by omega) b
   ·rw[fold];unfold aG;dsimp only
    rw[Mg (b n (by omega)),Mg a];exact i5 x a b
def gT (one:Int)(r:List Int):List (Int×Int):=(r.dropLast.map fun x=>(one,x))++[(r.getLastD 0,r.headD 0),(one,r.getLastD 0)]
theorem FL (f:Int->Int)(g one:Int)(m:Nat):gT one (aE f g (m+1))=o9 f g one m++[(iter f m g,g),(one,iter f m g)]:=by
 have e:aE f g (m+1)=aE f g m++[iter f m g]:=pj f g m
 have hl:∀ n,(aE f g n).map (fun x=>(one,x))=o9 f g one n:=fun n=>by
  induction n with
  | zero=>rfl
  | succ n ih=>rw[pj,Mr,ih];rfl
 have hd:(aE f g (m+1)).headD 0=g:=by unfold aE;rw[Nr];rfl
 unfold gT;rw[hd,e,List.dropLast_concat,hl];simp
theorem FK {f h:Int->Int}{g one:Int}{m:Nat}(m1:1<=m)(nd:(aE f g (m+1)).Nodup)(hb:iter f (m+1) g=g)(ho:∀ i,i<=m->one≠iter f i g)(hh:∀ i,i<=m->h (iter f i g)=iter f (i+1) g)(h1:h one=one) :
  (∀ i,i<=m->(gT one (aE f g (m+1))).foldl aG h (iter f i g)=iter f i g)/\(gT one (aE f g (m+1))).foldl aG h one=one/\∀ x,x≠one->(∀ i,i<=m->x≠iter f i g)->(gT one (aE f g (m+1))).foldl aG h x=h x:=by
 have apart:=tz nd;obtain⟨i1,i2,i3,i4,i5⟩:=Ec nd ho hh h1 m m1 (Mn _)
 have fold:∀ x,(gT one (aE f g (m+1))).foldl aG h x=aG (aG ((o9 f g one m).foldl aG h) (iter f m g,g)) (one,iter f m g) x:=fun x=>by
  rw[FL,M0];rfl
 generalize (o9 f g one m).foldl aG h=F at i1 i2 i3 i4 i5 fold
 have im:F (iter f m g)=g:=by rw[i4 m (Mn _) (Mn _),hb]
 have nm:=ho m (Mn _);have n0:=ho 0 (MD _)
 have gm:iter f m g≠g:=fun z=>by have:=apart m 0 (Mn _) (MD _) z;omega
 have e1:∀ x,aG F (iter f m g,g) x=if x=g then g else if x=iter f m g then one else F x:=fun x=>by
  unfold aG;dsimp only;rw[im,i2]
 have G1:aG F (iter f m g,g) one=iter f m g:=by rw[e1,Mg (show one≠g from n0),Mg nm,i1]
 have Gm:aG F (iter f m g,g) (iter f m g)=one:=by rw[e1,Mg gm,Mi rfl]
 have e2:∀ x,(gT one (aE f g (m+1))).foldl aG h x=if x=iter f m g then iter f m g else if x=one then one else if x=g then g else F x:=fun x=>by
  rw[fold]
  show (if x=iter f m g then aG F (iter f m g,g) one else if x=one then aG F (iter f m g,g) (iter f m g) else aG F (iter f m g,g) x)=_
  rw[G1,Gm,e1]
  by_cases hx:x=iter f m g
  ·rw[Mi hx,Mi hx]
  ·rw[Mg hx,Mg hx,Mg hx]
 refine⟨fun i hi=>?_,?_,fun x a b=>?_⟩
 ·rw[e2]
  by_cases h1:i=m
  ·rw[h1,Mi rfl]
  ·rw[Mg fun z=>h1 (apart i m hi (Mn _) z),Mg fun z=>ho i hi z.symm]
   by_cases h2:i=0
   ·rw[h2,Mi (show iter f 0 g=g from rfl)];rfl
   ·rw[Mg (show iter f i g≠g from fun z=>h2 (apart i 0 hi (MD _) z))]
    exact i3 i (by omega) (by omega)
 ·rw[e2,Mg nm,Mi rfl]
 ·rw[e2,Mg (b m (Mn _)),Mg a,Mg (show x≠g from b 0 (MD _))]
  exact i5 x a b
theorem jb (f:Int->Int)(g:Int){m j:Nat}(h:j<m):(aE f g m)[j]? = some (iter f j g):=by unfold aE;rw[List.getElem?_map,List.getElem?_range h];rfl
theorem Gk {f:Int->Int}{g:Int}{m i:Nat}(R:cU f g m)(hi:i<m):(aE f g m).drop i++(aE f g m).take i=aE f (iter f i g) m:=by
 refine List.ext_getElem? fun j=>?_
 by_cases hj:j<m
 ·rw[jb f (iter f i g) hj,<-cX]
  rw[List.getElem?_append];split
  ·rename_i h
   rw[M7,b6]at h;rw[List.getElem?_drop,jb f g (by omega),Nat.add_comm]
  ·rename_i h
   rw[M7,b6]at h;rw[M7,b6,List.getElem?_take_of_lt (by omega),jb f g (by omega)];rw[show j+i=(j-(m-i))+m by omega,cX,R.2.1]
 ·have h1:((aE f g m).drop i++(aE f g m).take i).length=m:=by rw[Mj,M7,Mz,b6];omega
  rw[List.getElem?_eq_none (by omega),List.getElem?_eq_none (by rw[b6];omega)]
theorem AS {f:Int->Int}(hf:GE f){one:Int}(fo:f one=one):∀ (rs:List (List Int))(S:List Int)(h:Int->Int),(∀ r∈rs,∃ g m,r=aE f g m/\cU f g m/\2<=m)->rs.flatten.Nodup->(∀ x∈rs.flatten,x∉S/\x≠one)->(∀ x,h x=if x∈S then x else f x) ->
  ∀ x,(rs.flatMap (gT one)).foldl aG h x=if x∈S\/x∈rs.flatten then x else f x
 | [],S,h,_,_,_,hh=>fun x=>by simp;rw[hh]
 | r::rs,S,h,h1,nd,ap,hh=>fun x=>by
  obtain⟨g,m,rfl,R,m2⟩:=h1 r Mm;rw[MJ]at nd ap;obtain⟨nd1,nd2,nd3⟩:=MW.mp nd;rw[NN,M0]
  rw[AS hf fo rs (S++aE f g m) _ (fun r hr=>h1 r (Mh _ hr)) nd2 (fun x hx=>⟨fun z=>by
   rcases Ml.mp z with z | z
   ·exact (ap x (Ml.mpr (.inr hx))).1 z
   ·exact nd3 x z x hx rfl,(ap x (Ml.mpr (.inr hx))).2⟩) (fun x=>?_) x]
  ·rw[MJ]
   by_cases q1:x∈S
   ·simp[q1]
   ·by_cases q2:x∈aE f g m
    ·simp[q2]
    ·simp[q1,q2]
  ·obtain⟨k,rfl⟩:∃ k,m=k+1:=⟨m-1,by omega⟩
   have inr:∀ i,i<=k->iter f i g∈aE f g (k+1):=fun i hi=>cE.mpr ⟨i,by omega,rfl⟩
   have h1':h one=one:=by
    rw[hh];split
    ·rfl
    ·exact fo
   obtain⟨c1,c2,c3⟩:=FK (by omega) nd1 R.2.1 (fun i hi z=>(ap _ (Ml.mpr (.inl (inr i hi)))).2 z.symm) (fun i hi=>by rw[hh,Mg (ap _ (Ml.mpr (.inl (inr i hi)))).1];rfl) h1'
   by_cases q2:x∈aE f g (k+1)
   ·rw[Mi (Ml.mpr (.inr q2))]
    obtain⟨i,hi,rfl⟩:=cE.mp q2;exact c1 i (by omega)
   ·by_cases q3:x=one
    ·rw[q3,c2]
     by_cases q4:one∈S++aE f g (k+1)
     ·rw[Mi q4]
     ·rw[Mg q4,fo]
    ·rw[c3 x q3 fun i hi e=>q2 (by rw[e];exact inr i hi),hh]
     simp[q2]
theorem z7 {f:Int->Int}(hf:GE f){g:Int}{m:Nat}(R:cU f g m)(i:Nat):cU f (iter f i g) m:=by
 have sw:∀ a b x,iter f a (iter f b x)=iter f b (iter f a x):=fun a b x=>by rw[<-cX,<-cX,Nat.add_comm]
 refine⟨R.1,by rw[sw,R.2.1],fun k h1 h2 z=>R.2.2 k h1 h2 (p7 hf i ?_)⟩;rw[sw]at z;exact z
def cK (circ:List (Int×List Int))(r:List Int):List Int:=match cw circ r with
 | some i=>r.drop i++r.take i
 | none=>r
theorem AQ (one:Int){r:List Int}(h:0<r.length):(gT one r).length=r.length+1:=by
 unfold gT;rw[Mj,Me,List.length_dropLast]
 show r.length-1+2=_
 omega
theorem qd {f:Int->Int}(hf:GE f){circ:List (Int×List Int)}{g:Int}{m:Nat}(R:cU f g m)(m2:2<=m)(hs:(cw circ (aE f g m)).isSome=true) :
  ∃ g',cK circ (aE f g m)=aE f g' m/\cU f g' m/\(aE f g' m).Perm (aE f g m)/\cY circ (iter f (m-1) g') g'=false:=by
 obtain⟨i,e⟩:=MY.mp hs
 have hi:i<m:=by
  have:=Nd.mp (List.mem_of_find?_eq_some e);rw[b6]at this;exact this
 have hp:=List.find?_some e;have rot:=Gk R hi;refine⟨iter f i g,?_,z7 hf R i,?_,?_⟩
 ·unfold cK
  rw[e];exact rot
 ·rw[<-rot]
  exact (List.perm_append_comm).trans (by rw[List.take_append_drop])
 ·have e1:iH (aE f g m) i=iter f (m-1) (iter f i g):=by
   unfold iH;rw[b6]
   by_cases h0:i=0
   ·rw[Mi h0,jb f g (by omega),h0];rfl
   ·rw[Mg h0,jb f g (by omega),<-cX,show m-1+i=(i-1)+m by omega,cX,R.2.1];rfl
  have e2:i7 (aE f g m) i=iter f i g:=by unfold i7;rw[jb f g hi];rfl
  have hp:(!cY circ (iH (aE f g m) i) (i7 (aE f g m) i))=true:=hp;rw[e1,e2]at hp;simpa using hp
theorem kU.ring2 {W:List (Int×Int)}(P:kU W){r:List Int}(hr:r∈aQ W):∃ g m,r=aE (wr W) g m/\cU (wr W) g m/\2<=m:=by
 obtain⟨w1,w2,w3,w4⟩:=P.wrong;obtain⟨g,hg,rfl,R⟩:=(du P.inj w3 w4 (aU W) [] (fun x h=>h) (fun x h=>by cases h)).2.2.2 r hr;exact⟨g,_,rfl,R,Eg (w1 g hg).2 R⟩
theorem x6 (one:Int){r:List Int}(h:r≠[]):(gT one r).Perm (r.map (fun x=>(one,x))++[(r.getLastD 0,r.headD 0)]):=by
 have e:r.map (fun x=>(one,x))=r.dropLast.map (fun x=>(one,x))++[(one,r.getLastD 0)]:=by
  have e0:r=r.dropLast++[r.getLast h]:=(NK h).symm
  have e1:r.getLastD 0=r.getLast h:=by rw[Nt,List.getLast?_eq_some_getLast h];rfl
  have:=Ng (List.map fun x=>(one,x)) e0;rw[Mr]at this;rw[e1];exact this
 rw[e];unfold gT;rw[Nf];exact List.Perm.append_left _ (List.Perm.swap _ _ _)
theorem vG {one:Int}{r:List Int}(h:2<=r.length){p:Int×Int}(hp:p∈gT one r):p.2∈r/\((p.1=one)\/(p.1∈r/\p=(r.getLastD 0,r.headD 0))):=by
 have hne:r≠[]:=by intro z;rw[z]at h;simp at h
 have:=(x6 one hne).mem_iff.mp hp
 have hl:r.getLastD 0∈r:=by rw[Nt,List.getLast?_eq_some_getLast hne];exact List.getLast_mem hne
 have hd:r.headD 0∈r:=by cases r with | nil=>exact absurd rfl hne | cons a t=>exact Mm
 rcases Ml.mp this with z | z
 ·obtain⟨x,hx,rfl⟩:=MF.mp z
  exact⟨hx,.inl rfl⟩
 ·rw[Mv.mp z]
  exact⟨hd,.inr ⟨hl,rfl⟩⟩
theorem AR {one:Int}:∀ (rs:List (List Int)),rs.flatten.Nodup->(∀ x∈rs.flatten,x≠one)->(∀ r∈rs,2<=r.length)->((rs.flatMap (gT one)).map hU).Nodup
 | [],_,_,_=>Nj
 | r::rs,nd,no,h2=>by
  rw[MJ]at nd no;obtain⟨n1,n2,n3⟩:=MW.mp nd;have hr2:=h2 r Mm
  have hne:r≠[]:=by intro z;rw[z]at hr2;simp at hr2
  rw[NN,Mr];refine MW.mpr ⟨?_,AR rs n2 (fun x hx=>no x (Ml.mpr (.inr hx))) fun q hq=>h2 q (Mh _ hq),fun a ha b hb e=>?_⟩
  ·refine ((x6 one hne).map hU).nodup_iff.mpr ?_
   rw[Mr,M8]
   have inj:∀ x y:Int,bx one x=bx one y->x=y:=fun x y e=>by
    rcases gB.mp e with ⟨_,z⟩ | ⟨z1,z2⟩
    ·exact z
    ·rw[z2,z1]
   refine MW.mpr ⟨N1.mpr (n1.imp fun {x y} hxy e=>hxy (inj x y e)),by simp,fun a ha b hb e=>?_⟩
   ·obtain⟨x,hx,rfl⟩:=MF.mp ha
    rw[List.map_singleton,Mv]at hb;rw[hb]at e;have e:bx one x=bx (r.getLastD 0) (r.headD 0):=e
    have hl:r.getLastD 0∈r:=by rw[Nt,List.getLast?_eq_some_getLast hne];exact List.getLast_mem hne
    have hd:r.headD 0∈r:=by cases r with | nil=>exact absurd rfl hne | cons a t=>exact Mm
    rcases gB.mp e with ⟨z,_⟩ | ⟨z,_⟩
    ·exact no _ (Ml.mpr (.inl hl)) z.symm
    ·exact no _ (Ml.mpr (.inl hd)) z.symm
  ·obtain⟨p,hp,rfl⟩:=MF.mp ha
   obtain⟨q,hq,rfl⟩:=MF.mp hb;obtain⟨r2,hr,hq2⟩:=List.mem_flatMap.mp hq;obtain⟨p2,_⟩:=vG hr2 hp;obtain⟨q2,q1⟩:=vG (h2 r2 (Mh _ hr)) hq2;have inF:∀ x∈r2,x∈rs.flatten:=fun x hx=>MO.mpr ⟨r2,hr,hx⟩;have e:bx p.1 p.2=bx q.1 q.2:=e;rcases gB.mp e with ⟨_,z⟩ | ⟨_,z⟩
   ·exact n3 p.2 p2 q.2 (inF _ q2) z
   ·rcases q1 with y | ⟨y,_⟩
    ·exact no p.2 (Ml.mpr (.inl p2)) (z.trans y)
    ·exact n3 p.2 p2 q.1 (inF _ y) z
theorem CJ (xs:List V):gR xs none (some (-1))=xs.dropLast:=by
 unfold gR;rw[HT.sIx_none,List.drop_zero,Nat.sub_zero,List.dropLast_eq_take]
 congr 1
 unfold HT.sIx;dsimp only;rw[Mi (by decide)];omega
theorem kU.mem_ring {W:List (Int×Int)}(P:kU W){r:List Int}(hr:r∈aQ W){x:Int}(hx:x∈r):x∈aq W/\wr W x≠x:=by
 obtain⟨w1,w2,w3,w4⟩:=P.wrong;exact w1 _ ((du P.inj w3 w4 (aU W) [] (fun x h=>h) (fun x h=>by cases h)).2.1 _ (MO.mpr ⟨r,hr,hx⟩)).2
theorem Er (f:Int->Int)(g:Int){m:Nat}(h:1<=m):(aE f g m).getLastD 0=iter f (m-1) g:=by
 rw[Nt,List.getLast?_eq_getElem?,b6,jb f g (by omega)];rfl
theorem Ep (f:Int->Int)(g:Int){m:Nat}(h:1<=m):(aE f g m).headD 0=g:=by
 rw[List.headD_eq_head?_getD,List.head?_eq_getElem?,jb f g (by omega)];rfl
open L2
end Wz
namespace L2
open PySem PySem.Spec PyProof.Rows
theorem uY:entryFor table "dict_itemiterator.__iter__" = some Builtin.«dict_keyiterator.__iter__»:=entryFor_alias (id':="dict_keyiterator.__iter__") (by rfl) rfl (by decide +kernel) (by rfl)
theorem tY {prog:Program}{w:World}{A:Around}{E:Value->Shared->Prop}{s:Shared}{it:Addr}{Q:Value->Shared->Prop}(hT:s.TypeIs (.ref it) "dict_itemiterator")(h:Q (.ref it) s):wpAny (model prog w) A (pyIter (.ref it)) Q E s:=by
 refine wpAny_pyIter_slot hT PySem.F.slot_dict_itemiterator_iter (N6 PySem.F.slot_dict_itemiterator_iter hT uY ?go (PySem.F.args_dict_itemiterator_iter_1 _))
 case go =>
  unfold Builtin.«dict_keyiterator.__iter__»;exact Mq ⟨_,rfl,"dict_itemiterator",_,hT,PySem.F.slot_dict_itemiterator_next.lookup,h⟩
def JK (d:Addr)(o:Obj)(kvs:List (cf×V)):It :=
 ⟨fun i H=>H d=some (.frz o (.dK kvs))/\i<kvs.length,fun i H y H'=>∃ T p,kvs[i]? = some p/\H T=none/\y=.ref T/\H'=upd H T (.tup [kV p.1,p.2]),fun i H=>H d=some (.frz o (.dK kvs))/\kvs.length<=i⟩
theorem CA {P:Program}{w:World}{K:PySem.W.Frag}{elts:List Expr} {kk}{pos:Pos}(d it:Addr)(o:Obj)(kvs:List (cf×V))(ep:Nat)(hep:∀ es ep',o.data=.dict es ep'->ep'=ep) :
  zO P w K (.Tuple elts kk pos) (JK d o kvs) [it] it (fun i h=>∃ ok ov,IsItemIter h it d i kvs.length ep ok ov) where
 mem:=by simp
 obj:=fun i h st b hb=>by
  have e:b=it:=by simpa using hb
  subst e;obtain⟨ok,ov,e⟩:=st;exact⟨_,e,fun v z=>by cases z⟩
 keep:=fun i h h' st k=>by
  obtain⟨ok,ov,e⟩:=st;exact⟨ok,ov,k it (by simp) _ e⟩
 item:=by
  intro X hP hw hK hc i pins s σ H E I hf st hg;subst hP hw hK;obtain⟨hH,hi⟩:=hg;obtain⟨lo,vs,rel,hat⟩:=uc hep (I.hok d _ hH);obtain⟨f0,f1,f2,f3,f4,f5⟩:=hf it (by simp);have hl:kvs.length=vs.length:=Mo rel;obtain⟨p,hp⟩:∃ p,kvs[i]? = some p:=⟨kvs[i],by simp[hi]⟩;obtain⟨q,hq,ek,rv⟩:=Wz.paired_get rel hp;obtain⟨k,v⟩:=q;have ek:p.1=k:=ek;have rv:bu p.2 v:=rv;obtain⟨ok,ov,st⟩:=st;rw[hl]at st;have lti:it<s.heap.objs.size:=Mw st;refine wpAny_pyNext_items_item (knd:=bz X.prog X.w) st hat hq fun key h' hk out hT hsz keep=>⟨.ref s.heap.objs.size,rfl,?_⟩;refine wpAny_letOwnedTupleGo_items (s:={ s with heap:=h' }) out fun h2 st2 sb2=>?_
  have rk:bu (kV p.1) key:=by
   rw[ek];rcases bU (k:=k) (v:=key) hk with ⟨j,t,ej,ev⟩ | ⟨j,t,ej,ev⟩
   ·subst ej;exact⟨t,ev⟩
   ·subst ej;exact⟨t,ev⟩
  have hfr:H s.heap.objs.size=none:=I.hok.fresh (Mn _)
  have IL:aK X pins σ (upd H s.heap.objs.size (.tup [kV p.1,p.2])) { s with heap:=s.heap.push { cls:=.type "tuple",data:=.seq #[key,v] },toks:=s.toks } :=
   I.laid (fun b o q=>Heap.get?_push_of_some _ q) (Mn _) ⟨by show 2<=sizeLine;decide,[key,v],.cons rk (.cons rv .nil),⟨_,Heap.get?_push_size _ rfl,rfl,_,rfl⟩⟩
  have I2:=IL.turned (t':=s.toks) (h':=h2) (it:=it) (fun b o n1 q=>by
   refine (sb2.2 b n1).trans ?_
   show h'.get? b=some o
   by_cases hb:b=s.heap.objs.size
   ·subst hb
    have q:(s.heap.push { cls:=.type "tuple",data:=.seq #[key,v] }).get? s.heap.objs.size=some o:=q;rw[Heap.get?_push_size _ rfl]at q;cases q;exact hT
   ·have q:(s.heap.push { cls:=.type "tuple",data:=.seq #[key,v] }).get? b=some o:=q
    refine keep b o n1 ?_;rw[Heap.get?_push_ne _ _ _ hb]at q
    exact q) (by rw[af (MB lti)];exact f0) f1 f3 f4 f5
  refine⟨.ref s.heap.objs.size,_,I2,rfl,⟨s.heap.objs.size,p,hp,hfr,rfl,rfl⟩,⟨_,_,by rw[hl];exact st2⟩,fun b hb=>?_⟩
  have hb':b=it:=by simpa using hb
  subst hb';rw[af (MB lti)];exact f0
 done:=by
  intro X hP hw hK hc i pins s σ H E I hf st hg;subst hP hw hK;obtain⟨hH,hi⟩:=hg;obtain⟨lo,vs,rel,hat⟩:=uc hep (I.hok d _ hH);have hl:kvs.length=vs.length:=Mo rel;obtain⟨f0,f1,f2,f3,f4,f5⟩:=hf it (by simp);obtain⟨ok,ov,st⟩:=st;rw[hl]at st;exact wpAny_pyNext_items_end (knd:=bz X.prog X.w) (I.ok.hd hc) st hat (by simp;omega) fun h' eb=>⟨rfl,I.turned (t':=s.toks) (fun b o hb e=>eb b o hb e) f0 f1 f3 f4 f5⟩
 self:=fun _ _ _ _ _ st h=>by
  obtain⟨ok,ov,e⟩:=st;exact tY ⟨_,e,rfl⟩ h
def IK (tl:TE):TI:=fun σ H R=>tl σ H fun x H1=>∃ d kvs,x=.ref d/\H1 d=some (.dK kvs)/\∀ o:Obj,R (JK d o kvs) (upd H1 d (.frz o (.dK kvs)))
theorem FY {X:Cx}{elts:List Expr} {kk}{tpos:Pos}{l:Expr}{apos cpos:Pos}{tl:TE}(hl:PE X l tl)(hbase:attributeBase l "items" X.env (eval l X.env)=eval l X.env:=by rfl)(hline:(apos.endLine == cpos.line)=true:=by rfl) :
  PI X (.Tuple elts kk tpos) (.Call (.Attribute l "items" apos) [] [] cpos) (IK tl):=by
 intro pins s σ H R I h;refine wpAny_Call_method0_late hbase hline (bH (hl pins s σ H _ I h) fun v s1 ⟨x,H1,I1,r1,q1⟩=>?_);obtain⟨d,kvs,e,hH,q⟩:=q1;subst e;cases r1;obtain⟨hz,lo,vs,rel,dd⟩:=(show bD X.prog X.w H1 s1.heap d (.dK kvs) from I1.hok d _ hH);obtain⟨ep,hat⟩:=dd.dictAt;obtain⟨o,es,ho,hc,hdat,r⟩:=id hat;have hl2:kvs.length=vs.length:=Mo rel;obtain⟨t1,t2,_⟩:=yt I1 (.inl ⟨kvs,Rd.of hH⟩);refine⟨"dict","dict.items",PySem.F.plainAttrs_dict,PySem.F.slot_dict_items,PySem.F.type_dict_items,t1,t2,N9 rfl (PySem.evalArgs_none ?_)⟩;refine call_meetsIn PySem.F.slot_dict_items t1 PySem.F.entry_dict_items (PySem.F.args_dict_items_1 _) (meets_dict_items (bz X.prog X.w) d lo) ⟨⟨vs,dd⟩,?_⟩;have I2:aK X pins σ (upd H1 d (.frz o (.dK kvs))) { s1 with heap:=s1.heap,toks:=s1.toks }:=I1.write (by rw[hH];trivial) (.inl rfl) (fun b u _ e=>e) ⟨_,ho⟩ ⟨ho,hz,lo,vs,rel,dd⟩;have hV:(s1.heap.push { cls:=.type "dict_items",data:=.fields #[.ref d] }).IsItemsView s1.heap.objs.size d:=⟨_,Heap.get?_push_size _ rfl,rfl,rfl⟩;refine wpAny_pyIter_items (s:={ s1 with heap:=s1.heap.push { cls:=.type "dict_items",data:=.fields #[.ref d] } }) (knd:=bz X.prog X.w) hV (hat.at fun o e=>Heap.get?_push_of_some _ e) ?_;have sz:(s1.heap.push { cls:=.type "dict_items",data:=.fields #[.ref d] }).objs.size=s1.heap.objs.size+1:=NW ..;refine⟨_,[_],_,_,_,rfl,I2.kept (t':=s1.toks) fun b o e=>Heap.get?_push_of_some _ (Heap.get?_push_of_some _ e),CA d _ o kvs ep (fun es' ep' e=>?_),⟨_,_,by rw[hl2];exact Heap.get?_push_size _ rfl⟩,fun b hb=>?_,q o⟩
 ·rw[hdat]at e;cases e;rfl
 ·have e:b=(s1.heap.push { cls:=.type "dict_items",data:=.fields #[.ref d] }).objs.size:=by simpa using hb
  rw[e,sz];exact I2.fpOk (Nat.le_succ _) (I2.hok.fresh (Nat.le_succ _))
theorem DJ {d:Addr}{o:Obj}{kvs:List (cf×V)}{g:TG}{tb:TS}{D:kY}{σ:St}{H:Hp}(Pv:Nat->St->Hp->Prop)(h0:Pv 0 σ H)(hl:∀ i σ H,i<=kvs.length->Pv i σ H->H d=some (.frz o (.dK kvs)))
  (hs:∀ i p σ H T,kvs[i]? = some p->Pv i σ H->H T=none->g (.ref T) σ (upd H T (.tup [kV p.1,p.2])) fun σ2 H2=>tb { D with nx:=Pv (i+1),ct:=Pv (i+1),bk:=D.nx } σ2 H2) (hd:∀ σ H,Pv kvs.length σ H->D.nx σ H) :
  ∃ W:Nat->Nat->St->Hp->Prop,(∃ m,W 0 m σ H)/\∀ i m σ H,W i m σ H ->
   ((JK d o kvs).stop i H/\D.nx σ H)\/((JK d o kvs).go i H/\∃ N:St->Hp->Prop,(∀ σ' H',N σ' H'->∃ m',m'<m/\W (i+1) m' σ' H')/\∀ x H',(JK d o kvs).yld i H x H'->g x σ H' fun σ2 H2=>tb { D with nx:=N,ct:=N,bk:=D.nx } σ2 H2):=by
 refine⟨fun i m σ H=>m=kvs.length-i/\i<=kvs.length/\Pv i σ H,⟨kvs.length,by simp,MD _,h0⟩,?_⟩;rintro i m σ H ⟨rfl,hi,p⟩;have q:=hl i σ H hi p
 by_cases hlt:i<kvs.length
 ·refine .inr ⟨⟨q,hlt⟩,Pv (i+1),fun σ' H' p'=>⟨kvs.length-(i+1),by omega,rfl,hlt,p'⟩,fun x H' y=>?_⟩
  obtain⟨T,p2,hp,hT,ex,e⟩:=y;subst e ex;exact hs i p2 σ _ T hp p hT
 ·have e:i=kvs.length:=by omega
  subst e;exact .inl ⟨⟨q,Mn _⟩,hd σ H p⟩
theorem Hn {X:Cx}{pos:Pos}(K:PySem.W.Frag){es:List Expr}{k:Nat}{t:GG}{n:Nat}(hc:X.calm=true)(h:JQ X es t)(hK:X.K=K:=by rfl)
  (hn:(assignEach es X.env).length=n:=by rfl) (hst:(assignEach es X.env).findIdx? (·.1)=none:=by rfl):PG X (.Tuple es k pos) (JX K n t):=by
 subst hK;exact rO hc h hn hst
end L2
namespace Wz
open PySem L2
theorem fB (A:HA):aS A=[(("worn" : Str),V.ref A.w),(("holders" : Str),V.ref A.h),(("circles" : Str),V.ref A.c),(("deeds" : Str),V.ref A.d)]:=by
 unfold aS;simp only[cp,Mg s1,Mg s2,Mg s3,Mg s4,Mg s5,Mg s6]
theorem Jf (A:HA)(l:Addr):cp "worn" (.ref l) (aS A)=aS { A with w:=l }:=by
 rw[fB,fB];simp only[cp,if_true]
theorem Je (A:HA)(l:Addr):cp "holders" (.ref l) (aS A)=aS { A with h:=l }:=by
 rw[fB,fB];simp only[cp,Mg s1,if_true]
theorem Jc (A:HA)(l:Addr):cp "circles" (.ref l) (aS A)=aS { A with c:=l }:=by
 rw[fB,fB];simp only[cp,Mg s2,Mg s4,if_true]
theorem Jd (A:HA)(l:Addr):cp "deeds" (.ref l) (aS A)=aS { A with d:=l }:=by
 rw[fB,fB];simp only[cp,Mg s3,Mg s5,Mg s6,if_true]
theorem yy (A:HA):(aS A).length<1000:=by rw[fB];show 4<1000;decide
theorem JY (A:HA)(cs:List Addr):aS { A with cs:=cs }=aS A:=by rw[fB,fB]
theorem xJ:∀ {cs:List Addr}{ci:List (Int×List Int)}{i:Nat}{p:cf×V},cs.length=ci.length->(b5 cs ci)[i]? = some p->∃ a x,cs[i]? = some a/\ci[i]? = some x/\p=(Sum.inl x.1,V.ref a)
 | [],[],i,p,_,h=>by simp[b5]at h
 | c::cs,y::ci,0,p,_,h=>by
  refine⟨c,y,rfl,rfl,?_⟩;have h:some ((Sum.inl y.1,V.ref c):cf×V)=some p:=h;exact (Mu h).symm
 | c::cs,y::ci,i+1,p,e,h=>by
  obtain⟨a,x,h1,h2,h3⟩:=xJ (cs:=cs) (ci:=ci) (i:=i) (p:=p) (by simpa using e) h;exact⟨a,x,h1,h2,h3⟩
theorem zT:∀ {cs:List Addr}{ci:List (Int×List Int)}{g:Int},g∉ci.map (·.1)->dI (b5 cs ci) (Sum.inl g:cf)=none
 | [],_,g,_=>by cases ‹List (Int×List Int)›<;>rfl
 | c::cs,[],g,_=>rfl
 | c::cs,y::ci,g,h=>by
  rw[MQ,Ms]at h
  show dI ((Sum.inl y.1,V.ref c)::b5 cs ci) (Sum.inl g:cf)=none
  rw[jI (fun z=>h (.inl (Sum.inl.inj z).symm))];exact zT fun z=>h (.inr z)
inductive zA (C:Addr) (vs:List V) (H:Hp) (Q:VK) (E_:XK):Prop
 | mk (p:Addr) (A:HA) (st:bX) (h_0:vs=[.ref p]) (h_1:aM C H p A st) (h_2:(st.circ.map (·.1)).Nodup) (h_3:st.circ.length<=900) (h_4:∀ (q:Addr)(B:HA)(H':Hp),H q=none->aM C H' q B st->(∀ b∈B.fp,H b=none)->ax H H'->Q (.ref q) H'):zA C vs H Q E_
def gQ (h:Int->Int):List Int->Int->Prop
 | [],_=>True
 | x::xs,y=>h x=xs.headD y/\gQ h xs y
theorem gQ.congr {h h':Int->Int}:∀ {xs:List Int}{y:Int},(∀ x∈xs,h' x=h x)->gQ h xs y->gQ h' xs y
 | [],_,_,_=>True.intro
 | x::xs,y,e,l=>⟨(e x Mm).trans l.1,gQ.congr (fun z hz=>e z (Mh _ hz)) l.2⟩
theorem pW (xs ys:List Int)(y:Int):(xs++ys).headD y=xs.headD (ys.headD y):=by cases xs<;>rfl
theorem gQ.append {h:Int->Int}:∀ {xs ys:List Int}{y:Int},gQ h xs (ys.headD y)->gQ h ys y->gQ h (xs++ys) y
 | [],_,_,_,l=>l
 | x::xs,ys,y,l1,l2=>⟨l1.1.trans (pW xs ys y).symm,gQ.append l1.2 l2⟩
theorem ET {z:Int}:∀ (xs:List Int)(h:Int->Int)(y:Int),xs.Nodup->z∉xs->h z=xs.headD y->gQ h xs y ->
  (xs.map fun x=>(z,x)).foldl aG h z=y/\(∀ x∈xs,(xs.map fun x=>(z,x)).foldl aG h x=x)/\∀ x,x≠z->x∉xs->(xs.map fun x=>(z,x)).foldl aG h x=h x
 | [],h,y,_,_,e,_=>⟨e,(fun x hx=>nomatch hx),fun x _ _=>rfl⟩
 | a::xs,h,y,nd,nz,e,l=>by
  obtain⟨n1,n2⟩:=MN.mp nd;have za:z≠a:=fun q=>nz (by rw[q];exact Mm);have zx:z∉xs:=fun q=>nz (Mh _ q)
  have sa:aG h (z,a) a=a:=by unfold aG;dsimp only;rw[Mi rfl];exact e
  have sz:aG h (z,a) z=h a:=by unfold aG;dsimp only;rw[Mg za,Mi rfl]
  have so:∀ x,x≠z->x≠a->aG h (z,a) x=h x:=fun x q1 q2=>by unfold aG;dsimp only;rw[Mg q2,Mg q1]
  obtain⟨c1,c2,c3⟩:=ET xs (aG h (z,a)) y n2 zx (by rw[sz];exact l.1) (gQ.congr (fun x hx=>so x (fun q=>zx (by rw[<-q];exact hx)) (fun q=>n1 (by rw[<-q];exact hx))) l.2);rw[MQ,NR];refine⟨c1,fun x hx=>?_,fun x q1 q2=>?_⟩
  ·rcases Ms.mp hx with q | q
   ·rw[q,c3 a (ME za) n1];exact sa
   ·exact c2 x q
  ·rw[c3 x q1 fun q=>q2 (Mh _ q)]
   exact so x q1 fun q=>q2 (by rw[q];exact Mm)
def zN (f:Int->Int)(r:List Int):Prop:=∃ g t,r=g::t/\t≠[]/\f g=t.headD 0/\gQ f t g
theorem xT {f:Int->Int}{g:Int}:∀ (m i:Nat),gQ f ((List.range m).map fun j=>iter f (i+j) g) (iter f (i+m) g)
 | 0,_=>True.intro
 | m+1,i=>by
  rw[Nr,MQ,M8]
  have e:((List.range m).map ((fun j=>iter f (i+j) g) ∘ Nat.succ))=(List.range m).map fun j=>iter f (i+1+j) g:=NT fun j _=>by show iter f (i+(j+1)) g=_;rw[show i+(j+1)=i+1+j by omega]
  rw[e,show i+(m+1)=i+1+m by omega];refine⟨?_,xT m (i+1)⟩
  cases m with
  | zero=>rfl
  | succ m=>rw[Nr];rfl
theorem Es (f:Int->Int)(g:Int)(m:Nat):aE f g (m+1)=g::(List.range m).map fun j=>iter f (1+j) g:=by
 unfold aE;rw[Nr,MQ,M8];refine Ng (List.cons _) (NT fun j _=>?_)
 show iter f (j+1) g=_
 rw[Nat.add_comm]
theorem A1 {f:Int->Int}{g:Int}{m:Nat}(R:cU f g m)(m2:2<=m):zN f (aE f g m):=by
 obtain⟨k,rfl⟩:∃ k,m=k+2:=⟨m-2,by omega⟩;refine⟨g,_,Es f g (k+1),by rw[Nr];simp,by rw[Nr];rfl,?_⟩;have:=xT (f:=f) (g:=g) (k+1) 1;rw[show 1+(k+1)=k+2 by omega,R.2.1]at this;exact this
def fS (r:List Int):Int:=r.headD 0
def C9 (f:Int->Int)(one:Int):List (List Int)->Int
 | []=>one
 | r::_=>f (fS r)
def HC (f h:Int->Int)(one:Int):List (List Int)->Prop
 | []=>True
 | r::rr=>h (fS r)=C9 f one rr/\HC f h one rr
theorem HC.congr {f h h':Int->Int}{one:Int}:∀ {rr:List (List Int)},(∀ r∈rr,h' (fS r)=h (fS r))->HC f h one rr->HC f h' one rr
 | [],_,_=>True.intro
 | r::rr,e,c=>⟨(e r Mm).trans c.1,HC.congr (fun z hz=>e z (Mh _ hz)) c.2⟩
theorem Ia {f:Int->Int}{one:Int}(fo:f one=one):∀ (rr:List (List Int)),(rr.map fS).Nodup->one∉rr.map fS ->
  (rr.reverse.map fun r=>(one,fS r)).foldl aG f one=C9 f one rr/\HC f ((rr.reverse.map fun r=>(one,fS r)).foldl aG f) one rr/\∀ x,x≠one->x∉rr.map fS->(rr.reverse.map fun r=>(one,fS r)).foldl aG f x=f x
 | [],_,_=>⟨fo,True.intro,fun x _ _=>rfl⟩
 | r::rr,nd,no=>by
  rw[MQ]at nd no;obtain⟨n1,n2⟩:=MN.mp nd;have o1:one≠fS r:=fun q=>no (by rw[<-q];exact Mm);obtain⟨c1,c2,c3⟩:=Ia fo rr n2 fun q=>no (Mh _ q)
  have fold:((r::rr).reverse.map fun r=>(one,fS r)).foldl aG f=aG ((rr.reverse.map fun r=>(one,fS r)).foldl aG f) (one,fS r):=by
   rw[List.reverse_cons,Mr,M0];rfl
  rw[fold];generalize (rr.reverse.map fun r=>(one,fS r)).foldl aG f=F at c1 c2 c3
  have so:∀ x,x≠one->x≠fS r->aG F (one,fS r) x=F x:=fun x q1 q2=>by unfold aG;dsimp only;rw[Mg q2,Mg q1]
  refine⟨?_,⟨?_,HC.congr (fun q hq=>so _ (fun z=>no ?_) (fun z=>n1 ?_)) c2⟩,fun x q1 q2=>?_⟩
  ·unfold aG;dsimp only
   rw[Mg o1,Mi rfl];exact c3 _ (ME o1) n1
  ·unfold aG;dsimp only
   rw[Mi rfl];exact c1
  ·rw[<-z];exact Mh _ (MF.mpr ⟨q,hq,rfl⟩)
  ·rw[<-z];exact MF.mpr ⟨q,hq,rfl⟩
  ·rw[so x q1 fun z=>q2 (by rw[z];exact Mm)]
   exact c3 x q1 fun z=>q2 (Mh _ z)
def Be (rr:List (List Int)):List Int:=rr.flatMap fun r=>r.tail++r.take 1
theorem ww {g:Int}{t:List Int}(rr:List (List Int)):Be ((g::t)::rr)=(t++[g])++Be rr:=rfl
theorem Bg {f:Int->Int}{one:Int}:∀ {rr:List (List Int)},(∀ r∈rr,zN f r)->(Be rr).headD one=C9 f one rr
 | [],_=>rfl
 | r::rr,h=>by
  obtain⟨g,t,rfl,tn,fg,_⟩:=h r Mm;rw[ww]
  cases t with
  | nil=>exact absurd rfl tn
  | cons a t=>exact fg.symm
theorem Bh {f h:Int->Int}{one:Int}:∀ {rr:List (List Int)},(∀ r∈rr,zN f r)->HC f h one rr->(∀ r∈rr,∀ x∈r.tail,h x=f x)->gQ h (Be rr) one
 | [],_,_,_=>True.intro
 | r::rr,hr,hc,ht=>by
  have ih:=Bh (rr:=rr) (fun q hq=>hr q (Mh _ hq)) hc.2 fun q hq=>ht q (Mh _ hq);have th:=Bg (one:=one) (rr:=rr) fun q hq=>hr q (Mh _ hq);have ht0:=ht r Mm;obtain⟨g,t,rfl,tn,fg,lt⟩:=hr r Mm;rw[ww];refine gQ.append (gQ.append (gQ.congr ht0 lt) ⟨?_,True.intro⟩) ih
  show h g=(Be rr).headD one
  rw[th];exact hc.1
theorem qO:∀ (rr:List (List Int)),(∀ r∈rr,r≠[])->(Be rr).Perm rr.flatten
 | [],_=>List.Perm.refl _
 | r::rr,h=>by
  have hr:=h r Mm
  cases r with
  | nil=>exact absurd rfl hr
  | cons g t =>
   rw[ww,MJ];exact (List.perm_append_comm (l₁:=t) (l₂:=[g])).append (qO rr fun q hq=>h q (Mh _ hq))
def oh (one other:Int):List (List Int)->List (Int×Int)
 | []=>[]
 | last::rest=>((last::rest).reverse.map fun r=>(one,fS r))++((other,last.getLastD 0)::((last.tail.map fun x=>(one,x))++(((fS last::Be rest).map fun x=>(other,x))++[(one,other)])))
theorem va {t:List Int}(h:t≠[])(g:Int):(g::t).getLastD 0=t.getLast h/\t=t.dropLast++[t.getLast h]:=by
 refine⟨?_,(NK h).symm⟩;rw[Nt,List.getLast?_cons,List.getLast?_eq_some_getLast h];rfl
theorem rn {h:Int->Int}:∀ {xs:List Int}{z y:Int},gQ h (xs++[z]) y->gQ h xs z/\h z=y
 | [],z,y,l=>⟨True.intro,l.1⟩
 | x::xs,z,y,l=>by
  obtain⟨i1,i2⟩:=rn l.2;exact⟨⟨l.1.trans (pW xs [z] y),i1⟩,i2⟩
theorem Bi {f:Int->Int}{one other:Int}(fo:f one=one)(fe:f other=other)(ne:one≠other):∀ (rr:List (List Int)),(∀ r∈rr,zN f r)->rr.flatten.Nodup->one∉rr.flatten->other∉rr.flatten ->
  ∀ x,(oh one other rr).foldl aG f x=if x∈rr.flatten then x else f x
 | [],_,_,_,_=>fun x=>by simp[oh]
 | last::rest,hr,nd,no,ne2=>by
  have hm:∀ r∈last::rest,fS r∈r:=fun r hq=>by obtain⟨g,t,rfl,_⟩:=hr r hq;exact Mm
  have hdn:∀ (rr:List (List Int)),(∀ r∈rr,fS r∈r)->rr.flatten.Nodup->(rr.map fS).Nodup/\∀ x∈rr.map fS,x∈rr.flatten:=fun rr=>by
   induction rr with
   | nil=>intro _ _;exact⟨Nj,fun x h=>by cases h⟩
   | cons r rr ih =>
    intro h n;rw[MJ]at n;obtain⟨a1,a2,a3⟩:=MW.mp n;obtain⟨i1,i2⟩:=ih (fun q hq=>h q (Mh _ hq)) a2;have h0:=h r Mm;refine⟨MN.mpr ⟨fun z=>a3 _ h0 _ (i2 _ z) rfl,i1⟩,fun x hx=>?_⟩;rw[MJ,Ml];rcases Ms.mp hx with z | z
    ·exact .inl (by rw[z];exact h0)
    ·exact .inr (i2 x z)
  obtain⟨hn,hsub⟩:=hdn _ hm nd;obtain⟨m1,m2,m3⟩:=Ia fo (last::rest) hn fun z=>no (hsub _ z);obtain⟨g,t,rfl,tn,fg,lt⟩:=hr last Mm;rw[MJ]at nd no ne2;obtain⟨nd1,nd2,nd3⟩:=MW.mp nd;obtain⟨gt,ndt⟩:=MN.mp nd1;obtain⟨el,es⟩:=va tn g;have oG:∀ x∈(g::t)++rest.flatten,x≠one/\x≠other:=fun x hx=>⟨fun z=>no (by rw[<-z];exact hx),fun z=>ne2 (by rw[<-z];exact hx)⟩;have tin:∀ x∈t,x∈(g::t)++rest.flatten:=fun x hx=>Ml.mpr (.inl (Mh _ hx));have gin:g∈(g::t)++rest.flatten:=Ml.mpr (.inl Mm)
  have thd:∀ x∈t,x∉((g::t)::rest).map fS:=fun x hx z=>by
   rcases Ms.mp z with z | z
   ·exact gt (by have:x=g:=z;rw[<-this];exact hx)
   ·obtain⟨r,hrr,e⟩:=MF.mp z
    exact nd3 x (Mh _ hx) x (MO.mpr ⟨r,hrr,by rw[<-e];exact hm r (Mh _ hrr)⟩) rfl
  have rtl:∀ r∈rest,∀ x∈r.tail,x∉((g::t)::rest).map fS:=fun r hrr x hx z=>by
   have xr:x∈r:=List.mem_of_mem_tail hx;have xf:x∈rest.flatten:=MO.mpr ⟨r,hrr,xr⟩;rcases Ms.mp z with z | z
   ·exact nd3 g Mm x xf z.symm
   ·obtain⟨q,hq,e⟩:=MF.mp z
    obtain⟨i,hi⟩:=List.getElem?_of_mem hrr;obtain⟨j,hj⟩:=List.getElem?_of_mem hq
    by_cases ij:i=j
    ·subst ij
     rw[hi]at hj;cases hj;obtain⟨g2,t2,e2,_⟩:=hr r (Mh _ hrr);subst e2;have ndr:(g2::t2).Nodup:=(Od.mp nd2).1 _ hrr;exact (MN.mp ndr).1 (by have:g2=x:=e;rw[this];exact hx)
    ·have pw:=(Od.mp nd2).2
     have hxq:x∈q:=by rw[<-e];exact hm q (Mh _ hq)
     rw[Oi]at pw;obtain⟨hi1,hi2⟩:=List.getElem?_eq_some_iff.mp hi;obtain⟨hj1,hj2⟩:=List.getElem?_eq_some_iff.mp hj;rcases Nat.lt_or_gt_of_ne ij with z | z
     ·have:=pw i j hi1 hj1 z
      rw[hi2,hj2]at this;exact this x xr x hxq rfl
     ·have:=pw j i hj1 hi1 z
      rw[hi2,hj2]at this;exact this x hxq x xr rfl
  have onf:∀ r∈rest,∀ x∈r,x∈(g::t)++rest.flatten:=fun r hrr x hx=>Ml.mpr (.inr (MO.mpr ⟨r,hrr,hx⟩));intro x
  show (oh one other ((g::t)::rest)).foldl aG f x=_
  unfold oh;rw[M0,NR,M0,M0,el];have e0:fS (g::t)=g:=rfl;rw[e0];have m1':(((g::t)::rest).reverse.map fun r=>(one,fS r)).foldl aG f one=f g:=m1;have m2a:(((g::t)::rest).reverse.map fun r=>(one,fS r)).foldl aG f g=C9 f one rest:=m2.1;have m2b:=m2.2;clear m1 m2;generalize (((g::t)::rest).reverse.map fun r=>(one,fS r)).foldl aG f=F1 at m1' m2a m2b m3 ⊢;generalize hz:t.getLast tn=z at es ⊢
  have zt:z∈t:=by rw[es];simp
  have zo:=oG z (tin z zt)
  have F1z:F1 z=g:=by
   rw[m3 z zo.1 (thd z zt)];rw[es]at lt;exact (rn lt).2
  have F1o:F1 other=other:=by rw[m3 other (ME ne) fun q=>?_,fe];exact ne2 (by have:=hsub _ q;rw[MJ]at this;exact this)
  have s_z:aG F1 (other,z) z=other:=by unfold aG;dsimp only;rw[Mi rfl];exact F1o
  have s_o:aG F1 (other,z) other=g:=by unfold aG;dsimp only;rw[Mg (ME zo.2),Mi rfl];exact F1z
  have s_x:∀ x,x≠other->x≠z->aG F1 (other,z) x=F1 x:=fun x q1 q2=>by unfold aG;dsimp only;rw[Mg q2,Mg q1]
  generalize aG F1 (other,z)=F2 at s_z s_o s_x ⊢
  have lk2:gQ F2 t other:=by
   have l0:=lt;rw[es]at l0 ⊢;obtain⟨l1,_⟩:=rn l0;rw[es]at ndt;refine gQ.append (gQ.congr (fun x hx=>?_) l1) ⟨s_z,True.intro⟩
   have xt:x∈t:=by rw[es];exact Ml.mpr (.inl hx)
   rw[s_x x (oG x (tin x xt)).2 fun q=>(MW.mp ndt).2.2 x hx z (by simp) q];exact m3 x (oG x (tin x xt)).1 (thd x xt)
  have one2:F2 one=t.headD other:=by
   rw[s_x one ne (fun q=>zo.1 q.symm),m1',fg]
   cases t with
   | nil=>exact absurd rfl tn
   | cons a t=>rfl
  obtain⟨c1,c2,c3⟩:=ET t F2 other ndt (fun q=>(oG one (tin one q)).1 rfl) one2 lk2;have et:(g::t).tail=t:=rfl;rw[et];generalize (t.map fun x=>(one,x)).foldl aG F2=F3 at c1 c2 c3 ⊢
  have up:∀ x,x≠one->x≠other->x∉t->F3 x=F1 x:=fun x q1 q2 q3=>by rw[c3 x q1 q3,s_x x q2 fun q=>q3 (by rw[q];exact zt)]
  have gne:=oG g gin;have hrest:∀ r∈rest,zN f r:=fun r hrr=>hr r (Mh _ hrr);have ntr:∀ r∈rest,∀ x∈r,x∉t:=fun r hrr x hx q=>nd3 x (Mh _ q) x (MO.mpr ⟨r,hrr,hx⟩) rfl
  have lk3:gQ F3 (g::Be rest) one:=by
   refine⟨?_,Bh hrest (HC.congr (fun r hrr=>?_) m2b) fun r hrr x hx=>?_⟩
   ·rw[up g gne.1 gne.2 gt,m2a,Bg hrest]
   ·have hx:=hm r (Mh _ hrr)
    exact up _ (oG _ (onf r hrr _ hx)).1 (oG _ (onf r hrr _ hx)).2 (ntr r hrr _ hx)
   ·have xr:x∈r:=List.mem_of_mem_tail hx
    rw[up x (oG x (onf r hrr x xr)).1 (oG x (onf r hrr x xr)).2 (ntr r hrr x xr)];exact m3 x (oG x (onf r hrr x xr)).1 (rtl r hrr x hx)
  have pm:=qO rest fun r hrr=>by obtain⟨g2,t2,e2,_⟩:=hrest r hrr;rw[e2];simp
  have ndx:(g::Be rest).Nodup:=MN.mpr ⟨fun q=>nd3 g Mm g (pm.mem_iff.mp q) rfl,pm.nodup_iff.mpr nd2⟩
  have ox:other∉g::Be rest:=fun q=>by
   rcases Ms.mp q with q | q
   ·exact gne.2 q.symm
   ·exact ne2 (Ml.mpr (.inr (pm.mem_iff.mp q)))
  have oth3:F3 other=g:=by rw[c3 other (ME ne) fun q=>?_];exact s_o;exact (oG other (tin other q)).2 rfl
  obtain⟨d1,d2,d3⟩:=ET (g::Be rest) F3 one ndx ox oth3 lk3;generalize ((g::Be rest).map fun x=>(other,x)).foldl aG F3=F4 at d1 d2 d3 ⊢
  have o1x:one∉g::Be rest:=fun q=>by
   rcases Ms.mp q with q | q
   ·exact gne.1 q.symm
   ·exact no (Ml.mpr (.inr (pm.mem_iff.mp q)))
  have F4o:F4 one=other:=by rw[d3 one ne o1x];exact c1
  show aG F4 (one,other) x=_
  rw[MJ];unfold aG;dsimp only
  by_cases q1:x=other
  ·rw[Mi q1,F4o,q1,Mg ne2,fe]
  ·rw[Mg q1]
   by_cases q2:x=one
   ·rw[Mi q2,d1,q2,Mg no,fo]
   ·rw[Mg q2]
    by_cases q3:x∈(g::t)++rest.flatten
    ·rw[Mi q3]
     by_cases q4:x∈g::Be rest
     ·exact d2 x q4
     ·rw[d3 x q1 q4]
      have xt:x∈t:=by
       rcases Ml.mp q3 with z | z
       ·rcases Ms.mp z with y | y
        ·exact absurd (by rw[y];exact Mm) q4
        ·exact y
       ·exact absurd (Mh _ (pm.mem_iff.mpr z)) q4
      exact c2 x xt
    ·rw[Mg q3]
     have n4:x∉g::Be rest:=fun z=>by
      rcases Ms.mp z with y | y
      ·exact q3 (by rw[y];exact gin)
      ·exact q3 (Ml.mpr (.inr (pm.mem_iff.mp y)))
     have n5:x∉t:=fun z=>q3 (tin x z);rw[d3 x q1 n4,up x q2 q1 n5];exact m3 x q2 fun z=>q3 (by have:=hsub _ z;rw[MJ]at this;exact this)
def EI (rr:List (List Int)):List Int:=match rr with
 | []=>[]
 | last::rest=>(last::rest).reverse.map fS++last.tail
def EJ (rr:List (List Int)):List Int:=match rr with
 | []=>[]
 | last::rest=>last.getLastD 0::fS last::Be rest
theorem wy (one other:Int)(last:List Int)(rest:List (List Int)):(oh one other (last::rest)).Perm (((EI (last::rest)).map fun x=>(one,x))++(((EJ (last::rest)).map fun x=>(other,x))++[(one,other)])):=by
 unfold oh EI EJ;dsimp only;rw[Mr,M8,Nf];refine List.Perm.append_left _ ?_;rw[MQ,List.cons_append];exact List.perm_middle.symm
theorem Fq {one other:Int}(ne:one≠other){A B:List Int}(na:A.Nodup)(nb:B.Nodup)(a1:one∉A)(a2:other∉A)(b1:one∉B)(b2:other∉B):(((A.map fun x=>(one,x))++((B.map fun x=>(other,x))++[(one,other)])).map hU).Nodup:=by
 have inj:∀ o x y:Int,bx o x=bx o y->x=y:=fun o x y e=>by
  rcases gB.mp e with ⟨_,z⟩ | ⟨z1,z2⟩
  ·exact z
  ·rw[z2,z1]
 rw[Mr,Mr,M8,M8];refine MW.mpr ⟨N1.mpr (na.imp fun {x y} hxy e=>hxy (inj one x y e)),MW.mpr ⟨N1.mpr (nb.imp fun {x y} hxy e=>hxy (inj other x y e)),by simp,fun a ha b hb e=>?_⟩,fun a ha b hb e=>?_⟩
 ·obtain⟨x,hx,rfl⟩:=MF.mp ha
  rw[List.map_singleton,Mv]at hb;rw[hb]at e;have e:bx other x=bx one other:=e;rcases gB.mp e with ⟨z,_⟩ | ⟨_,z⟩
  ·exact ne z.symm
  ·exact b1 (by rw[<-z];exact hx)
 ·obtain⟨x,hx,rfl⟩:=MF.mp ha
  rcases Ml.mp hb with z | z
  ·obtain⟨y,hy,rfl⟩:=MF.mp z
   have e:bx one x=bx other y:=e;rcases gB.mp e with ⟨z,_⟩ | ⟨_,z⟩
   ·exact ne z
   ·exact a2 (by rw[<-z];exact hx)
  ·rw[List.map_singleton,Mv]at z
   rw[z]at e;have e:bx one x=bx one other:=e;exact a2 (by rw[<-inj one x other e];exact hx)
theorem Fg:∀ {rr:List (List Int)},(∀ r∈rr,r≠[])->rr.flatten.Nodup->(rr.map fS).Nodup/\∀ x∈rr.map fS,x∈rr.flatten:=fun {rr}=>by
 induction rr with
 | nil=>intro _ _;exact⟨Nj,fun x h=>by cases h⟩
 | cons r rr ih =>
  intro h n;rw[MJ]at n;obtain⟨a1,a2,a3⟩:=MW.mp n;obtain⟨i1,i2⟩:=ih (fun q hq=>h q (Mh _ hq)) a2
  have h0:fS r∈r:=by
   have:=h r Mm
   cases r with
   | nil=>exact absurd rfl this
   | cons g t=>exact Mm
  refine⟨MN.mpr ⟨fun z=>a3 _ h0 _ (i2 _ z) rfl,i1⟩,fun x hx=>?_⟩;rw[MJ,Ml];rcases Ms.mp hx with z | z
  ·exact .inl (by rw[z];exact h0)
  ·exact .inr (i2 x z)
theorem Du:∀ {rr:List (List Int)},(∀ r∈rr,2<=r.length)->rr.flatten.Nodup->(EI rr).Nodup/\∀ x∈EI rr,x∈rr.flatten
 | [],_,_=>⟨Nj,fun x h=>by cases h⟩
 | last::rest,h,nd=>by
  obtain⟨h1,h2⟩:=Fg (rr:=last::rest) (fun r hr z=>by have:=h r hr;rw[z]at this;simp at this) nd;have hl:=h last Mm;unfold EI;dsimp only;have nd0:=nd;rw[MJ]at nd;obtain⟨n1,n2,n3⟩:=MW.mp nd
  have rv:∀ x,x∈(last::rest).reverse.map fS↔x∈(last::rest).map fS:=fun x=>by rw[List.map_reverse,NV]
  refine⟨MW.mpr ⟨by rw[List.map_reverse];exact (NO _).nodup_iff.mpr h1,?_,fun a ha b hb e=>?_⟩,fun x hx=>?_⟩
  ·cases last with
   | nil=>simp at hl
   | cons g t=>exact (MN.mp n1).2
  ·subst e
   have ha:=(rv a).mp ha
   cases last with
   | nil=>simp at hl
   | cons g t =>
    rcases Ms.mp ha with z | z
    ·exact (MN.mp n1).1 (by have:a=g:=z;rw[<-this];exact hb)
    ·obtain⟨r,hr,e⟩:=MF.mp z
     have hr0:fS r∈r:=by
      have:=h r (Mh _ hr)
      cases r with
      | nil=>simp at this
      | cons g2 t2=>exact Mm
     exact n3 a (Mh _ hb) a (MO.mpr ⟨r,hr,by rw[<-e];exact hr0⟩) rfl
  ·rcases Ml.mp hx with z | z
   ·exact h2 x ((rv x).mp z)
   ·rw[MJ];exact Ml.mpr (.inl (List.mem_of_mem_tail z))
theorem Dv:∀ {rr:List (List Int)},(∀ r∈rr,2<=r.length)->rr.flatten.Nodup->(EJ rr).Nodup/\∀ x∈EJ rr,x∈rr.flatten
 | [],_,_=>⟨Nj,fun x h=>by cases h⟩
 | last::rest,h,nd=>by
  have hl:=h last Mm
  have pm:=qO rest fun r hr z=>by have:=h r (Mh _ hr);rw[z]at this;simp at this
  unfold EJ;dsimp only;rw[MJ]at nd;obtain⟨n1,n2,n3⟩:=MW.mp nd
  cases last with
  | nil=>simp at hl
  | cons g t =>
   have tn:t≠[]:=fun z=>by rw[z]at hl;simp at hl
   obtain⟨el,_⟩:=va tn g;have lt:t.getLast tn∈t:=List.getLast_mem tn;rw[el];have e0:fS (g::t)=g:=rfl;rw[e0];refine⟨MN.mpr ⟨fun z=>?_,MN.mpr ⟨fun z=>n3 g Mm g (pm.mem_iff.mp z) rfl,pm.nodup_iff.mpr n2⟩⟩,fun x hx=>?_⟩
   ·rcases Ms.mp z with y | y
    ·exact (MN.mp n1).1 (by rw[<-y];exact lt)
    ·exact n3 _ (Mh _ lt) _ (pm.mem_iff.mp y) rfl
   ·rw[MJ]
    rcases Ms.mp hx with z | z
    ·exact Ml.mpr (.inl (by rw[z];exact Mh _ lt))
    ·rcases Ms.mp z with y | y
     ·exact Ml.mpr (.inl (by rw[y];exact Mm))
     ·exact Ml.mpr (.inr (pm.mem_iff.mp y))
theorem Dw {one other:Int}:∀ {rr:List (List Int)},(∀ r∈rr,2<=r.length)->(oh one other rr).length=if rr=[] then 0 else rr.flatten.length+rr.length+2
 | [],_=>rfl
 | last::rest,h=>by
  have hl:=h last Mm
  have pm:=qO rest fun r hr z=>by have:=h r (Mh _ hr);rw[z]at this;simp at this
  rw[Mg (by simp),(wy one other last rest).length_eq];unfold EI EJ;dsimp only;rw[Mj,Mj,Me,Me,Mj,Me,N5,Ol,MX,MX,MX,pm.length_eq,MJ,Mj,MU];omega
theorem wx {one other:Int}:∀ {rr:List (List Int)},(∀ r∈rr,2<=r.length)->rr.flatten.Nodup->∀ {p:Int×Int},p∈oh one other rr->(p.1=one\/p.1=other)/\(p.2∈rr.flatten\/p=(one,other))
 | [],_,_,p,hp=>by cases hp
 | last::rest,h,nd,p,hp=>by
  have:=(wy one other last rest).mem_iff.mp hp;rcases Ml.mp this with z | z
  ·obtain⟨x,hx,rfl⟩:=MF.mp z
   exact⟨.inl rfl,.inl ((Du h nd).2 x hx)⟩
  ·rcases Ml.mp z with z | z
   ·obtain⟨x,hx,rfl⟩:=MF.mp z
    exact⟨.inr rfl,.inl ((Dv h nd).2 x hx)⟩
   ·rw[Mv.mp z]
    exact⟨.inl rfl,.inr rfl⟩
theorem Bj {one other:Int}(ne:one≠other):∀ {rr:List (List Int)},(∀ r∈rr,2<=r.length)->rr.flatten.Nodup->one∉rr.flatten->other∉rr.flatten->((oh one other rr).map hU).Nodup
 | [],_,_,_,_=>Nj
 | last::rest,h,nd,n1,n2=>by
  obtain⟨a1,a2⟩:=Du h nd;obtain⟨b1,b2⟩:=Dv h nd;exact ((wy one other last rest).map hU).nodup_iff.mpr (Fq ne a1 b1 (fun z=>n1 (a2 _ z)) (fun z=>n2 (a2 _ z)) (fun z=>n1 (b2 _ z)) (fun z=>n2 (b2 _ z)))
theorem kU.two {st:bX}{ml:List (Int×Int)}(P:kU st.worn)(al:jv st ml){one other:Int}(ne:one≠other)(k1:one∈aq st.worn)(k2:other∈aq st.worn)(f1:wr st.worn one=one)(f2:wr st.worn other=other)(c1:dG st.circ one=[])(c2:dG st.circ other=[]) :
  let ps:=oh one other (aQ st.worn).reverse
  lL st.worn ml ps/\ps.foldl aG (wr st.worn)=id/\ps.length=(if aQ st.worn=[] then 0 else (aQ st.worn).flatten.length+(aQ st.worn).length+2)/\∀ p∈ps,p.1=one\/p.1=other:=by
 intro ps;obtain⟨w1,w2,w3,w4⟩:=P.wrong;obtain⟨a,b,c,d⟩:=du P.inj w3 w4 (aU st.worn) [] (fun x h=>h) (fun x h=>by cases h);have mem:∀ x,x∈(aQ st.worn).flatten↔x∈aU st.worn:=fun x=>⟨fun z=>(b x z).2,fun z=>(c x z).elim (fun q=>by cases q) id⟩;have pf:(aQ st.worn).reverse.flatten.Perm (aQ st.worn).flatten:=(NO _).flatten;have nd:(aQ st.worn).reverse.flatten.Nodup:=pf.nodup_iff.mpr a
 have h2:∀ r∈(aQ st.worn).reverse,2<=r.length:=fun r hr=>by
  obtain⟨g,m,rfl,R,m2⟩:=P.ring2 (NV.mp hr);rw[b6];exact m2
 have no:∀ o,wr st.worn o=o->o∉(aQ st.worn).reverse.flatten:=fun o fo z=>(w1 o ((mem o).mp (pf.mem_iff.mp z))).2 fo
 have met:∀ o,dG st.circ o=[]->∀ x,bx o x∉ml:=fun o co x z=>by
  have e2:k7 ml o x=true:=Mp z;have:=al o x;rw[e2]at this;unfold cY at this;rw[co]at this;cases this
 refine⟨⟨fun p hp=>?_,Bj ne h2 nd (no _ f1) (no _ f2)⟩,?_,?_,fun p hp=>(wx h2 nd hp).1⟩
 ·obtain⟨q1,q2⟩:=wx h2 nd hp
  have kk:p.1∈aq st.worn/\wr st.worn p.1=p.1/\dG st.circ p.1=[]:=by
   rcases q1 with z | z<;>rw[z]
   ·exact⟨k1,f1,c1⟩
   ·exact⟨k2,f2,c2⟩
  have kb:p.1≠p.2/\p.2∈aq st.worn:=by
   rcases q2 with z | z
   ·have:=w1 p.2 ((mem _).mp (pf.mem_iff.mp z))
    exact⟨fun e=>this.2 (by rw[<-e];exact kk.2.1),this.1⟩
   ·rw[z];exact⟨ne,k2⟩
  exact⟨kb.1,kk.1,kb.2,met _ kk.2.2 _⟩
 ·funext x
  have:=Bi f1 f2 ne (aQ st.worn).reverse (fun r hr=>by
   obtain⟨g,m,rfl,R,m2⟩:=P.ring2 (NV.mp hr)
   exact A1 R m2) nd (no _ f1) (no _ f2) x
  rw[this];split
  ·rfl
  ·rename_i h
   show wr st.worn x=x
   refine Classical.byContradiction fun z=>h (pf.mem_iff.mpr ((mem x).mpr ?_))
   by_cases hk:x∈aq st.worn
   ·unfold aU
    exact Nh.mpr ⟨(gn _).mem_iff.mpr hk,Mp z⟩
   ·exact absurd (by unfold wr;cases e:look st.worn x with | none=>rfl | some m=>exact absurd (bd.mp (by rw[e];rfl)) hk) z
 ·rw[Dw h2,pf.length_eq,N5]
  by_cases e:aQ st.worn=[]
  ·rw[Mi e,Mi (by rw[e];rfl)]
  ·rw[Mg e,Mg (by intro z;exact e (by simpa using z))]
inductive qx (vs:List V) (H:Hp) (Q:VK) (E_:XK):Prop
 | mk (l:Addr) (rs:List (List Int)) (one other:Int) (h_0:vs=[.ref l,.int one,.int other]) (h_1:KO H l rs) (h_2:rs.length<=64) (h_3:rs.flatten.length<=64) (h_4:(∀ r∈rs,2<=r.length)) (h_5:∀ (l':Addr)(H':Hp),H l'=none->ax H H'->aY H' l' (oh one other rs.reverse)->Q (.ref l') H'):qx vs H Q E_
inductive iK (c:HX) (vs:List V) (H:Hp) (Q:VK) (E_:XK):Prop
 | mk (p:Addr) (A:HA) (st:bX) (L:List Int) (one other:Int) (h_0:vs=[.ref p,.int one,.int other]) (h_1:aM c.C H p A st) (h_2:bj one) (h_3:bj other) (h_4:yb L st) (h_5:L.length<64) (h_6:(look st.worn one).isSome=true) (h_7:(look st.worn other).isSome=true) (h_8:dG st.circ one=[]) (h_9:dG st.circ other=[]) (h_10:one≠other) (h_11:∀ H',ax H H'->Q .non H'):iK c vs H Q E_
inductive qK (c:HX) (vs:List V) (H:Hp) (Q:VK) (E_:XK):Prop
 | mk (p:Addr) (A:HA) (st:bX) (L:List Int) (one other:Int) (h_0:vs=[.ref p,.int one,.int other]) (h_1:aM c.C H p A st) (h_2:dZ st) (h_3:st.worn.length<64) (h_4:(∀ g∈aq st.worn,bj g)) (h_5:bj one) (h_6:bj other) (h_7:yb L st) (h_8:L.length<64) (h_9:(look st.worn one).isSome=true) (h_10:(look st.worn other).isSome=true) (h_11:dG st.circ one=[]) (h_12:dG st.circ other=[]) (h_13:one≠other) (h_14:∀ (l':Addr)(H':Hp),H l'=none->ax H H'->aY H' l' (oh one other (aQ st.worn).reverse)->Q (.ref l') H'):qK c vs H Q E_
def eF (p:Int×Int):aX:=.exch p.1 p.2
end Wz
namespace L2
open PySem PySem.Spec PyProof.Rows PySem.Calls
def JM (K:PySem.W.Frag)(a:Addr)(xs:List V):It :=
 ⟨fun i H=>aW K H a xs/\i<xs.length,fun i H x H'=>H'=H/\xs.reverse[i]? = some x,fun i H=>aW K H a xs/\xs.length<=i⟩
theorem Gw {P:Program}{w:World}{K:PySem.W.Frag}{tg:Expr}(a it:Addr)(hne:a≠it)(xs:List V):zO P w K tg (JM K a xs) [it] it (fun i h=>i<=xs.length/\h.IsRevIter it a ((xs.length:Int)-1-i)) where
 mem:=by simp
 obj:=fun i h st b hb=>by
  have e:b=it:=by simpa using hb
  subst e;obtain⟨_,o,e,c,d⟩:=st;exact⟨o,e,fun v z=>by rw[d]at z;cases z⟩
 keep:=fun i h h' st k=>⟨st.1,st.2.at fun o e=>k it (by simp) o e⟩
 item:=by
  intro X hP hw hK hc i pins s σ H E I hf st hg;subst hP hw hK;obtain⟨hq,hi⟩:=hg;obtain⟨its,rv,pl,hz⟩:=I.list hq;obtain⟨f0,f1,f2,f3,f4,f5⟩:=hf it (by simp);have hl:=rv.length;have W:=Walks.listRev (prog:=X.prog) (w:=X.w) (A:=X.A) (I.ok.hd hc) it a hne its.toArray;refine W.item i s _ _ (by rw[My];omega) ⟨by rw[My];omega,by rw[My,<-hl];exact st.2,pl.isList⟩ fun v h' tk hv st' hk=>?_;obtain⟨s1,s2,s3⟩:=st';rw[My]at s1 s2 hv;have I1:aK X pins σ H { s with heap:=h',toks:=tk }:=I.turned (t':=tk) (fun b o hb e=>hk b o (by simpa using hb) e) f0 f1 f3 f4 f5;obtain⟨o,e,c,d⟩:=id s2;have er:xs.reverse[i]? = xs[xs.length-1-i]?:=List.getElem?_reverse hi;obtain⟨x,hx⟩:∃ x,xs[xs.length-1-i]? = some x:=⟨_,List.getElem?_eq_getElem (by omega)⟩;obtain⟨u,hu,ru⟩:=rv.get hx
  have hv':its[its.length-1-i]? = some v:=by simpa using hv
  rw[hl]at hu;rw[hu]at hv';have euv:u=v:=Mu hv';subst euv;refine⟨u,rfl,z5 (s:={ s with heap:=h',toks:=tk }) e c d (by decide) ⟨x,H,I1,ru,⟨rfl,er.trans hx⟩,⟨by omega,?_⟩,fun b hb=>(hf b hb).1⟩⟩;rw[hl];exact s2
 done:=by
  intro X hP hw hK hc i pins s σ H E I hf st hg;subst hP hw hK;obtain⟨hq,hi⟩:=hg;obtain⟨its,rv,pl,hz⟩:=I.list hq;obtain⟨f0,f1,f2,f3,f4,f5⟩:=hf it (by simp);have hl:=rv.length;have ei:i=xs.length:=Nat.le_antisymm st.1 hi;subst ei;have W:=Walks.listRev (prog:=X.prog) (w:=X.w) (A:=X.A) (I.ok.hd hc) it a hne its.toArray;refine W.done s _ _ ⟨by rw[My];omega,by rw[My,<-hl];exact st.2,pl.isList⟩ fun h' tk hk=>⟨rfl,I.turned (t':=tk) (fun b o hb e=>hk b o (by simpa using hb) e) f0 f1 f3 f4 f5⟩
 self:=fun _ _ _ _ _ st h=>wpAny_pyIter_revIter st.2 h
def Lb (K:PySem.W.Frag)(te:TE):TI:=fun σ H R=>te σ H fun x H1=>∃ a xs,x=.ref a/\aW K H1 a xs/\R (JM K a xs) H1
theorem Ja {X:Cx}{tg e:Expr}{te:TE}{p pos:Pos}(he:PE X e te)(hg:Gl X "reversed")(hm:X.mg "reversed" = none)(hs:starEach [e] X.env=[(false,eval e X.env)]:=by rfl):PI X tg (.Call (.Name "reversed" p) [e] [] pos) (Lb X.K te):=by
 intro pins s σ H R I h;refine Nn (lW I hg hm boot_reversed ?_ (by decide) (by decide));refine NP ?_ hs rfl;rw[hs];refine spliced_cons (bH (he pins s σ H _ I h) fun u s1 ⟨x,H1,I1,rx,a,xs,ex,hq,q⟩=>spliced_nil ?_);subst ex;cases rx;obtain⟨its,rv,pl,hz⟩:=I1.list hq
 have hlt:a<s1.heap.objs.size:=by obtain⟨o,n,e,_⟩:=pl;exact Mw e
 have hl:=rv.length;refine call_reversed_list pl.isList ?_;refine wpAny_pyIter_revIter (s:={ s1 with heap:=s1.heap.push (revObj a ((its.toArray.size:Int)-1)) }) (i:=(its.toArray.size:Int)-1) ⟨_,Heap.get?_push_size _ rfl,rfl,rfl⟩ ?_;refine⟨s1.heap.objs.size,[s1.heap.objs.size],_,_,H1,rfl,I1.kept (t':=s1.toks) fun b o e=>Heap.get?_push_of_some _ e,Gw a _ (MB hlt) xs,⟨MD _,?_⟩,fun b hb=>?_,q⟩
 ·rw[show ((xs.length:Int)-1-((0:Nat):Int))=(its.toArray.size:Int)-1 by rw[My,hl];simp]
  exact⟨_,Heap.get?_push_size _ rfl,rfl,rfl⟩
 ·have e:b=s1.heap.objs.size:=by simpa using hb
  subst e;exact I1.fpOk (Mn _) (I1.hok.fresh (Mn _))
theorem GY {K:PySem.W.Frag}{a:Addr}{xs:List V}{g:TG}{tb:TS}{D:kY}{σ:St}{H:Hp}(Pv:Nat->St->Hp->Prop)(h0:Pv 0 σ H)(hl:∀ i σ H,i<=xs.length->Pv i σ H->aW K H a xs)
  (hs:∀ i x σ H,xs.reverse[i]? = some x->Pv i σ H->g x σ H fun σ2 H2=>tb { D with nx:=Pv (i+1),ct:=Pv (i+1),bk:=D.nx } σ2 H2) (hd:∀ σ H,Pv xs.length σ H->D.nx σ H) :
  ∃ W:Nat->Nat->St->Hp->Prop,(∃ m,W 0 m σ H)/\∀ i m σ H,W i m σ H ->
   ((JM K a xs).stop i H/\D.nx σ H)\/((JM K a xs).go i H/\∃ N:St->Hp->Prop,(∀ σ' H',N σ' H'->∃ m',m'<m/\W (i+1) m' σ' H')/\∀ x H',(JM K a xs).yld i H x H'->g x σ H' fun σ2 H2=>tb { D with nx:=N,ct:=N,bk:=D.nx } σ2 H2):=by
 refine⟨fun i m σ H=>m=xs.length-i/\i<=xs.length/\Pv i σ H,⟨xs.length,by simp,MD _,h0⟩,?_⟩;rintro i m σ H ⟨rfl,hi,p⟩;have q:=hl i σ H hi p
 by_cases hlt:i<xs.length
 ·refine .inr ⟨⟨q,hlt⟩,Pv (i+1),fun σ' H' p'=>⟨xs.length-(i+1),by omega,rfl,hlt,p'⟩,fun x H' y=>?_⟩
  obtain⟨e,hx⟩:=y;subst e;exact hs i x σ _ hx p
 ·have e:i=xs.length:=by omega
  subst e;exact .inl ⟨⟨q,Mn _⟩,hd σ H p⟩
end L2
namespace Wz
open PySem L2
theorem mF {HH:Hp}{q t:Addr}{ds:List Addr}{ps:List (Int×Int)}{a b:Int}(h1:HH q=some (.lst (ds.map V.ref)))(h2:Paired (fun b (e:Int×Int)=>HH b=some (.tup [.int e.1,.int e.2])) ds ps)(ht:HH t=none) :
  aY (upd (upd HH t (.tup [.int a,.int b])) q (.lst (ds.map V.ref++[V.ref t]))) q (ps++[(a,b)]):=by
 refine⟨ds++[t],by rw[ac,Mr];rfl,?_⟩;exact aJ (Paired.mapP h2 fun b e y=>by rw[af (bE y h1 (by intro u;cases u))];exact (ag ht) _ _ y) (.cons (by rw[af ((aj h1 ht).symm),ac]) .nil)
theorem Dh {HH:Hp}{q:Addr}{ds cs:List Addr}{ps ps':List (Int×Int)}(h1:HH q=some (.lst (ds.map V.ref)))(h2:Paired (fun b (e:Int×Int)=>HH b=some (.tup [.int e.1,.int e.2])) ds ps)(h3:Paired (fun b (e:Int×Int)=>HH b=some (.tup [.int e.1,.int e.2])) cs ps') :
  aY (upd HH q (.lst (ds.map V.ref++cs.map V.ref))) q (ps++ps'):=by
 refine⟨ds++cs,by rw[ac,Mr],?_⟩;exact aJ (Paired.mapP h2 fun b e y=>by rw[af (bE y h1 (by intro u;cases u))];exact y) (Paired.mapP h3 fun b e y=>by rw[af (bE y h1 (by intro u;cases u))];exact y)
theorem rN {K:PySem.W.Frag}{te:TE}{Qf:Hp->Prop}{lr q:Addr}{α:Type}{f:α->V}{pr:α->Int×Int}{zs:List α}{rest:St}{H:Hp}(hq:H q=none)(h1:H lr=some (.lst (zs.map f)))(hlen:zs.length<=1000)
  (ht:∀ (i:Nat)(z:α)(HK:Hp)(Q':VK),zs[i]? = some z->ax H HK->(∀ (t:Addr),HK t=none->Q' (.ref t) (upd HK t (.tup [.int (pr z).1,.int (pr z).2])))->te (some (f z)::rest) HK Q')
  (k:∀ (HK:Hp),ax H HK->aY HK q (zs.map pr)->Qf HK) :
  kT (GF K lr) (jA 0) (EF wv te q) { nx:=fun _ H'=>Qf H',rt:=fun _ _=>False } (none::rest) (upd H q (.lst [])):=by
 refine a5 (K:=K) (a:=lr) (xs:=zs.map f) (fun i σ HK=>∃ v:Option V,σ=v::rest/\ax H HK/\aY HK q ((zs.take i).map pr))
  ⟨none,rfl,ag hq,[],ac,.nil⟩ (fun i σ HK _ ⟨_,_,s2,_⟩=>aW.of (s2 _ _ h1)) ?_ ?_
 ·rintro i y σ HK hi ⟨v,rfl,t1,ds,hq2,pd⟩
  obtain⟨z,hz,rfl⟩:=bg hi;have hil:i<zs.length:=(List.getElem?_eq_some_iff.mp hz).1;have dl:=Mo pd;rw[Me,Mz]at dl;refine gH (ht i z HK _ hz t1 fun t ht=>?_);refine⟨_,(ag ht) _ _ hq2,by rw[Me];exact aw (by omega),_,rfl,aR (t1.trans (ag ht)) hq,?_⟩;rw[MG,hz,ML,Mr];exact mF hq2 pd ht
 ·rintro σ HK ⟨v,rfl,t1,row⟩
  rw[Me,MI]at row;exact k HK t1 row
theorem GD {as:List Addr}{rs:List (List Int)}(h:as.length=rs.length):(as.zip rs).map (fun z=>V.ref z.1)=as.map V.ref:=by
 have:(as.zip rs).map (fun z=>V.ref z.1)=((as.zip rs).map (·.1)).map V.ref:=by rw[M8];rfl
 rw[this,List.map_fst_zip (by omega)]
theorem HI {as:List Addr}{rs:List (List Int)}(h:as.length=rs.length)(f:List Int->Int×Int):(as.zip rs).map (fun z=>f z.2)=rs.map f:=by
 have:(as.zip rs).map (fun z=>f z.2)=((as.zip rs).map (·.2)).map f:=by rw[M8];rfl
 rw[this,List.map_snd_zip (by omega)]
theorem EX (xs:List V)(n:Nat):gR xs none (some (n:Int))=xs.take n:=by
 unfold gR;rw[HT.sIx_none,HT.sIx_nat,List.drop_zero,Nat.sub_zero]
 by_cases h:n<=xs.length
 ·rw[Nat.min_eq_left h]
 ·rw[Nat.min_eq_right (by omega),Nb (by omega),Nb (by omega)]
theorem GQ (xs:List V):gR xs none (some 1)=xs.take 1:=EX xs 1
theorem EK (one other:Int)(init:List (List Int))(last:List Int) :
  ((init++[last]).map fun r=>(one,fS r))++[(other,last.getLastD 0)]++(last.tail.map fun x=>(one,x))++[(other,fS last)]++(init.reverse.flatMap fun r=>(r.tail++r.take 1).map fun x=>(other,x))++[(one,other)]=oh one other (init++[last]).reverse:=by
 rw[List.reverse_append,List.reverse_singleton,List.singleton_append];unfold oh Be;dsimp only;rw[List.reverse_cons,List.reverse_reverse,MQ,List.map_flatMap];simp only[Nf,List.cons_append,List.nil_append,List.singleton_append]
theorem qe {r:List Int}:∀ {rs:List (List Int)},r∈rs->r.length<=rs.flatten.length
 | q::rs,h=>by
  rw[MJ,Mj];rcases Ms.mp h with z | z
  ·rw[z];omega
  ·have:=qe z
   omega
theorem Bl:∀ (ps:List (Int×Int))(st:bX),((ps.map eF).foldl after st).worn=cZ st.worn ps
 | [],_=>rfl
 | p::ps,st=>by
  rw[MQ,NR,Bl ps];rfl
theorem Bk (es:List aX)(ps:List (Int×Int)):(az (es++ps.map eF)).worn=cZ (az es).worn ps:=by
 unfold az;rw[M0,Bl]
theorem Ae:∀ (ps:List (Int×Int))(st:bX)(x:Int),(look st.worn x).isSome=true->(look ((ps.map eF).foldl after st).worn x).isSome=true
 | [],_,_,h=>h
 | p::ps,st,x,h=>by
  rw[MQ,NR];refine Ae ps _ x ?_
  show (look (put (put st.worn p.1 (wr st.worn p.2)) p.2 (wr st.worn p.1)) x).isSome=true
  rw[dj];split
  ·rfl
  ·rw[dj]
   split
   ·rfl
   ·exact h
theorem C4:∀ (ps:List (Int×Int))(ml:List (Int×Int))(x:Int×Int),x∈(ps.map eF).foldl oW ml->x∈ml\/x∈ps.map hU
 | [],_,_,h=>.inl h
 | p::ps,ml,x,h=>by
  rw[MQ,NR]at h;rcases C4 ps _ x h with z | z
  ·have z:x∈pQ ml (bx p.1 p.2):=z
   unfold pQ at z;split at z
   ·exact .inl z
   ·rcases Ml.mp z with y | y
    ·exact .inl y
    ·exact .inr (by rw[Mv.mp y];exact Mm)
  ·exact .inr (Mh _ z)
theorem BF {L:List Int}{es:List aX}(dn:bW es)(nm:∀ d∈es,∀ g∈names d,g∈L/\bj g){ps:List (Int×Int)}(fr:lL (az es).worn (fm es) ps)(kn:∀ g∈aq (az es).worn,g∈L/\bj g) :
  bW (es++ps.map eF)/\∀ d∈es++ps.map eF,∀ g∈names d,g∈L/\bj g:=by
 have nmA:∀ d∈es++ps.map eF,∀ g∈names d,g∈L/\bj g:=fun d hd g hg=>by
  rcases Ml.mp hd with z | z
  ·exact nm d z g hg
  ·obtain⟨p,hp,rfl⟩:=MF.mp z
   have:=fr.1 p hp;simp[eF,names]at hg;rcases hg with y | y<;>rw[y]
   ·exact kn _ this.2.1
   ·exact kn _ this.2.2.1
 refine⟨?_,nmA⟩
 have go:∀ n,n<=ps.length->bW (es++(ps.take n).map eF):=fun n=>by
  induction n with
  | zero=>intro _;simpa using dn
  | succ n ih =>
   intro hn;have ih:=ih (by omega);have hp:ps[n]? = some ps[n]:=List.getElem?_eq_getElem (by omega)
   have en:es++(ps.take (n+1)).map eF=(es++(ps.take n).map eF)++[eF ps[n]]:=by rw[MG,hp,ML,Mr,Nf];rfl
   rw[en];refine cj ih ?_
   have P:=iG ih (fun d hd=>nmA d (by
    rcases Ml.mp hd with z | z
    ·exact Ml.mpr (.inl z)
    ·obtain⟨p,hp,rfl⟩:=MF.mp z
     exact Ml.mpr (.inr (MF.mpr ⟨p,Na hp,rfl⟩)))) (es++(ps.take n).map eF).length
   rw[MI]at P;obtain⟨f1,f2,f3,f4⟩:=fr.1 ps[n] (List.getElem_mem _)
   have lk:∀ x,x∈aq (az es).worn->(look (az (es++(ps.take n).map eF)).worn x).isSome=true:=fun x hx=>by
    have:=Ae (ps.take n) (az es) x (bd.mpr hx);unfold az at this ⊢;rw[M0];exact this
   obtain⟨m1,e1⟩:=MY.mp (lk _ f2);obtain⟨m2,e2⟩:=MY.mp (lk _ f3)
   have nm2:cY (az (es++(ps.take n).map eF)).circ ps[n].1 ps[n].2=false:=by
    rw[P.al];refine Mx fun z=>?_;have z:hU ps[n]∈fm (es++(ps.take n).map eF):=z;unfold fm at z;rw[M0]at z;rcases C4 _ _ _ z with y | y
    ·exact f4 y
    ·rw[Nu]at y
     obtain⟨j,hj⟩:=List.getElem?_of_mem y;have hj2:=(List.getElem?_eq_some_iff.mp hj).1;rw[Mz,Me]at hj2;rw[List.getElem?_take_of_lt (by omega)]at hj
     have hk:(ps.map hU)[n]? = some (hU ps[n]):=by rw[List.getElem?_map,hp];rfl
     have:=(List.getElem?_inj (by rw[Me];omega) fr.2).mp (hj.trans hk.symm);omega
   show ba _ (.exch ps[n].1 ps[n].2)=.done
   unfold ba;dsimp only;rw[e1];dsimp only;rw[e2];dsimp only;rw[Mg f1,nm2];rfl
 have:=go ps.length (Mn _)
 rwa [MI]at this
theorem kU.flat_len {W:List (Int×Int)}(P:kU W):(aQ W).flatten.length=(aU W).length:=by
 obtain⟨w1,w2,w3,w4⟩:=P.wrong;obtain⟨a,b,c,d⟩:=du P.inj w3 w4 (aU W) [] (fun x h=>h) (fun x h=>by cases h);have h1:=b7 a fun x hx=>(b x hx).2
 have nw:(aU W).Nodup:=by unfold aU;exact ((gn _).nodup_iff.mpr P.nd).filter _
 have h2:=b7 nw fun x hx=>(c x hx).elim (fun q=>by cases q) id;exact Nat.le_antisymm h1 h2
open L2
theorem LQ {n:Nat}{σ:St}{H:Hp}{Q:St->Hp->Prop}{v w:V}(e:v=w)(h:jA n w σ H Q):jA n v σ H Q:=e▸h
def cV (st:bX):List (List Int):=(aQ st.worn).filter fun r=>!(fT st.circ r).isNone
def bP (st:bX):List (List Int):=(aQ st.worn).filter fun r=>(fT st.circ r).isNone
def m8 (st:bX):List (List Int):=(aQ st.worn).filter fun r=>(cw st.circ r).isNone
def j7 (W:List (Int×Int))(ch:List Int->Int)(rs:List (List Int)):List (List Int):=rs.map fun r=>c7 (wr W) W.length (ch r)
def Eb (circ:List (Int×List Int))(one:Int)(rs:List (List Int)):List (Int×Int):=(rs.map (cK circ)).flatMap (gT one)
def wJ (st:bX):List (Int×Int):=d8 (j7 st.worn (fk st.circ) (cV st))
def tL (st:bX)(one other:Int):List (Int×Int):=if m8 st=[] then Eb st.circ one (bP st) else oh one other (bP st).reverse
def Al (st:bX)(one other:Int):List (Int×Int):=wJ st++tL st one other
section
variable {st:bX}
theorem kU.flat (P:kU st.worn):(aQ st.worn).flatten.Nodup/\(∀ x,x∈(aQ st.worn).flatten->x∈aq st.worn/\wr st.worn x≠x)/\∀ x,x∉(aQ st.worn).flatten->wr st.worn x=x:=by
 obtain⟨w1,w2,w3,w4⟩:=P.wrong;obtain⟨a,b,c,d⟩:=du P.inj w3 w4 (aU st.worn) [] (fun x h=>h) (fun x h=>by cases h);exact⟨a,fun x hx=>w1 x (b x hx).2,fun x hx=>EN fun z=>hx ((c x z).elim (fun q=>by cases q) id)⟩
theorem dJ {rs:List (List Int)}(nd:rs.flatten.Nodup)(f:List Int->Bool):(rs.filter f).flatten.Nodup:=by
 obtain⟨h1,h2⟩:=Od.mp nd;exact Od.mpr ⟨fun l hl=>h1 l (Nh.mp hl).1,h2.filter f⟩
theorem Et {rs:List (List Int)}(nd:rs.flatten.Nodup){r q:List Int}(hr:r∈rs)(hq:q∈rs){x:Int}(h1:x∈r)(h2:x∈q):r=q:=by
 obtain⟨i,hi⟩:=List.getElem?_of_mem hr;obtain⟨j,hj⟩:=List.getElem?_of_mem hq;have pw:=(Od.mp nd).2;rw[Oi]at pw;obtain⟨hi1,hi2⟩:=List.getElem?_eq_some_iff.mp hi;obtain⟨hj1,hj2⟩:=List.getElem?_eq_some_iff.mp hj;rcases Nat.lt_trichotomy i j with z | z | z
 ·have:=pw i j hi1 hj1 z
  rw[hi2,hj2]at this;exact absurd rfl (this x h1 x h2)
 ·subst z;rw[hi]at hj;exact Mu hj
 ·have:=pw j i hj1 hi1 z
  rw[hi2,hj2]at this;exact absurd rfl (this x h2 x h1)
theorem dL {r:List Int}:r∈cV st↔r∈aQ st.worn/\(fT st.circ r).isNone=false:=by unfold cV;rw[Nh];simp
theorem bL {r:List Int}:r∈bP st↔r∈aQ st.worn/\(fT st.circ r).isNone=true:=by unfold bP;rw[Nh]
theorem re (P:kU st.worn){x:Int}(h1:x∈(cV st).flatten)(h2:x∈(bP st).flatten):False:=by
 obtain⟨r,hr,xr⟩:=MO.mp h1;obtain⟨q,hq,xq⟩:=MO.mp h2;obtain⟨r1,r2⟩:=dL.mp hr;obtain⟨q1,q2⟩:=bL.mp hq;rw[Et P.flat.1 r1 q1 xr xq,q2]at r2;cases r2
theorem yr {x:Int}(h:x∈(cV st).flatten):x∈(aQ st.worn).flatten:=by
 obtain⟨r,hr,xr⟩:=MO.mp h;exact MO.mpr ⟨r,(dL.mp hr).1,xr⟩
theorem i6 {x:Int}(h:x∈(bP st).flatten):x∈(aQ st.worn).flatten:=by
 obtain⟨r,hr,xr⟩:=MO.mp h;exact MO.mpr ⟨r,(bL.mp hr).1,xr⟩
theorem DN {x:Int}(h:x∈(aQ st.worn).flatten):x∈(cV st).flatten\/x∈(bP st).flatten:=by
 obtain⟨r,hr,xr⟩:=MO.mp h
 cases e:(fT st.circ r).isNone with
 | false=>exact .inl (MO.mpr ⟨r,dL.mpr ⟨hr,e⟩,xr⟩)
 | true=>exact .inr (MO.mpr ⟨r,bL.mpr ⟨hr,e⟩,xr⟩)
theorem jF (P:kU st.worn):(j7 st.worn (fk st.circ) (cV st)).flatten.Perm (cV st).flatten :=
 vc fun r hr=>(pk P (dL.mp hr).1 (pY (dL.mp hr).2).1).1
theorem xX (P:kU st.worn){ml:List (Int×Int)}(al:jv st ml)(mo:tG ml){p:Int×Int}(hp:p∈wJ st):∃ r∈cV st,p.1∈r/\p.2∈r/\p.1≠p.2/\hU p∉ml:=by
 unfold wJ d8 at hp;obtain⟨r,hr,hpr⟩:=List.mem_flatMap.mp hp;obtain⟨r0,h0,rfl⟩:=MF.mp hr;obtain⟨hh1,hh2⟩:=dL.mp h0;obtain⟨hc1,hc2⟩:=pY hh2;obtain⟨pr,R⟩:=pk P hh1 hc1;obtain⟨h1,h2,h3⟩:=wo (f8 P.inj R.2.2) hpr
 have hd:p.1=fk st.circ r0:=by
  unfold iV at hpr;obtain⟨y,_,rfl⟩:=MF.mp hpr
  show (c7 (wr st.worn) st.worn.length (fk st.circ r0)).headD 0=fk st.circ r0
  have m0:=R.1;unfold c7 aE;rw[show pe (wr st.worn) st.worn.length (fk st.circ r0)=pe (wr st.worn) st.worn.length (fk st.circ r0)-1+1 by omega,Nr];rfl
 refine⟨r0,h0,pr.mem_iff.mp h1,pr.mem_iff.mp h2,h3,fun z=>?_⟩;rw[<-hd,FB al mo]at hc2;have:Ag ml r0 p.1=true:=List.any_eq_true.mpr ⟨p.2,Nh.mpr ⟨pr.mem_iff.mp h2,Mp (ME h3)⟩,Mp z⟩;rw[hc2]at this;cases this
theorem DX (P:kU st.worn):((wJ st).map hU).Nodup:=xL _ ((jF P).nodup_iff.mpr (dJ P.flat.1 _))
theorem Ai (P:kU st.worn):(wJ st).length+(cV st).length=(cV st).flatten.length:=by
 have h:=u7 (j7 st.worn (fk st.circ) (cV st)) fun r hr=>by
  obtain⟨r0,h0,rfl⟩:=MF.mp hr;rw[iq];exact (pk P (dL.mp h0).1 (pY (dL.mp h0).2).1).2.1
 rw[show (j7 st.worn (fk st.circ) (cV st)).length=(cV st).length by unfold j7;rw[Me],(jF P).length_eq]at h;exact h
theorem DW (P:kU st.worn)(x:Int):(wJ st).foldl aG (wr st.worn) x=if x∈(cV st).flatten then x else wr st.worn x:=by
 have:=xM P.inj (j7 st.worn (fk st.circ) (cV st)) [] (wr st.worn) (fun r hr=>by
  obtain⟨r0,h0,rfl⟩:=MF.mp hr
  exact⟨_,_,rfl,(pk P (dL.mp h0).1 (pY (dL.mp h0).2).1).2⟩) ((jF P).nodup_iff.mpr (dJ P.flat.1 _)) (fun x _ h=>by cases h) (fun x=>by simp) x
 unfold wJ;rw[this]
 by_cases hx:x∈(cV st).flatten
 ·rw[Mi hx,Mi (.inr ((jF P).mem_iff.mpr hx))]
 ·rw[Mg hx,Mg (by rintro (z | z);cases z;exact hx ((jF P).mem_iff.mp z))]
theorem Cy {r:List Int}(h2:2<=r.length)(h:(cw st.circ r).isNone=true):(fT st.circ r).isNone=true:=by
 unfold cw at h;rw[Option.isNone_iff_eq_none,List.find?_eq_none]at h;unfold fT;rw[Option.isNone_iff_eq_none,List.find?_eq_none];intro g hg z;obtain⟨j,hj⟩:=List.getElem?_of_mem hg;have jl:=(List.getElem?_eq_some_iff.mp hj).1
 have key:∀ i,i<r.length->iH r i=g->fZ st.circ r g=true:=fun i hi e=>by
  have m:=h i (Nd.mpr hi);have m:¬ (!cY st.circ (iH r i) (i7 r i))=true:=m;rw[e]at m
  have m2:cY st.circ g (i7 r i)=true:=by simpa using m
  have hin:i7 r i∈r:=by unfold i7;rw[List.getElem?_eq_getElem hi];exact List.getElem_mem _
  unfold cY at m2;refine List.any_eq_true.mpr ⟨i7 r i,(gn _).mem_iff.mpr (Nl m2),Mp hin⟩
 have hm:fZ st.circ r g=true:=by
  by_cases e:j+1<r.length
  ·refine key (j+1) e ?_
   unfold iH;rw[Mg (by omega),show j+1-1=j by omega,hj];rfl
  ·refine key 0 (by omega) ?_
   unfold iH;rw[Mi rfl,show r.length-1=j by omega,hj];rfl
 rw[hm]at z;cases z
theorem kU.len2 (P:kU st.worn){r:List Int}(hr:r∈aQ st.worn):2<=r.length:=by
 obtain⟨g,m,rfl,R,m2⟩:=P.ring2 hr;rw[b6];exact m2
theorem o6 (P:kU st.worn){r:List Int}(hr:r∈aQ st.worn)(hs:(cw st.circ r).isSome=true):(cK st.circ r).Perm r:=by
 obtain⟨g,m,rfl,R,m2⟩:=P.ring2 hr;obtain⟨g',e,_,p,_⟩:=qd P.inj R m2 hs;rw[e];exact p
theorem sf {r:List Int}(h:m8 st=[])(hr:r∈aQ st.worn):(cw st.circ r).isSome=true:=by
 cases e:cw st.circ r with
 | some i=>rfl
 | none =>
  have:r∈m8 st:=Nh.mpr ⟨hr,by rw[e];rfl⟩;rw[h]at this;cases this
theorem qV (P:kU st.worn)(h:m8 st=[]):((bP st).map (cK st.circ)).flatten.Perm (bP st).flatten:=vc fun r hr=>o6 P (bL.mp hr).1 (sf h (bL.mp hr).1)
theorem xW (P:kU st.worn){ml:List (Int×Int)}(al:jv st ml){one other:Int}(ne:one≠other)(f1:wr st.worn one=one)(f2:wr st.worn other=other)(c1:dG st.circ one=[])(c2:dG st.circ other=[]){p:Int×Int}(hp:p∈tL st one other) :
  (p.2∈(bP st).flatten\/p=(one,other))/\(p.1=one\/p.1=other\/∃ r∈bP st,p.1∈r/\p.2∈r)/\p.1≠p.2/\hU p∉ml:=by
 have met:∀ o,dG st.circ o=[]->∀ x,bx o x∉ml:=fun o co x z=>by
  have e2:k7 ml o x=true:=Mp z;have:=al o x;rw[e2]at this;unfold cY at this;rw[co]at this;cases this
 have out:∀ o,wr st.worn o=o->o∉(aQ st.worn).flatten:=fun o fo z=>(P.flat.2.1 o z).2 fo;unfold tL at hp
 by_cases ht:m8 st=[]
 ·rw[Mi ht]at hp
  unfold Eb at hp;obtain⟨q,hq,hpq⟩:=List.mem_flatMap.mp hp;obtain⟨r,hr,rfl⟩:=MF.mp hq;obtain⟨hr1,hr2⟩:=bL.mp hr;have hs:=sf ht hr1;obtain⟨g,m,e0,R,m2⟩:=P.ring2 hr1;subst e0;obtain⟨g',e,R',pp,mt⟩:=qd P.inj R m2 hs;rw[e]at hpq;obtain⟨h1,h2⟩:=vG (by rw[b6];exact m2) hpq;have p2:=pp.mem_iff.mp h1;have p2f:p.2∈(bP st).flatten:=MO.mpr ⟨_,hr,p2⟩;refine⟨.inl p2f,?_⟩;rcases h2 with z | ⟨z1,z2⟩
  ·refine⟨.inl z,fun q=>out one f1 (by rw[<-z,q];exact i6 p2f),?_⟩
   show bx p.1 p.2∉ml
   rw[z];exact met one c1 _
  ·rw[Er _ _ (by omega),Ep _ _ (by omega)]at z2
   refine⟨.inr (.inr ⟨_,hr,pp.mem_iff.mp z1,p2⟩),?_,fun z=>?_⟩
   ·rw[z2]
    exact R'.2.2 (m-1) (by omega) (by omega)
   ·have e2:k7 ml p.1 p.2=true:=Mp z
    have:=al p.1 p.2;rw[e2,z2]at this;rw[mt]at this;cases this
 ·rw[Mg ht]at hp
  have nd:(bP st).reverse.flatten.Nodup:=((NO _).flatten).nodup_iff.mpr (dJ P.flat.1 _);have pf:∀ x,x∈(bP st).reverse.flatten↔x∈(bP st).flatten:=fun x=>((NO (bP st)).flatten).mem_iff;obtain⟨q1,q2⟩:=wx (fun r hr=>P.len2 (bL.mp (NV.mp hr)).1) nd hp;have q2:p.2∈(bP st).flatten\/p=(one,other):=q2.imp (pf _).mp id
  have ko:wr st.worn p.1=p.1/\dG st.circ p.1=[]:=by
   rcases q1 with z | z<;>rw[z]
   ·exact⟨f1,c1⟩
   ·exact⟨f2,c2⟩
  refine⟨q2,q1.elim .inl (fun z=>.inr (.inl z)),?_,met _ ko.2 _⟩;rcases q2 with z | z
  ·exact fun q=>out p.1 ko.1 (by rw[q];exact i6 z)
  ·rw[z];exact ne
theorem DV (P:kU st.worn){one other:Int}(ne:one≠other)(f1:wr st.worn one=one)(f2:wr st.worn other=other):((tL st one other).map hU).Nodup:=by
 have out:∀ o,wr st.worn o=o->o∉(bP st).flatten:=fun o fo z=>(P.flat.2.1 o (i6 z)).2 fo;unfold tL;split
 ·rename_i ht
  unfold Eb;have pm:=qV P ht;refine AR _ (pm.nodup_iff.mpr (dJ P.flat.1 _)) (fun x hx z=>out one f1 (by rw[<-z];exact pm.mem_iff.mp hx)) fun q hq=>?_;obtain⟨r,hr,rfl⟩:=MF.mp hq;rw[(o6 P (bL.mp hr).1 (sf ht (bL.mp hr).1)).length_eq];exact P.len2 (bL.mp hr).1
 ·have pf:=(NO (bP st)).flatten
  exact Bj ne (fun r hr=>P.len2 (bL.mp (NV.mp hr)).1) (pf.nodup_iff.mpr (dJ P.flat.1 _)) (fun z=>out one f1 (pf.mem_iff.mp z)) (fun z=>out other f2 (pf.mem_iff.mp z))
theorem Ah (P:kU st.worn)(one other:Int):(tL st one other).length=(bP st).flatten.length+(bP st).length+(if m8 st=[] then 0 else 2):=by
 unfold tL;split
 ·rename_i ht
  unfold Eb
  have ol:∀ (rs:List (List Int)),(∀ r∈rs,0<r.length)->(rs.flatMap (gT one)).length=rs.flatten.length+rs.length:=fun rs=>by
   induction rs with
   | nil=>intro _;rfl
   | cons r rs ih =>
    intro h;rw[NN,Mj,ih fun q hq=>h q (Mh _ hq),AQ one (h r Mm),MJ,Mj,MX];omega
  have h0:∀ q∈(bP st).map (cK st.circ),0<q.length:=fun q hq=>by
   obtain⟨r,hr,rfl⟩:=MF.mp hq;rw[(o6 P (bL.mp hr).1 (sf ht (bL.mp hr).1)).length_eq];have:=P.len2 (bL.mp hr).1;omega
  rw[ol _ h0,(qV P ht).length_eq,Me];rfl
 ·rename_i ht
  rw[Dw (fun r hr=>P.len2 (bL.mp (NV.mp hr)).1),Mg,((NO (bP st)).flatten).length_eq,N5];intro z
  have z:bP st=[]:=by simpa using z
  obtain⟨r,hr⟩:=List.exists_mem_of_ne_nil _ ht;obtain⟨h1,h2⟩:=Nh.mp hr;have:r∈bP st:=bL.mpr ⟨h1,Cy (P.len2 h1) h2⟩;rw[z]at this;cases this
theorem FF (P:kU st.worn){one other:Int}(ne:one≠other)(f1:wr st.worn one=one)(f2:wr st.worn other=other):(Al st one other).foldl aG (wr st.worn)=id:=by
 funext x
 have out:∀ o,wr st.worn o=o->o∉(aQ st.worn).flatten:=fun o fo z=>(P.flat.2.1 o z).2 fo
 have fin:(if x∈(cV st).flatten\/x∈(bP st).flatten then x else wr st.worn x)=x:=by
  split
  ·rfl
  ·rename_i h
   exact P.flat.2.2 x fun z=>h (DN z)
 unfold Al;rw[M0];have hF:=DW P;generalize (wJ st).foldl aG (wr st.worn)=F1 at hF
 show _=x
 unfold tL;split
 ·rename_i ht
  have pm:=qV P ht;unfold Eb;rw[AS P.inj f1 ((bP st).map (cK st.circ)) (cV st).flatten F1 (fun r hr=>?_) (pm.nodup_iff.mpr (dJ P.flat.1 _)) (fun x hx=>⟨fun z=>re P z (pm.mem_iff.mp hx),fun z=>out one f1 (by rw[<-z];exact i6 (pm.mem_iff.mp hx))⟩) hF x]
  ·by_cases h:x∈(cV st).flatten\/x∈((bP st).map (cK st.circ)).flatten
   ·rw[Mi h]
   ·rw[Mg h]
    rw[Mg fun z=>h (z.imp id pm.mem_iff.mpr)]at fin;exact fin
  ·obtain⟨r0,h0,rfl⟩:=MF.mp hr
   have hr1:=(bL.mp h0).1;obtain⟨g,m,rfl,R,m2⟩:=P.ring2 hr1;obtain⟨g',e,R',_,_⟩:=qd P.inj R m2 (sf ht hr1);exact⟨g',m,e,R',m2⟩
 ·have pf:=(NO (bP st)).flatten
  have g1:F1 one=one:=by rw[hF];split;rfl;exact f1
  have g2:F1 other=other:=by rw[hF];split;rfl;exact f2
  have same:∀ r∈bP st,∀ y∈r,F1 y=wr st.worn y:=fun r hr y hy=>by
   rw[hF,Mg fun z=>re P z (MO.mpr ⟨r,hr,hy⟩)]
  rw[Bi g1 g2 ne (bP st).reverse (fun r hr=>?_) (pf.nodup_iff.mpr (dJ P.flat.1 _)) (fun z=>out one f1 (i6 (pf.mem_iff.mp z))) (fun z=>out other f2 (i6 (pf.mem_iff.mp z))) x,hF]
  ·by_cases h1:x∈(bP st).reverse.flatten
   ·rw[Mi h1]
   ·rw[Mg h1]
    by_cases h2:x∈(cV st).flatten
    ·rw[Mi h2]
    ·rw[Mg h2]
     rw[Mg fun z=>z.elim h2 fun y=>h1 (pf.mem_iff.mpr y)]at fin;exact fin
  ·have hrb:=NV.mp hr
   have sm:=same r hrb;obtain⟨g,m,e0,R,m2⟩:=P.ring2 (bL.mp hrb).1;obtain⟨g3,t,e1,tn,fg,lt⟩:=A1 R m2;rw[<-e0]at e1;refine⟨g3,t,e1,tn,?_,gQ.congr (fun y hy=>sm y (by rw[e1];exact Mh _ hy)) lt⟩;rw[sm g3 (by rw[e1];exact Mm)];exact fg
theorem DY (P:kU st.worn){ml:List (Int×Int)}(al:jv st ml)(mo:tG ml){one other:Int}(ne:one≠other)(k1:one∈aq st.worn)(k2:other∈aq st.worn)(f1:wr st.worn one=one)(f2:wr st.worn other=other)(c1:dG st.circ one=[])(c2:dG st.circ other=[]):lL st.worn ml (Al st one other):=by
 have kr:∀ x∈(aQ st.worn).flatten,x∈aq st.worn:=fun x hx=>(P.flat.2.1 x hx).1;refine⟨fun p hp=>?_,?_⟩
 ·rcases Ml.mp hp with z | z
  ·obtain⟨r,hr,h1,h2,h3,h4⟩:=xX P al mo z
   exact⟨h3,kr _ (yr (MO.mpr ⟨r,hr,h1⟩)),kr _ (yr (MO.mpr ⟨r,hr,h2⟩)),h4⟩
  ·obtain⟨h1,h2,h3,h4⟩:=xW P al ne f1 f2 c1 c2 z
   refine⟨h3,?_,?_,h4⟩
   ·rcases h2 with y | y | ⟨r,hr,y,_⟩
    ·rw[y];exact k1
    ·rw[y];exact k2
    ·exact kr _ (i6 (MO.mpr ⟨r,hr,y⟩))
   ·rcases h1 with y | y
    ·exact kr _ (i6 y)
    ·rw[y];exact k2
 ·unfold Al
  rw[Mr];refine MW.mpr ⟨DX P,DV P ne f1 f2,fun a ha b hb e=>?_⟩;obtain⟨p,hp,rfl⟩:=MF.mp ha;obtain⟨q,hq,rfl⟩:=MF.mp hb;obtain⟨r,hr,h1,h2,_,_⟩:=xX P al mo hp;obtain⟨g1,_,_,_⟩:=xW P al ne f1 f2 c1 c2 hq;have p1:p.1∈(cV st).flatten:=MO.mpr ⟨r,hr,h1⟩;have p2:p.2∈(cV st).flatten:=MO.mpr ⟨r,hr,h2⟩
  have q2:q.2∉(cV st).flatten:=fun z=>by
   rcases g1 with y | y
   ·exact re P z y
   ·rw[y]at z;exact (P.flat.2.1 _ (yr z)).2 f2
  have e:bx p.1 p.2=bx q.1 q.2:=e;rcases gB.mp e with ⟨_,z⟩ | ⟨z,_⟩
  ·exact q2 (by rw[<-z];exact p2)
  ·exact q2 (by rw[<-z];exact p1)
end
theorem dU {rs qs:List (List Int)}(h:rs.Sublist qs):rs.flatten.length<=qs.flatten.length:=by
 induction h with
 | slnil=>exact Mn _
 | cons a _ ih=>rw[MJ,Mj];omega
 | cons_cons a _ ih=>rw[MJ,Mj,MJ,Mj];omega
theorem kU.flat64 {W:List (Int×Int)}(P:kU W)(h:W.length<64):(aQ W).flatten.length<=64:=by
 obtain⟨w1,w2,w3,w4⟩:=P.wrong;obtain⟨a1,b1,_,_⟩:=du P.inj w3 w4 (aU W) [] (fun x h=>h) (fun x h=>by cases h);have:(aQ W).flatten.length<=(aq W).length:=b7 a1 fun x hx=>(w1 x (b1 x hx).2).1;unfold aq at this;rw[Me]at this;omega
inductive nK (c:HX) (vs:List V) (H:Hp) (Q:VK) (E_:XK):Prop
 | mk (p l:Addr) (A:HA) (st:bX) (as:List Addr) (L:List Int) (rs:List (List Int)) (h_0:vs=[.ref p,.ref l]) (h_1:aM c.C H p A st) (h_2:dZ st) (h_3:st.worn.length<64) (h_4:(∀ g∈aq st.worn,bj g)) (h_5:yb L st) (h_6:L.length<64) (h_7:H l=some (.lst (as.map V.ref))) (h_8:Paired (fun a (r:List Int)=>H a=some (.lst (r.map V.int))) as rs) (h_9:rs.Sublist (aQ st.worn)) (h_10:(∀ r∈rs,(fT st.circ r).isNone=false)) (h_11:∀ (l':Addr)(H':Hp),H l'=none->ax H H'->aY H' l' (d8 (j7 st.worn (fk st.circ) rs))->Q (.ref l') H'):nK c vs H Q E_
inductive qw (c:HX) (vs:List V) (H:Hp) (Q:VK) (E_:XK):Prop
 | mk (p l:Addr) (A:HA) (st:bX) (as:List Addr) (one:Int) (rs:List (List Int)) (h_0:vs=[.ref p,.ref l,.int one]) (h_1:aM c.C H p A st) (h_2:dZ st) (h_3:st.worn.length<64) (h_4:H l=some (.lst (as.map V.ref))) (h_5:Paired (fun a (r:List Int)=>H a=some (.lst (r.map V.int))) as rs) (h_6:rs.Sublist (aQ st.worn)) (h_7:(∀ r∈rs,(cw st.circ r).isSome=true)) (h_8:∀ (l':Addr)(H':Hp),H l'=none->ax H H'->aY H' l' (Eb st.circ one rs)->Q (.ref l') H'):qw c vs H Q E_
inductive nN (c:HX) (vs:List V) (H:Hp) (Q:VK) (E_:XK):Prop
 | mk (p:Addr) (A:HA) (st:bX) (L:List Int) (one other:Int) (h_0:vs=[.ref p,.int one,.int other]) (h_1:aM c.C H p A st) (h_2:dZ st) (h_3:st.worn.length<64) (h_4:(∀ g∈aq st.worn,bj g)) (h_5:bj one) (h_6:bj other) (h_7:yb L st) (h_8:L.length<64) (h_9:(look st.worn one).isSome=true) (h_10:(look st.worn other).isSome=true) (h_11:dG st.circ one=[]) (h_12:dG st.circ other=[]) (h_13:one≠other) (h_14:∀ (l':Addr)(H':Hp),H l'=none->ax H H'->aY H' l' (Al st one other)->Q (.ref l') H'):nN c vs H Q E_
section
variable {st:bX}{ml:List (Int×Int)}
end
end Wz
namespace L2
open PySem
theorem cH.m {j k:Nat}{A:Around}(r:cH k A)(h:j<=k:=by decide):cH j A:=r.mono h
theorem dB {X:Cx}{e:Expr}{t:TE}(h:PE X e t)(hs:starEach [e] X.env=(false,eval e X.env)::starEach [] X.env:=by rfl):PA X [e] (qN t wu):=ao h aD hs
theorem c9 {X:Cx}{e e2:Expr}{t t2:TE}(h:PE X e t)(h2:PE X e2 t2)(hs:starEach [e,e2] X.env=(false,eval e X.env)::starEach [e2] X.env:=by rfl)(hs2:starEach [e2] X.env=(false,eval e2 X.env)::starEach [] X.env:=by rfl):PA X [e,e2] (qN t (qN t2 wu)):=ao h (ao h2 aD hs2) hs
theorem zE {X:Cx}{e e2 e3:Expr}{t t2 t3:TE}(h:PE X e t)(h2:PE X e2 t2)(h3:PE X e3 t3)(hs:starEach [e,e2,e3] X.env=(false,eval e X.env)::starEach [e2,e3] X.env:=by rfl)(hs2:starEach [e2,e3] X.env=(false,eval e2 X.env)::starEach [e3] X.env:=by rfl)(hs3:starEach [e3] X.env=(false,eval e3 X.env)::starEach [] X.env:=by rfl):PA X [e,e2,e3] (qN t (qN t2 (qN t3 wu))):=ao h (ao h2 (ao h3 aD hs3) hs2) hs
theorem bt {X:Cx}{pos:Pos}(i:Nat){x:Str}{e:Expr}{te:TE}{pos':Pos}(hN:X.N.Nodup)(he:PE X e te)(hi:X.N[i]? = some x:=by rfl)(hx:HN X.env.scope x:=by first | exact Or.inl rfl | exact Or.inr rfl)(hs:swapsWith e (some (.Name x pos')) pos.line X.env=pure false:=by rfl)(hf:X.fn x=true\/X.env.scope.names.lookup x=some .local:=by first | exact .inl rfl | exact .inr rfl | assumption) :
  PS X (.Assign [.Name x pos'] e pos) (Jn te (jA i)):=dN hN hi hx he hs hf
theorem iX {X:Cx}{pos:Pos}(i:Nat){x:Str}(hN:X.N.Nodup)(hi:X.N[i]? = some x:=by rfl)(hx:HN X.env.scope x:=by first | exact Or.inl rfl | exact Or.inr rfl)(hf:X.fn x=true\/X.env.scope.names.lookup x=some .local:=by first | exact .inl rfl | exact .inr rfl | assumption):PG X (.Name x pos) (jA i):=hX hN hi hx hf
theorem yj {so sc:Scope}{N N':List Str}{src:List (Option Nat)}(a:sc.kind=.function:=by rfl)(b:∀ y∈sc.names,y.2≠.cell:=by decide +kernel)(c:∀ y∈sc.names,y.2=.local->sc.names.lookup y.1=some .local:=by decide +kernel)(d:∀ y∈sc.names,y.2=.free->so.names.lookup y.1=some .cell\/so.names.lookup y.1=some .free:=by decide +kernel)(e:N'.Nodup:=by decide +kernel)(f:src.length=N'.length:=by rfl)
  (g:∀ p∈N'.zip src,(match p.2 with | none=>true | some j=>decide (N[j]? = some p.1/\sc.names.lookup p.1=some .free))=true:=by decide +kernel):xu so sc N N' src:=⟨a,b,c,d,e,f,g⟩
theorem dD {N P:List Str}{sc:Scope}(a:sc.kind=.function:=by rfl)(b:sc.isCoroutine=false:=by rfl)(c:sc.isGenerator=false:=by rfl)(d:N.Nodup:=by decide +kernel)(e:N.take P.length=P:=by rfl)(f:∀ x∈P,sc.names.lookup x=some .local\/sc.names.lookup x=some .cell:=by decide +kernel)(g:∀ y∈sc.names,y.2≠.free:=by decide +kernel):av N P sc:=⟨a,b,c,d,e,f,g⟩
end L2
namespace Wz
open PySem L2
def aT (K:PySem.W.Frag)(x:Str)(st:Stmt):Prop:=∃ (f:Addr)(fd:FuncData),PySem.W.nsIn K mainGlobals x=some (some (.ref f))/\cG K x x st f fd
theorem fact_mk {K:PySem.W.Frag}{x:Str}{st:Stmt}{f:Addr}{oc:Value}{od an:Option Addr}{osl:Array (Option Value)}{kV doc pm cdv ct:Value}(a:PySem.W.nsIn K mainGlobals x=some (some (.ref f)))(l:K.lookup f=some ⟨oc,od,.func (PySem.W.fnOf x x (hJ st) (fA st) (ak st) .none kV doc pm an cdv ct),osl⟩)
  (c:PySem.W.codeIn K cdv x=true) (k:PySem.W.keepIn K (.ref f)=true):aT K x st:=⟨f,_,a,Fd l c k⟩
def bY (K:PySem.W.Frag)(C:Addr)(m q:Str)(st:Stmt):Prop:=∃ (f:Addr)(fd:FuncData),PySem.W.findIn K (.ref C) m=some (some (.ref f))/\PySem.W.isFn K (.ref f)=true/\cG K m q st f fd
theorem mfact_mk {K:PySem.W.Frag}{C:Addr}{m q:Str}{st:Stmt}{f:Addr}{oc:Value}{od an:Option Addr}{osl:Array (Option Value)}{kV doc pm cdv ct:Value}(a:PySem.W.findIn K (.ref C) m=some (some (.ref f)))(i:PySem.W.isFn K (.ref f)=true)(l:K.lookup f=some ⟨oc,od,.func (PySem.W.fnOf m q (hJ st) (fA st) (ak st) .none kV doc pm an cdv ct),osl⟩)
  (c:PySem.W.codeIn K cdv q=true) (k:PySem.W.keepIn K (.ref f)=true):bY K C m q st:=⟨f,_,a,i,Fd l c k⟩
section
variable {P:Program}{w:World}{K:PySem.W.Frag}{h base:Heap}{mg:Str->Option Value}{x m q:Str}{st:Stmt}{k:Nat}{ps:List Str}{sp:Sp}{C:Addr}{CX:zF}
theorem EQ {n:Nat}{P:List Value->Prop}(h:∀ (a:Value)(vs:List Value),vs.length=n->P (a::vs)):∀ us:List Value,us.length=n+1->P us
 | a::vs,e=>h a vs (Nat.succ.inj e)
theorem JF {P:List Value->Prop}(h:P []):∀ us:List Value,us.length=0->P us
 | [],_=>h
theorem iW (X:K.In h)(G:h.Ns mainGlobals mg)(F:aT K x st)(ok:∀ f fd,cG K x x st f fd->aZ P w K mg base bV k f fd ps sp)
  (hb:∀ (kV doc pm:Value)(an:Option Addr)(cdv ct:Value)(us:List Value),us.length=ps.length->bindArgs (PySem.W.fnOf x x (hJ st) (fA st) (ak st) .none kV doc pm an cdv ct) ⟨us,[]⟩=pure (ps.zip us):=by intro _ _ _ _ _ _;(repeat refine EQ fun _=>?_);exact JF rfl):ar P w K mg base x k ps sp:=by
 obtain⟨f,fd,a,g⟩:=F;exact⟨f,fd,ok f fd g,Nv X G a,g.kp,g.binds hb⟩
theorem KG (X:K.In h)(G:h.Ns mainGlobals mg)(F:aT K x st)(ok:∀ f fd,cG K x x st f fd->aZ P w K mg base (ju P w) k f fd ps sp)
  (hb:∀ (kV doc pm:Value)(an:Option Addr)(cdv ct:Value)(us:List Value),us.length=ps.length->bindArgs (PySem.W.fnOf x x (hJ st) (fA st) (ak st) .none kV doc pm an cdv ct) ⟨us,[]⟩=pure (ps.zip us):=by intro _ _ _ _ _ _;(repeat refine EQ fun _=>?_);exact JF rfl):eR P w K mg base x k ps sp:=by
 obtain⟨f,fd,a,g⟩:=F;exact⟨f,fd,ok f fd g,Nv X G a,g.kp,g.binds hb⟩
theorem wK (F:bY K C m q st)(ok:∀ f fd,cG K m q st f fd->aZ P w K mg base CX k f fd ps sp)
  (hb:∀ (kV doc pm:Value)(an:Option Addr)(cdv ct:Value)(us:List Value),us.length=ps.length->bindArgs (PySem.W.fnOf m q (hJ st) (fA st) (ak st) .none kV doc pm an cdv ct) ⟨us,[]⟩=pure (ps.zip us):=by intro _ _ _ _ _ _;(repeat refine EQ fun _=>?_);exact JF rfl):aA P w K mg base CX C m k ps sp:=by
 obtain⟨f,fd,a,i,g⟩:=F;exact⟨f,fd,ok f fd g,⟨a,i,g.kp⟩,g.binds hb⟩
end
end Wz
namespace L2
open PySem PySem.Spec PyProof.Rows
end L2
namespace Wz
open PySem L2
open L2
end Wz
namespace PySem
open Sem (wp)
section
variable {M:Model}{A:Around}{E:Value->Shared->Prop}{s:Shared}{env:Env}
def JE (M:Model)(A:Around)(E:Value->Shared->Prop)(use:Option (Value->Sem Unit))(Q:Value->Shared->Prop)(acc:Value)(C:Addr)(fr:Option Addr)(r:Result)(s':Shared):Prop :=
 match r,use with
 | .ok _,none=>∃ m,s'.heap.Ns C m/\∀ h',Heap.SameBut C s'.heap h'->Q acc { s' with heap:=h' }
 | .ok _,some u=>wpAny M A (u acc) (fun _ s''=>∃ m,s''.heap.Ns C m/\∀ h',Heap.SameBut C s''.heap h'->Q .none { s'' with heap:=h' }) E s'
 | .error x,_=>∃ m,s'.heap.Ns C m/\∀ h',Heap.SameBut C s'.heap h'->∀ cenv:Env,cenv.frame=fr->wpAny M A (passOn "comprehension.variables-let-go" x cenv:Sem Value) (fun _ _=>False) E { s' with heap:=h' }
end
end PySem
namespace L2
open PySem PySem.Spec PyProof.Rows
section
variable {M:Model}{A:Around}{E:Value->Shared->Prop}{s:Shared}{B:Heap}{env:Env}{outer:List Env}{L e:Addr}{od:Option Addr}{c:Value}
end
section
variable {P:Program}{w:World}{K:PySem.W.Frag}{mg:Str->Option Value}{base:Heap}{N:List Str}{qual:Str}{sc:Scope}{f:Addr}{cd:Value}{A:Around}{outer:List Env}{s0:Shared}{H0:Hp}{E:XK}
end
def zL (CX:zF)(X:Cx)(σ:St)(E:XK):Prop:=∀ (pins:List (Addr×Obj))(H:Hp)(s:Shared)(e:Value)(s':Shared),aK X pins σ H s->CX X.stack H s E e s'->X.xe e s'
def LP (X:Cx)(pins:List (Addr×Obj))(E:St->XK)(e:Value)(s':Shared):Prop:=∃ (σ:St)(H:Hp)(ea C:Addr)(od:Option Addr)(B:Heap),e=.ref ea/\Iz X pins σ H ea C od B s'/\lJ B X.stack ea (.ref C) od s'.heap/\σ.length=X.N.length/\E σ (.ref C) od H
theorem IZ {X:Cx}{pins:List (Addr×Obj)}{E:St->XK}(σ:St):zL (ju X.prog X.w) (X.tried pins (LP X pins E)) σ (E σ):=by
 intro qins H s e s' I hc;obtain⟨ea,C,od,H',B,rfl,fl,un,hok,os,bare,hsB,trB,hE⟩:=hc;exact⟨σ,H',ea,C,od,B,rfl,CV I.untried fl un hok os bare hsB trB,fl,I.len,hE⟩
theorem Ht {X:Cx}{b0:Stmt}{bs:List Stmt}{fS:ExceptHandler}{hdl:List ExceptHandler}{tb:(St->XK)->TS}{th:Value->Option Addr->TS}{pos:Pos}
  (hst:X.stack=X.env::X.outer) (hfr:X.env.frame=some X.env.locals) (hb:∀ pins E,zK (X.tried pins (LP X pins E)) (b0::bs) (tb E)) (hh:HP X (fS::hdl) th) :
  PS X (.Try (b0::bs) (fS::hdl) [] [] pos) (fun D σ H=>tb (fun σ' cls od H2=>th cls od D σ' H2) D σ H):=by
 intro pins s σ H D I h;refine wpAny_Try_except ?_;refine MP (hb pins _ [] s σ H D I.tried h) (fun f s1 hq=>?_) fun e s' hx=>?_
 ·cases f with
  | next=>obtain⟨σ',H',I1,q⟩:=hq;exact Ob ⟨σ',H',I1.untried,q⟩
  | brk=>obtain⟨σ',H',I1,q⟩:=hq;exact⟨σ',H',I1.untried,q⟩
  | cont=>obtain⟨σ',H',I1,q⟩:=hq;exact⟨σ',H',I1.untried,q⟩
  | ret u=>obtain⟨v,σ',H',I1,r,q⟩:=hq;exact⟨v,σ',H',I1.untried,r,q⟩
 ·obtain⟨σ',H',ea,C,od,B,rfl,ld,fl,hl,hE⟩:=hx
  have fl':=fl;rw[hst]at fl';refine xV (by rw[I.ok.frames,hst]) hfr fl' fun h4 held ups4=>?_;refine Fu held fun h5 fl5 ups5=>?_;rw[<-hst]at fl5;exact hh pins σ' H' D ea C od B s' h5 ld fl5 (ups4.trans ups5) hE
end L2
namespace Wz
open PySem L2
end Wz
namespace L2
open PySem PySem.Spec PyProof.Rows
section
variable {P:Program}{w:World}{A:Around}{E:Value->Shared->Prop}{s:Shared}
end
end L2
namespace Wz
open PySem L2
theorem Jb {X:Cx}{k:Nat}{C:Addr}{ps:List Str}{sp:Sp}{E:St->XK}{m:Str}{pos apos:Pos}{e o:Expr}{es:List Expr}{ta:TE}{t:TA}{pl:Sem Bool}(M:aA X.prog X.w X.K X.mg X.base (ju X.prog X.w) C m k ps sp)(ho:PE X o ta)(c:Bq X.K C)(hr:cH k X.A)(hx:∀ σ,zL (ju X.prog X.w) X σ (E σ))(ha:PA X (e::es) t)
  (hst:starEach (e::es) X.env=(false,eval e X.env)::starEach es X.env:=by rfl) (hpl:(backTo pos (starEach es X.env)).any (·.1)=false:=by rfl)
  (ht:eval (.Call (.Attribute o m apos) (e::es) [] pos) X.env=(do
   let ov <-eval o X.env
   standAt apos.atName
   let (f,first) <-holding [ov] (getMethod ov m pl)
   callWith pos f first (backTo pos (starEach (e::es) X.env)) (backToKw pos (keywordEach [] X.env))):=by rfl) :
  PE X (.Call (.Attribute o m apos) (e::es) [] pos) (fun σ H Q=>Bd C m sp [] (E σ) ta t σ H Q):=by
 obtain⟨f,fd,F,hm,hb⟩:=M;intro pins s σ H Q I h;refine PySem.W.methodCall_KW (pl:=pl) (bH (ho pins s σ H _ I h) fun u s1 ⟨x,H1,I1,rx,a,dx,fs,ex,ea,l,q⟩=>?_) ht;subst ex;obtain rfl:u=Value.ref a:=rx;refine o4 I1 ea c hm l ?_;refine Os (first:=[.ref a]) (h₀:=X.base) I.ok.mod.kin hm.kp (bH (ha pos pins s1 σ H1 _ I1 q) fun us s2 ⟨vs,H2,I2,r,q2⟩=>⟨I2.kIn,?_⟩) hst hpl;have r2:bw ((.ref a::vs)++[]) ((.ref a::us)++[]):=bw.append (show bw (V.ref a::vs) (Value.ref a::us) from .cons rfl r) .nil
 have hl:((.ref a::us)++[]:List Value).length=ps.length:=by rw[<-r2.length];exact F.len _ _ _ _ q2
 refine wpAny_call (Oa (F.run X.A X.stack s2 H2 ⟨.ref a::us,[]⟩ ((.ref a::us)++[]) ((.ref a::vs)++[]) Q (E σ) hr I2.env0 (hb s2 (.ref a::us) I2.kIn hl) r2 q2) fun r s' hq=>?_)
 cases r with
 | error e=>exact hx σ pins H2 s2 e s' I2 hq
 | ok fl =>
  cases fl with
  | ret u=>exact I2.after hq
  | next=>exact False.elim hq
  | brk=>exact False.elim hq
  | cont=>exact False.elim hq
theorem j8 {G:Hp}{x y:Addr}{qs ws:List (Int×Int)}{Q':VK}(hx:aY G x qs)(hy:aY G y ws)(hl:qs.length+ws.length<=1000)(k:∀ (p:Addr)(G':Hp),G p=none->ax G G'->aY G' p (qs++ws)->Q' (.ref p) G'):Jg (.ref x) (.ref y) G Q':=by
 obtain⟨as,h1,p1⟩:=hx;obtain⟨bs,h2,p2⟩:=hy;have l1:=Mo p1;have l2:=Mo p2;refine⟨x,y,_,_,rfl,rfl,h1,h2,by rw[Me,Me];exact Nz (aw (by omega)),fun p hp=>k p _ hp (ag hp) ⟨as++bs,by rw[ac,Mr],?_⟩⟩;exact aJ (Paired.mapP p1 fun b e z=>(ag hp) _ _ z) (Paired.mapP p2 fun b e z=>(ag hp) _ _ z)
end Wz
namespace L2
open PySem PySem.Spec PyProof.Rows
open AutoSeq1 (wpAny_loadPart')
section
variable {prog:Program}{w:World}{A:Around}{E:Value->Shared->Prop}{s:Shared}
end
section
variable {X:Cx}{pins:List (Addr×Obj)}{σ:St}{H:Hp}{s:Shared}
end
section
variable {X:Cx}{CX:zF}{k:Nat}{E:XK}{x y:Str}{p pos:Pos}{e e1 e2:Expr}{es:List Expr}{te t1 t2:TE}{t:TA}
end
end L2
namespace Wz
open PySem L2
end Wz
namespace L2
open PySem PySem.Spec PyProof.Rows
end L2
namespace Wz
open PySem L2
def LR (o:Option Int):V:=match o with | none=>.non | some p=>.int p
end Wz
namespace L2
open PySem PySem.Spec PyProof.Rows
end L2
namespace Wz
open PySem L2
end Wz
namespace L2
open PySem PySem.Spec PyProof.Rows
end L2
namespace Wz
open PySem L2
theorem By {K:PySem.W.Frag}{te:TE}{Qf:Hp->Prop}{lr q:Addr}{rs:List Int}{f:Int->Bool}{rest:St}{H:Hp}(hq:H q=none)(h1:H lr=some (.lst (rs.map V.int)))(hlen:rs.length<=1000)
  (ht:∀ (r:Int)(HK:Hp)(Q':VK),r∈rs->ax H HK->(∀ H5,ax HK H5->Q' (.bl (f r)) H5)->te (some (.int r)::rest) HK Q')
  (k:∀ (HK:Hp),ax H HK->HK q=some (.lst ((rs.map f).map V.bl))->Qf HK) :
  kT (GF K lr) (jA 0) (EF wv te q) { nx:=fun _ H'=>Qf H',rt:=fun _ _=>False } (none::rest) (upd H q (.lst [])):=by
 refine a5 (K:=K) (a:=lr) (xs:=rs.map V.int) (fun i σ HK=>∃ v:Option V,σ=v::rest/\ax H HK/\HK q=some (.lst (((rs.take i).map f).map V.bl)))
  ⟨none,rfl,ag hq,ac⟩ (fun i σ HK _ ⟨_,_,s2,_⟩=>aW.of (s2 _ _ h1)) ?_ ?_
 ·rintro i y σ HK hi ⟨v,rfl,t1,hq2⟩
  obtain⟨r,hr0,rfl⟩:=bg hi;have hil:i<rs.length:=(List.getElem?_eq_some_iff.mp hr0).1;refine gH (ht r HK _ (MA hr0) t1 fun H5 s5=>?_);refine⟨_,s5 _ _ hq2,by rw[Me,Me,Mz];exact aw (by omega),_,rfl,aR (t1.trans s5) hq,?_⟩;rw[ac,MG,hr0,ML,Mr,Mr];rfl
 ·rintro σ HK ⟨v,rfl,t1,hq2⟩
  rw[Me,MI]at hq2;exact k HK t1 hq2
open PySem PySem.SetTable
open PySem PySem.Spec PyProof.Rows L2 PySem.SetTable
section
variable {P:Program}{w:World}{A:Around}{E:Value->Shared->Prop}{s:Shared}{a:Addr}{es:Array (Int×Value)}{ep:Nat}{t:SetTable}{L:List Int}
end
section
variable {P:Program}{w:World}{A:Around}{E:Value->Shared->Prop}{s:Shared}{a d I:Addr}{es:Array (Int×Value)}{ep:Nat}{t:SetTable}{L:List Int}
end
end Wz
set_option maxRecDepth 1000000
set_option maxHeartbeats 8000000
namespace Wz
open PySem PySem.Spec PyProof.Rows L2 PySem.SetTable
section
variable {P:Program}{w:World}{A:Around}{E:Value->Shared->Prop}{s:Shared}
end
section
variable {X:Cx}
end
open PySem L2
section
variable {P:Program}{w:World}{A:Around}{E:Value->Shared->Prop}{s:Shared}{a b:Addr}{es:Array (Int×Value)}{ep:Nat}{t:SetTable}{ps:List (Int×Int)}{p:Int×Int}
end
section
variable {P:Program}{w:World}{A:Around}{E:Value->Shared->Prop}{s:Shared}{a b:Addr}{es:Array (Int×Value)}{ep:Nat}{t:SetTable}{ps:List (Int×Int)}{p:Int×Int}
end
section
variable {X:Cx}
end
end Wz
namespace L2
open PySem PySem.Spec PyProof.Rows
end L2
namespace Wz
open PySem L2
theorem zk {P:St->Hp->Prop}{G:Prop}(C:St->Hp->Prop)(main:(∀ σ HH,C σ HH->P σ HH)->G)(key:∀ σ HH,C σ HH->P σ HH):G:=main key
theorem qp {K:PySem.W.Frag}{G:Hp}{x:Addr}{qs:List (Int×Int)}{Q':VK}(n:Nat)(hx:aY G x qs)(k:∀ (p:Addr)(G':Hp),G p=none->ax G G'->aY G' p (qs.take n)->Q' (.ref p) G'):Ga K (.ref x) none (some (n:Int)) G Q':=by
 obtain⟨as,h1,p1⟩:=hx;refine⟨x,_,rfl,aW.of h1,fun p hp=>k p _ hp (ag hp) ⟨as.take n,by rw[ac,EX,Nu],Paired.mapP (my n p1) fun b e z=>(ag hp) _ _ z⟩⟩
theorem mD {K:PySem.W.Frag}{G:Hp}{x:Addr}{qs:List (Int×Int)}{Q':VK}(n:Nat)(hx:aY G x qs)(k:∀ (p:Addr)(G':Hp),G p=none->ax G G'->aY G' p (qs.drop n)->Q' (.ref p) G'):Ga K (.ref x) (some (n:Int)) none G Q':=by
 obtain⟨as,h1,p1⟩:=hx;refine⟨x,_,rfl,aW.of h1,fun p hp=>k p _ hp (ag hp) ⟨as.drop n,by rw[ac,zU,List.map_drop],Paired.mapP (mj n p1) fun b e z=>(ag hp) _ _ z⟩⟩
end Wz
set_option maxRecDepth 1000000
set_option maxHeartbeats 8000000
namespace Wz
open PySem PySem.Spec PyProof.Rows L2 PySem.SetTable
section
variable {P:Program}{w:World}{A:Around}{E:Value->Shared->Prop}{s:Shared}
end
section
variable {X:Cx}
end
open PySem L2
end Wz
namespace Tm
open PySem PyProof.Rows
def el (xs:Array Keyed)(i:Nat):Keyed:=xs.getD i (.none,.none)
structure Mc (P:Program)(w:World)(A:Around)(s:Shared)(κ:SortKind)(a0:Array Keyed)(lt:Keyed->Keyed->Bool):Prop where
 cmp:∀ {x y:Keyed}{E:Value->Shared->Prop}{Q:Bool->Prop},x∈a0->y∈a0->Q (lt x y)->wpAny (model P w) A (keyLt' κ x.1 y.1) (fun b s'=>s'=s/\Q b) E s
 irr:∀ x,lt x x=false
 tr:∀ x y z,lt x y=true->lt y z=true->lt x z=true
 tot:∀ x y,x∈a0->y∈a0->x≠y->lt x y=true\/lt y x=true
 nd:a0.toList.Nodup
structure LW (κ:SortKind)(a0:Array Keyed)(st:SortSt):Prop where
 pm:(arrOf st).Perm a0
 fl:failedOf st=none
 kd:kindOf st=κ
section
variable {P:Program}{w:World}{A:Around}{E:Value->Shared->Prop}{s:Shared}{κ:SortKind}{a0:Array Keyed}{lt:Keyed->Keyed->Bool}{st:SortSt}
def Up (lt:Keyed->Keyed->Bool)(xs:Array Keyed)(lo hi:Nat):Prop:=∀ i j,lo<=i->i<j->j<hi->lt (el xs i) (el xs j)=true
def Dn (lt:Keyed->Keyed->Bool)(xs:Array Keyed)(lo hi:Nat):Prop:=∀ i j,lo<=i->i<j->j<hi->lt (el xs j) (el xs i)=true
def Mb (xs ys:Array Keyed)(lo hi:Nat):Prop:=∀ i,i<lo\/hi<=i->el ys i=el xs i
def LY (st st':SortSt):Prop:=pendingOf st'=pendingOf st/\gallopOf st'=gallopOf st
end
def KB:Bool->Keyed->Array Keyed->Nat->Nat->Nat->StateT SortSt Sem (Option Nat):=sortPriv% PySem.Builtin.gallop
def Bf (lt:Keyed->Keyed->Bool)(left:Bool)(key:Keyed)(xs:Array Keyed)(b i:Nat):Bool:=if left=true then lt (el xs (b+i)) key else !lt key (el xs (b+i))
section
variable {P:Program}{w:World}{A:Around}{E:Value->Shared->Prop}{s:Shared}{κ:SortKind}{a0:Array Keyed}{lt:Keyed->Keyed->Bool}{st:SortSt}
end
def Fn (R:Keyed->Keyed->Prop)(T r:List Keyed):Prop:=r.Perm T/\r.Pairwise R
structure J (R:Keyed->Keyed->Prop)(T out ra rb:List Keyed):Prop where
 pm:(out++(ra++rb)).Perm T
 so:out.Pairwise R
 oa:∀ x,x∈out->∀ y,y∈ra->R x y
 ob:∀ x,x∈out->∀ y,y∈rb->R x y
 sa:ra.Pairwise R
 sb:rb.Pairwise R
 la:∀ x,x∈rb->∀ z,ra.getLast? = some z->R x z
section
variable {R:Keyed->Keyed->Prop}{T out ra rb p:List Keyed}
end
def J4:Array Keyed->Array Keyed->StateT SortSt Sem (Array Keyed):=sortPriv% PySem.Builtin.mergeLo
def GH:Nat->StateT SortSt Sem Unit:=sortPriv% PySem.Builtin.setMinGallop
structure Md (a0:Array Keyed)(lt:Keyed->Keyed->Bool)(a b:Array Keyed):Prop where
 ma:∀ i,i<a.size->el a i∈a0
 mb:∀ i,i<b.size->el b i∈a0
 ne:∀ i j,i<a.size->j<b.size->el a i≠el b j
 ua:Up lt a 0 a.size
 ub:Up lt b 0 b.size
 za:0<a.size
 zb:0<b.size
 h0:lt (el b 0) (el a 0)=true
 hl:lt (el b (b.size-1)) (el a (a.size-1))=true
def ax (st st':SortSt):Prop:=arrOf st'=arrOf st/\failedOf st'=failedOf st/\kindOf st'=kindOf st/\pendingOf st'=pendingOf st
def Jl (lt:Keyed->Keyed->Bool)(a b:Array Keyed)(out:Array Keyed)(ia ib:Nat):Prop:=J (fun x y=>lt x y=true) (a.toList++b.toList) out.toList (a.toList.drop ia) (b.toList.drop ib)
def Sl (lt:Keyed->Keyed->Bool)(a b:Array Keyed)(n:Nat)(r:Option (Array Keyed))(out:Array Keyed)(ia ib:Nat):Prop :=
 (∃ q,r=some q/\Fn (fun x y=>lt x y=true) (a.toList++b.toList) q.toList)\/(r=none/\Jl lt a b out ia ib/\ia+1<a.size/\ib<b.size/\n<=out.size)
section
variable {P:Program}{w:World}{A:Around}{E:Value->Shared->Prop}{s:Shared}{κ:SortKind}{a0:Array Keyed}{lt:Keyed->Keyed->Bool}{st:SortSt}{a b out:Array Keyed}{ia ib k n:Nat}
end
section
variable {P:Program}{w:World}{A:Around}{E:Value->Shared->Prop}{s:Shared}{κ:SortKind}{a0:Array Keyed}{lt:Keyed->Keyed->Bool}{st:SortSt}{a b out:Array Keyed}{ia ib k n:Nat}
end
def J3:Array Keyed->Array Keyed->StateT SortSt Sem (Array Keyed):=sortPriv% PySem.Builtin.mergeHi
def Jh (lt:Keyed->Keyed->Bool)(a b:Array Keyed)(out:Array Keyed)(na nb:Nat):Prop:=J (fun x y=>lt y x=true) (a.toList++b.toList) out.toList (b.toList.take nb).reverse (a.toList.take na).reverse
def Sh (lt:Keyed->Keyed->Bool)(a b:Array Keyed)(n:Nat)(r:Option (Array Keyed))(out:Array Keyed)(na nb:Nat):Prop :=
 (∃ q,r=some q/\Fn (fun x y=>lt x y=true) (a.toList++b.toList) q.toList)\/(r=none/\Jh lt a b out na nb/\0<na/\na<a.size/\1<nb/\nb<=b.size/\n<=out.size)
section
variable {P:Program}{w:World}{A:Around}{E:Value->Shared->Prop}{s:Shared}{κ:SortKind}{a0:Array Keyed}{lt:Keyed->Keyed->Bool}{st:SortSt}{a b out:Array Keyed}{na nb k n:Nat}
end
section
variable {P:Program}{w:World}{A:Around}{E:Value->Shared->Prop}{s:Shared}{κ:SortKind}{a0:Array Keyed}{lt:Keyed->Keyed->Bool}{st:SortSt}{a b out:Array Keyed}{na nb k n:Nat}
end
def JS (q:Nat)(m arr:Array Keyed):Array Keyed:=m.toList.zipIdx.foldl (fun a (p,j)=>a.setIfInBounds (q+j) p) arr
section
variable {P:Program}{w:World}{A:Around}{E:Value->Shared->Prop}{s:Shared}{κ:SortKind}{a0:Array Keyed}{lt:Keyed->Keyed->Bool}{st:SortSt}
end
def Ch (lt:Keyed->Keyed->Bool)(xs:Array Keyed):Nat->List (Nat×Nat×Nat)->Nat->Prop
 | f,[],u=>f=u
 | f,t::r,u=>t.1=f/\1<=t.2.1/\Up lt xs f (f+t.2.1)/\Ch lt xs (f+t.2.1) r u
section
variable {lt:Keyed->Keyed->Bool}{xs ys:Array Keyed}
end
section
variable {P:Program}{w:World}{A:Around}{E:Value->Shared->Prop}{s:Shared}{κ:SortKind}{a0:Array Keyed}{lt:Keyed->Keyed->Bool}{st:SortSt}
end
end Tm
namespace Qs
open PySem PySem.W PyProof.Rows
open Classical in
noncomputable def dec (h:Heap) (v:Value):Int×Int:=if z:∃ p,PairAt h v p then choose z else (0,0)
section
variable {prog:Program}{w:World}{A:Around}{E:Value->Shared->Prop}{s:Shared}
end
end Qs
namespace Wz
open PySem PySem.Spec PyProof.Rows L2
end Wz
namespace L2
open PySem
end L2
namespace Wz
open PySem L2
def jy:bX->List (Int×Int)->EO
 | _,[]=>.done
 | st,p::ps=>if ba st (eF p)=.done then jy (cO st (eF p)) ps else ba st (eF p)
theorem DA {i:Nat}{st:bX}{ps:List (Int×Int)}{p:Int×Int}(h:ps[i]? = some p):jy st (ps.drop i)=if ba st (eF p)=.done then jy (cO st (eF p)) (ps.drop (i+1)) else ba st (eF p):=by
 obtain⟨hl,e⟩:=List.getElem?_eq_some_iff.mp h;rw[List.drop_eq_getElem_cons hl,e];rfl
theorem CH:∀ (ps:List (Int×Int))(es:List aX),bW es->jy (az es) ps=.done->bW (es++ps.map eF)
 | [],es,h,_=>by simpa using h
 | p::ps,es,h,hb=>by
  unfold jy at hb
  by_cases d:ba (az es) (eF p)=.done
  ·rw[Mi d,dM d]at hb
   have:=CH ps (es++[eF p]) (cj h d) hb;rw[Nf]at this;exact this
  ·rw[Mg d]at hb
   exact absurd hb d
theorem Fm (st:bX)(p:Int×Int):ba st (eF p)≠.already/\ba st (eF p)≠.masked:=by
 unfold eF ba;dsimp only;split<;>(try split)<;>(try split)<;>(try split)<;>simp
theorem yg:∀ (ps:List (Int×Int))(st:bX),jy st ps≠.already/\jy st ps≠.masked
 | [],st=>⟨fun z=>(nomatch z),fun z=>(nomatch z)⟩
 | p::ps,st=>by
  unfold jy;split
  ·exact yg ps _
  ·exact Fm st p
theorem El {c:HX}{E:XK}{H H1:Hp}{o:EO}(r:lP c E H o)(s:ax H H1):lP c E H1 o:=by
 cases o with
 | done=>exact r
 | already=>exact fun H' s'=>r H' (s.trans s')
 | masked=>exact fun H' s'=>r H' (s.trans s')
 | same=>exact fun H' s'=>r H' (s.trans s')
 | met=>exact fun H' s'=>r H' (s.trans s')
 | noguest g=>exact fun dx H' s' h=>r dx H' (s.trans s') h
theorem Gu {es:List aX}{ps:List (Int×Int)}{i:Nat}{e:Int×Int}(he:ps[i]? = some e):es++(ps.take (i+1)).map eF=(es++(ps.take i).map eF)++[eF e]:=by rw[MG,he,ML,Mr,Nf];rfl
theorem Fb {L:List Int}{n:Nat}{st:bX}(G:dZ st)(o:Of L st)(hL:L.length<=100)(z:Sz n st)(hn:n<=450):Bs st:=by
 have:=rD G o;exact Ev.fits (by omega) (by omega) (by have:=z.c;omega) (fun x hx=>by have:=z.k x hx;omega) (by have:=z.d;omega)
def Gd (es:List aX)(ps:List (Int×Int)):Prop:=lL (az es).worn (fm es) ps/\ps.foldl aG (wr (az es).worn)=id/\ps.length<=200
section
variable {L:List Int}{es:List aX}(P:IB L es)(h64:(az es).worn.length<64)
include P h64
theorem HU:(aQ (az es).worn).flatten.length<=64/\(aQ (az es).worn).length<=64:=by
 have PW:=dt P.good;obtain⟨w1,w2,w3,w4⟩:=PW.wrong
 have nw:(aU (az es).worn).Nodup:=by unfold aU;exact ((gn _).nodup_iff.mpr PW.nd).filter _
 have q:=b7 nw fun x hx=>(w1 x hx).1;unfold aq at q;rw[Me]at q;obtain⟨rs1,rs2⟩:=dO PW;have:=PW.flat_len;omega
theorem IJ {one other:Int}(ne:one≠other)(la:look (az es).worn one=some one)(lb:look (az es).worn other=some other)(c1:dG (az es).circ one=[])(c2:dG (az es).circ other=[]):Gd es (oh one other (aQ (az es).worn).reverse):=by
 have PW:=dt P.good;have li:∀ g,look (az es).worn g=some g->g∈aq (az es).worn:=fun g e=>bd.mp (by rw[e];rfl)
 have N0:∀ g,look (az es).worn g=some g->wr (az es).worn g=g:=fun g e=>by unfold wr;rw[e];rfl
 obtain⟨jU,fid,flen,_⟩:=PW.two P.al ne (li _ la) (li _ lb) (N0 _ la) (N0 _ lb) c1 c2;obtain⟨z1,z2⟩:=HU P h64;refine⟨jU,fid,?_⟩;rw[flen];split<;>omega
theorem II {one other:Int}(ne:one≠other)(la:look (az es).worn one=some one)(lb:look (az es).worn other=some other)(c1:dG (az es).circ one=[])(c2:dG (az es).circ other=[]):Gd es (Al (az es) one other):=by
 have PW:=dt P.good;have li:∀ g,look (az es).worn g=some g->g∈aq (az es).worn:=fun g e=>bd.mp (by rw[e];rfl)
 have N0:∀ g,look (az es).worn g=some g->wr (az es).worn g=g:=fun g e=>by unfold wr;rw[e];rfl
 obtain⟨z1,z2⟩:=HU P h64;refine⟨DY PW P.al P.mo ne (li _ la) (li _ lb) (N0 _ la) (N0 _ lb) c1 c2,FF PW ne (N0 _ la) (N0 _ lb),?_⟩;have e1:=Ai PW;have e2:=Ah PW one other
 have e3:(Al (az es) one other).length=(wJ (az es)).length+(tL (az es) one other).length:=by unfold Al;rw[Mj]
 have e4:=dU (rs:=cV (az es)) (qs:=aQ (az es).worn) NU;have e5:=dU (rs:=bP (az es)) (qs:=aQ (az es).worn) NU;have e6:(bP (az es)).length<=(aQ (az es).worn).length:=(NU).length_le;split at e2<;>omega
end
structure Nc (es:List aX)(one other:Int):Prop where
 ne:one≠other
 la:look (az es).worn one=some one
 lb:look (az es).worn other=some other
 c1:dG (az es).circ one=[]
 c2:dG (az es).circ other=[]
 s1:bj one
 s2:bj other
end Wz
namespace L2
open PySem PySem.Spec PyProof.Rows
section
variable {X:Cx}
end
end L2
namespace Wz
open PySem L2
structure KA where
 dx:Addr
 p:Addr
 pl:Addr
structure hG where
 plan:Option (List (Int×Int))
 dn:Nat
 brk:Option Int
def hG.planV (A:KA)(s:hG):V:=match s.plan with | none=>.non | some _=>.ref A.pl
def ug (h p d b:V):List (Str×V):=[("hall",h),("plan",p),("danced",d),("breaking",b)]
def Ft (A:KA)(s:hG):List (Str×V):=ug (.ref A.p) (s.planV A) (.int s.dn) (LR s.brk)
theorem KC:¬ (("hall" : Str)="plan"):=by decide +kernel
theorem KD:¬ (("hall" : Str)="danced"):=by decide +kernel
theorem Lf:¬ (("hall" : Str)="breaking"):=by decide +kernel
theorem KF:¬ (("plan" : Str)="danced"):=by decide +kernel
theorem Lg:¬ (("plan" : Str)="breaking"):=by decide +kernel
theorem Lh:¬ (("danced" : Str)="breaking"):=by decide +kernel
section
variable {h p d b v:V}
theorem DT:cp "plan" v (ug h p d b)=ug h v d b:=by
 unfold ug;simp only[cp];rw[Mg KC,Mi trivial]
theorem Ab:cp "danced" v (ug h p d b)=ug h p v b:=by
 unfold ug;simp only[cp];rw[Mg KD,Mg KF,Mi trivial]
theorem wH:cp "breaking" v (ug h p d b)=ug h p d v:=by
 unfold ug;simp only[cp];rw[Mg Lf,Mg Lg,Mg Lh,Mi trivial]
theorem xR:cp "breaking" b (cp "danced" d (cp "plan" p (cp "hall" h [])))=ug h p d b:=by
 unfold ug;simp only[cp];rw[Mg KC];simp only[cp];rw[Mg KD,Mg KF];simp only[cp];rw[Mg Lf,Mg Lg,Mg Lh]
theorem HY:cp "plan" p (cp "hall" h [])=([("hall",h),("plan",p)]:List (Str×V)):=by
 simp only[cp];rw[Mg KC]
theorem J2:cp "danced" d (cp "plan" p (cp "hall" h []))=([("hall",h),("plan",p),("danced",d)]:List (Str×V)):=by
 rw[HY];simp only[cp];rw[Mg KD,Mg KF]
theorem CU:(ug h p d b).lookup ("hall" : Str)=some h:=by
 rw[<-xR,aI,Mg Lf,aI,Mg KD,aI,Mg KC,aI,Mi rfl]
theorem uh:(ug h p d b).lookup ("plan" : Str)=some p:=by
 rw[<-xR,aI,Mg Lg,aI,Mg KF,aI,Mi rfl]
theorem ri:(ug h p d b).lookup ("danced" : Str)=some d:=by
 rw[<-xR,aI,Mg Lh,aI,Mi rfl]
theorem sW:(ug h p d b).lookup ("breaking" : Str)=some b:=by
 rw[<-xR,aI,Mi rfl]
theorem qa {m:Str}(q:¬ m="hall"/\¬ m="plan"/\¬ m="danced"/\¬ m="breaking"):(ug h p d b).lookup m=none:=by
 rw[<-xR,aI,Mg q.2.2.2,aI,Mg q.2.2.1,aI,Mg q.2.1,aI,Mg q.1];rfl
end
structure eC (C:Addr)(H:Hp)(k:Addr)(A:KA)(s:hG):Prop where
 ob:H k=some (.ins C A.dx (Ft A s))
 pl:∀ ps,s.plan=some ps->aY H A.pl ps
 le:∀ ps,s.plan=some ps->s.dn<=ps.length/\ps.length<=400
theorem eC.mono {C:Addr}{H H':Hp}{k:Addr}{A:KA}{s:hG}(x:eC C H k A s)(m:ax H H'):eC C H' k A s:=⟨m _ _ x.ob,fun ps e=>(x.pl ps e).mono m,x.le⟩
def hG.rest (s:hG):List (Int×Int):=match s.plan,s.brk with | some ps,none=>ps.drop s.dn | _,_=>[]
def hG.due (s:hG):Option (Int×Int):=s.rest.head?
def hG.word (s:hG):Str:=match s.plan,s.brk with | none,_=>"none" | some _,some _=>"broken" | some ps,none=>if s.dn=ps.length then "done" else "standing"
inductive zv (C:Addr) (vs:List V) (H:Hp) (Q:VK) (E_:XK):Prop
 | mk (k dx p:Addr) (h_0:vs=[.ref k,.ref p]) (h_1:H k=some (.ins C dx [])) (h_2:Q .non (upd H k (.ins C dx (ug (.ref p) .non (.int 0) .non)))):zv C vs H Q E_
inductive nU (C:Addr) (vs:List V) (H:Hp) (Q:VK) (E_:XK):Prop
 | mk (k:Addr) (A:KA) (s:hG) (h_0:vs=[.ref k]) (h_1:eC C H k A s) (h_2:Q (.str s.word) H):nU C vs H Q E_
inductive zr (C:Addr) (vs:List V) (H:Hp) (Q:VK) (E_:XK):Prop
 | mk (k:Addr) (A:KA) (s:hG) (h_0:vs=[.ref k]) (h_1:eC C H k A s) (h_2:Q (LR s.brk) H):zr C vs H Q E_
inductive uq (C:Addr) (vs:List V) (H:Hp) (Q:VK) (E_:XK):Prop
 | mk (k:Addr) (A:KA) (s:hG) (h_0:vs=[.ref k]) (h_1:eC C H k A s) (h_2:∀ (l:Addr)(H':Hp),H l=none->ax H H'->aY H' l s.rest->Q (.ref l) H'):uq C vs H Q E_
inductive uo (C:Addr) (vs:List V) (H:Hp) (Q:VK) (E_:XK):Prop
 | mk (k:Addr) (A:KA) (s:hG) (h_0:vs=[.ref k]) (h_1:eC C H k A s) (h_2:∀ H',ax H H'->Q (.int s.rest.length) H'):uo C vs H Q E_
def JV (H:Hp)(Q:VK):Option (Int×Int)->Prop
 | none=>Q .non H
 | some p=>∀ b,H b=some (.tup [.int p.1,.int p.2])->Q (.ref b) H
inductive zu (C:Addr) (vs:List V) (H:Hp) (Q:VK) (E_:XK):Prop
 | mk (k:Addr) (A:KA) (s:hG) (h_0:vs=[.ref k]) (h_1:eC C H k A s) (h_2:JV H Q s.due):zu C vs H Q E_
structure KM (c:HX)(ck:Addr)(H:Hp)(k:Addr)(A:KA)(s:hG)(B:HA)(st:bX):Prop where
 kp:eC ck H k A s
 hall:aM c.C H A.p B st
 kB:k∉B.fp
 pB:∀ ps,s.plan=some ps->A.pl∉B.fp
structure HK (K:PySem.W.Frag)(mg:Str->Option Value)(ck:Addr):Prop where
 cl:Bq K ck
 nH:fq K ck "hall"
 nP:fq K ck "plan"
 nD:fq K ck "danced"
 nB:fq K ck "breaking"
 mK:mg "Keeper" = some (.ref ck)
def KN (P:Program)(w:World)(K:PySem.W.Frag)(mg:Str->Option Value)(base:Heap)(ck:Addr):Prop:=∃ (fI:Addr)(fd:FuncData),Mk K ck fI/\aZ P w K mg base bV 1 fI fd ["self","hall"] (zv ck)/\fU K fd ["self","hall"] []
theorem Hk {X:Cx}{ck:Addr}{p pos:Pos}{e:Expr}{t:TA}(M:KN X.prog X.w X.K X.mg X.base ck)(U:HK X.K X.mg ck)(hr:cH 2 X.A)(hg:Gl X "Keeper")(ha:PA X [e] t)
  (he:starEach [e] X.env=(false,eval e X.env)::starEach [] X.env:=by rfl) (hpl:(backTo pos (starEach [] X.env)).any (·.1)=false:=by rfl):PE X (.Call (.Name "Keeper" p) [e] [] pos) (Do ck (zv ck) [] E0 t):=by
 obtain⟨fI,fd,M,G,hb⟩:=M;exact Hl M G hr hg U.mK hb .nil cP ha (by decide) he hpl
theorem hG.stands {s:hG}(h:s.word="standing"):∃ ps,s.plan=some ps/\s.brk=none/\s.dn≠ps.length:=by
 obtain⟨pl,dn,br⟩:=s
 cases pl with
 | none=>exact absurd (show ("none" : Str)="standing" from h) (by decide +kernel)
 | some ps =>
  cases br with
  | some b=>exact absurd (show ("broken" : Str)="standing" from h) (by decide +kernel)
  | none =>
   refine⟨ps,rfl,rfl,fun z=>?_⟩;have h:(if dn=ps.length then ("done" : Str) else "standing")="standing":=h;rw[Mi z]at h;exact absurd h (by decide +kernel)
theorem hG.stands_not {s:hG}(h:¬ s.word="standing"):s.rest=[]:=by
 obtain⟨pl,dn,br⟩:=s
 cases pl with
 | none=>rfl
 | some ps =>
  cases br with
  | some b=>rfl
  | none =>
   have h:¬ (if dn=ps.length then ("done" : Str) else "standing")="standing":=h
   by_cases z:dn=ps.length
   ·show ps.drop dn=[]
    rw[z,List.drop_length]
   ·rw[Mg z]at h;exact absurd rfl h
theorem hG.rest_of {s:hG}{ps:List (Int×Int)}(h1:s.plan=some ps)(h2:s.brk=none):s.rest=ps.drop s.dn:=by
 unfold hG.rest;rw[h1,h2]
theorem hG.due_of {s:hG}{ps:List (Int×Int)}(h1:s.plan=some ps)(h2:s.brk=none):s.due=ps[s.dn]?:=by
 unfold hG.due;rw[hG.rest_of h1 h2,List.head?_drop]
def GI (H:Hp)(o:Option (Int×Int))(v:V):Prop:=match o with | none=>v=.non | some p=>∃ b,v=.ref b/\H b=some (.tup [.int p.1,.int p.2])
theorem E4 {H:Hp}{Q:VK}{o:Option (Int×Int)}(h:∀ v,GI H o v->Q v H):JV H Q o:=by
 cases o with
 | none=>exact h _ rfl
 | some p=>exact fun b hb=>h _ ⟨b,rfl,hb⟩
theorem xK (a b:Int):∀ x∈[V.int a,V.int b],lU x=true:=fun x hx=>by
 rcases Ms.mp hx with z | z
 ·rw[z];rfl
 ·rw[Mv.mp z];rfl
theorem Hb {c:HX}{ck:Addr}{H:Hp}{k:Addr}{A:KA}{s:hG}{p:Addr}{B:HA}{st:bX}(x:eC ck H k A s)(S:aM c.C H p B st):p≠k:=fun z=>by
 have e:=S.ob;rw[z,x.ob]at e;have e:=Mu e;injection e with _ _ e;have q:(aS B).lookup ("hall" : Str)=none:=pX B (by decide +kernel);rw[<-e,show Ft A s=ug _ _ _ _ from rfl,CU]at q;cases q
theorem mr {α β:Type}{R:α->β->Prop}:∀ {as:List α}{bs:List β}{i:Nat}{b:β},Paired R as bs->bs[i]? = some b->∃ a,as[i]? = some a/\R a b
 | _,_,_,_,.nil,h=>by simp at h
 | a::as,c::bs,0,b,.cons r _,h=>by cases h;exact⟨a,rfl,r⟩
 | a::as,c::bs,i+1,b,.cons _ t,h=>mr (i:=i) t h
structure JI (K:PySem.W.Frag)(mg:Str->Option Value)(c:HX)(o q ck:Addr):Prop where
 k:HK K mg ck
 e:fu K o
 m:mg "NoWay" = some (.ref o)
 x:PySem.W.exmOne K (.ref o) (.ref o)=some true
 eP:fu K q
 mP:mg "NoPlan" = some (.ref q)
 xP:PySem.W.exmOne K (.ref q) (.ref q)=some true
 sn:PySem.W.exmOne K (.ref c.cS) (.ref c.cN)=some false
 tn:PySem.W.exmOne K (.ref c.cT) (.ref c.cN)=some false
 st:PySem.W.exmOne K (.ref c.cS) (.ref c.cT)=some false
end Wz
namespace L2
open PySem PySem.Spec PyProof.Rows
theorem lJ.push {B g:Heap}{l:List Env}{e:Addr}{c:Value}{od:Option Addr}(x:lJ B l e c od g)(ob:Obj):lJ B l e c od (g.push ob):=by
 obtain⟨h1,h2,h3,oe,us,T,oT,ts,he,hc,hd,hT1,nT,ne,hT,dT,h33⟩:=x;exact⟨fun b o q=>Heap.get?_push_of_some _ (h1 b o q),h2,h3.of_keeps fun b o q nf=>⟨o,Heap.get?_push_of_some _ q,rfl⟩,oe,us,T,oT,ts,Heap.get?_push_of_some _ he,hc,hd,hT1,nT,ne,Heap.get?_push_of_some _ hT,dT,h33⟩
theorem Hq {X:Cx}{y1 y2 y3:Str}{C1 C2 C3:Addr}{b0:Stmt}{suite:List Stmt}{t1:TS}{th:Value->Option Addr->TS}{p1 p2 p3 tpos pos:Pos}{kk:Nat}{rest:List ExceptHandler}(hg1:Gl X y1)(hm1:X.mg y1=some (.ref C1))(hg2:Gl X y2)(hm2:X.mg y2=some (.ref C2))(hg3:Gl X y3)(hm3:X.mg y3=some (.ref C3))(hs:∀ ea oe,zK (X.marked ea oe) (b0::suite) t1)(hr:HP X rest th)
  (hd1:(y1 == ("__debug__" : Str))=false:=by decide) (hd2:(y2 == ("__debug__" : Str))=false:=by decide) (hd3:(y3 == ("__debug__" : Str))=false:=by decide) :
  HP X (.ExceptHandler (some (.Tuple [.Name y1 p1,.Name y2 p2,.Name y3 p3] kk tpos)) none (b0::suite) pos::rest) (fun cls od D σ H=>∃ b,PySem.W.exmAny X.K cls [.ref C1,.ref C2,.ref C3]=some b/\if b=true then t1 D σ H else th cls od D σ H):=by
 intro pins σ H D ea C od B s' h ld fl ups ht;obtain⟨b,hb,ht⟩:=ht;have I:=ld.2 h fl ups;obtain⟨ob,us,hob,hobc,hobd,hobf⟩:=fl.obj;have Im:=I.marked (ea:=ea) hob hobf ld.1
 have LT:PySem.W.Looks (model X.prog X.w) h (typeOf (.ref ea)) (.ref C):=by
  rw[<-hobc];exact (PySem.W.Looks.ld hob).andThen .now
 refine wpAny_handleBy_cons (codeAny_handlers_test (wpAny_Tuple ?_)) (by intro z;cases z);refine wpAny_items_cons (fC (X:=X.marked ea ob) Im hg1 hm1 ?_ hd1);refine wpAny_items_cons (fC (X:=X.marked ea ob) Im hg2 hm2 ?_ hd2);refine wpAny_items_cons (fC (X:=X.marked ea ob) Im hg3 hm3 ?_ hd3);refine wpAny_items_nil ⟨(by show (3:Nat)<=sizeLine;decide),?_⟩;have kp:∀ q o,h.get? q=some o->(h.push { cls:=.type "tuple",data:=.seq [Value.ref C1,.ref C2,.ref C3].toArray }).get? q=some o:=fun _ _ z=>Heap.get?_push_of_some _ z;have fl2:=fl.push { cls:=.type "tuple",data:=.seq [Value.ref C1,.ref C2,.ref C3].toArray }
 have ups2:s'.heap.UpToSlots (h.push { cls:=.type "tuple",data:=.seq [Value.ref C1,.ref C2,.ref C3].toArray }):=fun b o q nf=>by
  obtain⟨sl,z⟩:=ups b o q nf;exact⟨sl,kp _ _ z⟩
 refine (PySem.W.exm_tup3 (K:=X.K) (I.kIn.keeps kp) (LT.keeps kp) (Heap.get?_push_size h rfl) hb).here ?_;generalize h.push { cls:=.type "tuple",data:=.seq [Value.ref C1,.ref C2,.ref C3].toArray }=h2 at fl2 ups2 ⊢
 cases b with
 | true =>
  rw[Mi rfl]at ht;refine codeAny_handlers_suite ?_;refine qb fl2 fun h6 fl6 ups6=>?_;obtain⟨oe,us6,hoe,hoec,hoed,hoef⟩:=fl6.obj;have I6:=(ld.2 h6 fl6 (ups2.trans ups6)).marked (ea:=ea) hoe hoef ld.1;exact MP (hs ea oe pins _ σ H D I6 ht) (fun f s2 hq=>hq.unmarked I.ok) fun _ _ z=>z.elim
 | false =>
  rw[Mg Mt]at ht;exact hr pins σ H D ea C od B s' h2 ld fl2 ups2 ht
end L2
namespace Wz
open PySem L2
theorem yl {K:PySem.W.Frag}{cls a b d:Value}{x y z:Bool}(h1:PySem.W.exmOne K cls a=some x)(h2:PySem.W.exmOne K cls b=some y)(h3:PySem.W.exmOne K cls d=some z):PySem.W.exmAny K cls [a,b,d]=some (x||(y||(z||false))):=by
 simp only[PySem.W.exmAny,h1,h2,h3]
theorem l6 {α:Type}:∀ {l:List α}{i:Nat}{x:α},l.Nodup->l[i]? = some x->x∉l.take i
 | [],_,_,_,h=>by simp at h
 | a::l,0,x,_,_=>by simp
 | a::l,i+1,x,nd,h=>by
  have h:l[i]? = some x:=h;have nd:=MN.mp nd;rw[List.take_succ_cons];intro z;rcases Ms.mp z with z | z
  ·exact nd.1 (by rw[<-z];exact MA h)
  ·exact l6 nd.2 h z
theorem DQ {st:bX}{p:Int×Int}(h:ba st (eF p)=.done):(look st.worn p.1).isSome=true/\(look st.worn p.2).isSome=true/\p.1≠p.2/\cY st.circ p.1 p.2=false:=by
 unfold eF ba at h;dsimp only at h
 cases e1:look st.worn p.1 with
 | none=>rw[e1]at h;cases h
 | some m1 =>
  cases e2:look st.worn p.2 with
  | none=>rw[e1,e2]at h;cases h
  | some m2 =>
   rw[e1,e2]at h;dsimp only at h
   by_cases z:p.1=p.2
   ·rw[Mi z]at h;cases h
   ·rw[Mg z]at h
    cases e3:cY st.circ p.1 p.2 with
    | true=>rw[e3]at h;cases h
    | false=>exact⟨rfl,rfl,z,rfl⟩
theorem xC {L:List Int}:∀ (ps:List (Int×Int))(es:List aX),bW es->(∀ d∈es++ps.map eF,∀ g∈names d,g∈L/\bj g)->jy (az es) ps=.done->lL (az es).worn (fm es) ps
 | [],es,_,_,_=>⟨fun p hp=>(by cases hp),(by simp)⟩
 | p::ps,es,h,nm,hb=>by
  unfold jy at hb
  by_cases d:ba (az es) (eF p)=.done
  ·rw[Mi d,dM d]at hb
   have ih:=xC (L:=L) ps (es++[eF p]) (cj h d) (by rw[Nf];exact nm) hb;have P:=iG h (fun d hd=>nm d (Nk _ hd)) es.length;rw[MI]at P;obtain⟨j1,j2,j3,j4⟩:=DQ d;rw[P.al]at j4;have j4:hU p∉fm es:=of_decide_eq_false j4;rw[xY]at ih
   have wk:∀ x,x∈aq (az (es++[eF p])).worn->x∈aq (az es).worn:=fun x hx=>by
    have:=Bk es [p];rw[show (es++[p].map eF)=es++[eF p] from rfl]at this;rw[this,rp]at hx;rcases hx with z | ⟨q,hq,z⟩
    ·exact z
    ·rw[Mv.mp hq]at z
     rcases z with z | z<;>rw[z]
     ·exact bd.mp j1
     ·exact bd.mp j2
   have ml:∀ x,x∉oW (fm es) (eF p)->x∉fm es/\x≠hU p:=fun x hx=>⟨fun z=>hx (vd.mpr (.inl z)),fun z=>hx (vd.mpr (.inr z))⟩;refine⟨fun q hq=>?_,?_⟩
   ·rcases Ms.mp hq with z | z
    ·rw[z];exact⟨j3,bd.mp j1,bd.mp j2,j4⟩
    ·obtain⟨q1,q2,q3,q4⟩:=ih.1 q z
     exact⟨q1,wk _ q2,wk _ q3,(ml _ q4).1⟩
   ·rw[MQ]
    refine MN.mpr ⟨fun z=>?_,ih.2⟩;obtain⟨q,hq,e⟩:=MF.mp z;exact (ml _ (ih.1 q hq).2.2.2).2 e
  ·rw[Mg d]at hb;exact absurd hb d
theorem zY:∀ (ps:List (Int×Int))(es:List aX),bW (es++ps.map eF)->jy (az es) ps=.done
 | [],es,_=>rfl
 | p::ps,es,h=>by
  have d:ba (az es) (eF p)=.done:=by
   have:=h es.length (eF p) (by rw[List.getElem?_append_right (Mn _),Nat.sub_self];rfl)
   rwa [List.take_left]at this
  unfold jy;rw[Mi d,dM d];exact zY ps (es++[eF p]) (by rw[Nf];exact h)
def oV (es:List aX)(ps:List (Int×Int))(L:List Int):Prop:=bW es/\(es++ps.map eF).length<=440/\L.length<64/\(∀ d∈es++ps.map eF,∀ g∈names d,g∈L/\bj g)/\∀ g∈L,bj g
def sS (es:List aX)(ps:List (Int×Int)):Prop:=jy (az es) ps=.done/\aU (az (es++ps.map eF)).worn=[]
theorem rV {L:List Int}{es:List aX}{ps:List (Int×Int)}(h:oV es ps L):sS es ps↔lL (az es).worn (fm es) ps/\aU (cZ (az es).worn ps)=[]:=by
 obtain⟨dn,_,_,nm,smL⟩:=h;have P:=iG dn (fun d hd=>nm d (Nk _ hd)) es.length;rw[MI]at P;unfold sS;rw[Bk];refine and_congr_left fun _=>⟨fun hb=>xC ps es dn nm hb,fun fr=>zY ps es ?_⟩;exact (BF (L:=aq (az es).worn++L) dn (fun d hd g hg=>⟨MC _ (nm d (Nk _ hd) g hg).1,(nm d (Nk _ hd) g hg).2⟩) fr fun g hg=>⟨Nk _ hg,smL g (P.of.1 g hg)⟩).1
inductive qB (vs:List V) (H:Hp) (Q:VK) (E_:XK):Prop
 | mk (l w m:Addr) (W ml ps:List (Int×Int)) (h_0:vs=[.ref l,.ref w,.ref m]) (h_1:aY H l ps) (h_2:H w=some (.dK (dk W))) (h_3:H m=some (.dT (rq ml))) (h_4:ps.length<=1000) (h_5:∀ (b:Bool)(H':Hp),ax H H'->(b=true↔lL W ml ps)->Q (.bl b) H'):qB vs H Q E_
inductive qE (vs:List V) (H:Hp) (Q:VK) (E_:XK):Prop
 | mk (l w m:Addr) (W ml ps:List (Int×Int)) (h_0:vs=[.ref l,.ref w,.ref m]) (h_1:aY H l ps) (h_2:H w=some (.dK (dk W))) (h_3:H m=some (.dT (rq ml))) (h_4:ps.length<=1000) (h_5:W.length<64) (h_6:kU W) (h_7:∀ (b:Bool)(H':Hp),ax H H'->(b=true↔lL W ml ps/\aU (cZ W ps)=[])->Q (.bl b) H'):qE vs H Q E_
inductive zn (c:HX) (vs:List V) (H:Hp) (Q:VK) (E:XK):Prop
 | mk (p l:Addr) (A:HA) (es:List aX) (ps:List (Int×Int)) (L:List Int) (h_0:vs=[.ref p,.ref l]) (h_1:aM c.C H p A (az es)) (h_2:aY H l ps) (h_3:oV es ps L) (h_4:if jy (az es) ps=.done then ∀ (q:Addr)(B:HA)(H':Hp),H q=none->Ev c H H' q B (az (es++ps.map eF))->Q (.ref q) H' else lP c E H (jy (az es) ps)):zn c vs H Q E
inductive mO (c:HX) (vs:List V) (H:Hp) (Q:VK) (E_:XK):Prop
 | mk (p l:Addr) (A:HA) (es:List aX) (ps:List (Int×Int)) (L:List Int) (h_0:vs=[.ref p,.ref l]) (h_1:aM c.C H p A (az es)) (h_2:aY H l ps) (h_3:oV es ps L) (h_4:∀ (b:Bool)(H':Hp),ax H H'->(b=true↔sS es ps)->Q (.bl b) H'):mO c vs H Q E_
def Ii (ps:List (Int×Int)):hG:=⟨some ps,0,none⟩
def ES (ck:Addr)(H:Hp)(k:Addr)(A:KA)(ps:List (Int×Int))(R:Hp->Prop):Prop:=∀ (pl:Addr)(H':Hp),H pl=none->eC ck H' k { A with pl:=pl } (Ii ps)->(∀ b o,H b=some o->b≠k->H' b=some o)->Tr H H'->R H'
inductive qD (c:HX) (ck co:Addr) (vs:List V) (H:Hp) (Q:VK) (E:XK):Prop
 | mk (k r:Addr) (A:KA) (s:hG) (B:HA) (es:List aX) (ps:List (Int×Int)) (L:List Int) (h_0:vs=[.ref k,.ref r]) (h_1:KM c ck H k A s B (az es)) (h_2:aY H r ps) (h_3:oV es ps L) (h_4:ps.length<=400) (h_5:(sS es ps->ES ck H k A ps (Q .non))) (h_6:(¬ sS es ps->∀ H',ax H H'->E (.ref co) none H')):qD c ck co vs H Q E
inductive ux (c:HX) (ck:Addr) (vs:List V) (H:Hp) (Q:VK) (E_:XK):Prop
 | mk (k r:Addr) (A:KA) (s:hG) (B:HA) (es:List aX) (ps:List (Int×Int)) (L:List Int) (h_0:vs=[.ref k,.ref r]) (h_1:KM c ck H k A s B (az es)) (h_2:aY H r ps) (h_3:oV es ps L) (h_4:ps.length<=400) (h_5:(sS es ps->ES ck H k A ps (Q (.bl true)))) (h_6:(¬ sS es ps->∀ H',ax H H'->Q (.bl false) H')):ux c ck vs H Q E_
def zM (H:Hp)(o:Option (List (Int×Int)))(v:V):Prop:=match o with | none=>v=.non | some ps=>∃ l,v=.ref l/\aY H l ps
inductive ur (ck:Addr) (vs:List V) (H:Hp) (Q:VK) (E_:XK):Prop
 | mk (k:Addr) (A:KA) (s:hG) (v:V) (h_0:vs=[.ref k,v]) (h_1:eC ck H k A s) (h_2:s.brk=none) (h_3:s.dn=0) (h_4:zM H s.plan v) (h_5:∀ H',ax H H'->Q (.bl true) H'):ur ck vs H Q E_
def GJ (L:List Int)(ps:List (Int×Int)):Prop:=∀ p∈ps,p.1∈L/\p.2∈L
inductive qI (vs:List V) (H:Hp) (Q:VK) (E_:XK):Prop
 | mk (l:Addr) (ps:List (Int×Int)) (d cn:Int) (h_0:vs=[.ref l,.int d,.int cn]) (h_1:aY H l ps) (h_2:ps.length<=400) (h_3:0<=d) (h_4:∀ (l':Addr)(H':Hp)(qs:List (Int×Int)),H l'=none->ax H H'->aY H' l' qs->qs.length<=ps.length+2->(∀ L:List Int,GJ L ps->(∀ j:Int,0<=j/\j<15->d7 j cn∈L)->GJ L qs)->Q (.ref l') H'):qI vs H Q E_
inductive uj (vs:List V) (H:Hp) (Q:VK) (E_:XK):Prop
 | mk (w m l:Addr) (W ml ps:List (Int×Int)) (h_0:vs=[.ref w,.ref m,.ref l]) (h_1:H w=some (.dK (dk W))) (h_2:(aq W).Nodup) (h_3:H m=some (.dT (rq ml))) (h_4:aY H l ps) (h_5:W.length<64) (h_6:ps.length<=1000) (h_7:∀ (l':Addr)(H':Hp)(qs:List Int),H l'=none->ax H H'->H' l'=some (.lst (qs.map V.int))->qs.length<=4->(∀ q∈qs,q∈aq W)->Q (.ref l') H'):uj vs H Q E_
inductive uy (vs:List V) (H:Hp) (Q:VK) (E_:XK):Prop
 | mk (w m l:Addr) (W ml ps:List (Int×Int)) (pc:Int) (h_0:vs=[.ref w,.ref m,.ref l,.int pc]) (h_1:H w=some (.dK (dk W))) (h_2:(aq W).Nodup) (h_3:H m=some (.dT (rq ml))) (h_4:aY H l ps) (h_5:W.length<64) (h_6:ps.length<=900) (h_7:∀ (l':Addr)(H':Hp)(qs:List (Int×Int)),ax H H'->(l'=l/\qs=ps\/H l'=none)->aY H' l' qs->qs.length<=ps.length+6->(∀ L:List Int,GJ L ps->(∀ g∈aq W,g∈L)->GJ L qs)->Q (.ref l') H'):uy vs H Q E_
inductive nV (c:HX) (vs:List V) (H:Hp) (Q:VK) (E_:XK):Prop
 | mk (p:Addr) (A:HA) (es:List aX) (L:List Int) (one other k:Int) (h_0:vs=[.ref p,.int k,.int one,.int other]) (h_1:aM c.C H p A (az es)) (h_2:IB L es) (h_3:(az es).worn.length<64) (h_4:(∀ g∈aq (az es).worn,bj g)) (h_5:L.length<64) (h_6:Nc es one other) (h_7:∀ (l:Addr)(H':Hp)(ps:List (Int×Int)),H l=none->ax H H'->aY H' l ps->Gd es ps->Q (.ref l) H'):nV c vs H Q E_
theorem IF {K:PySem.W.Frag}{H:Hp}{o:Option (Int×Int)}{w v:V}{Q:VK}(hw:GI H o w)(hv:GI H o v)(h:Q (.bl false) H):Kf K 1 w v H Q:=by
 cases o with
 | none =>
  rw[show w=.non from hw,show v=.non from hv];exact .inl ⟨rfl,h⟩
 | some p =>
  obtain⟨b1,rfl,e1⟩:=hw;obtain⟨b2,rfl,e2⟩:=hv;refine .inr ⟨b1,b2,_,_,rfl,rfl,AZ e1 (xK _ _),AZ e2 (xK _ _),fun b hb=>?_⟩;rw[show (if true=true then !b else b)=false by rw[hb.mpr rfl];rfl];exact h
theorem Gn {K:PySem.W.Frag}{G:Hp}{x:Addr}{qs:List (Int×Int)}{Q':VK}(n d:Nat)(hx:aY G x qs)(k:∀ (p:Addr)(G':Hp)(rs:List (Int×Int)),G p=none->ax G G'->aY G' p rs->(∀ z∈rs,z∈qs)->rs.length<=d->Q' (.ref p) G'):Ga K (.ref x) (some (n:Int)) (some ((n+d:Nat):Int)) G Q':=by
 obtain⟨as,h1,p1⟩:=hx;refine⟨x,_,rfl,aW.of h1,fun p hp=>?_⟩;unfold gR;rw[HT.sIx_nat,HT.sIx_nat]
 have hb:min (n+d) (as.map V.ref).length-min n (as.map V.ref).length<=d:=by omega
 generalize min (n+d) (as.map V.ref).length-min n (as.map V.ref).length=b at hb ⊢;generalize min n (as.map V.ref).length=a;refine k p _ ((qs.drop a).take b) hp (ag hp) ⟨(as.drop a).take b,by rw[ac,Nu,List.map_drop],Paired.mapP (my _ (mj _ p1)) fun b e z=>(ag hp) _ _ z⟩ (fun z hz=>Oj (Na hz)) (by rw[Mz];omega)
theorem Cz {K:PySem.W.Frag}{Qf:Hp->Prop}{l q:Addr}{ps:List (Int×Int)}{rest:St}{H:Hp}(hq:H q=none)(h1:aY H l ps)(hlen:ps.length<=1000)(k:∀ (HK:Hp),ax H HK->aY HK q (ps.map fun p=>(p.2,p.1))->Qf HK) :
  kT (GF K l) (jA 0) (EF wv (Kt (qN (JG (Hv K) (Gs 0) (tC (.int 1))) (qN (JG (Hv K) (Gs 0) (tC (.int 0))) wu))) q) { nx:=fun _ H'=>Qf H',rt:=fun _ _=>False } (none::rest) (upd H q (.lst [])):=by
 obtain⟨as,hl,hp⟩:=h1;have al:=Mo hp
 have two:(2:Nat)<=sizeLine:=by decide
 refine a5 (K:=K) (a:=l) (xs:=as.map V.ref) (fun i σ HK=>∃ v:Option V,σ=v::rest/\ax H HK/\aY HK q ((ps.take i).map fun p=>(p.2,p.1))) ⟨none,rfl,ag hq,[],ac,.nil⟩ (fun i σ HK _ ⟨_,_,s2,_⟩=>aW.of (s2 _ _ hl)) ?_ ?_
 ·rintro i y σ HK hi ⟨v,rfl,t1,qs,hq2,hq3⟩
  obtain⟨b,hb,rfl⟩:=bg hi;obtain⟨p,hp0,hB⟩:=paired_get hp hb;have hil:i<ps.length:=(List.getElem?_eq_some_iff.mp hp0).1;have ql:=Mo hq3;rw[Me,Mz]at ql;have hb2:=t1 _ _ hB;refine gH ⟨_,rfl,b,_,1,_,rfl,rfl,eZ.of hb2,rfl,_,rfl,b,_,0,_,rfl,rfl,eZ.of hb2,rfl,two,fun t ht=>⟨_,(ag ht) _ _ hq2,by rw[Me];exact aw (by omega),_,rfl,aR (t1.trans (ag ht)) hq,?_⟩⟩;rw[MG,hp0,ML,Mr];exact mF hq2 hq3 ht
 ·rintro σ HK ⟨v,rfl,t1,hq2⟩
  rw[Me,al,MI]at hq2;exact k HK t1 hq2
theorem GZ {qs:List Int}(h1:qs.length<=4)(h2:¬ (qs.length:Int)<4):∃ a b c d,qs=[a,b,c,d]:=by
 match qs,h1,h2 with
 | [],_,h=>exact absurd (by decide) h
 | [a],_,h=>exact absurd (by show ((1:Nat):Int)<4;decide) h
 | [a,b],_,h=>exact absurd (by show ((2:Nat):Int)<4;decide) h
 | [a,b,c],_,h=>exact absurd (by show ((3:Nat):Int)<4;decide) h
 | [a,b,c,d],_,_=>exact⟨a,b,c,d,rfl⟩
 | a::b::c::d::e::r,h,_=>exact absurd h (by simp)
theorem Bz {K:PySem.W.Frag}{te:TE}{Qf:Hp->Prop}{l q:Addr}{ps:List (Int×Int)}{f:Int×Int->Bool}{rest:St}{H:Hp}(hq:H q=none)(h1:aY H l ps)(hlen:ps.length<=1000)
  (ht:∀ (p:Int×Int)(b:Addr)(HK:Hp)(Q':VK),p∈ps->HK b=some (.tup [.int p.1,.int p.2])->ax H HK->(∀ H5,ax HK H5->Q' (.bl (f p)) H5)->te (some (.ref b)::rest) HK Q')
  (k:∀ (HK:Hp),ax H HK->HK q=some (.lst ((ps.map f).map V.bl))->Qf HK) :
  kT (GF K l) (jA 0) (EF wv te q) { nx:=fun _ H'=>Qf H',rt:=fun _ _=>False } (none::rest) (upd H q (.lst [])):=by
 obtain⟨as,hl,hp⟩:=h1;have al:=Mo hp;refine a5 (K:=K) (a:=l) (xs:=as.map V.ref) (fun i σ HK=>∃ v:Option V,σ=v::rest/\ax H HK/\HK q=some (.lst (((ps.take i).map f).map V.bl))) ⟨none,rfl,ag hq,ac⟩ (fun i σ HK _ ⟨_,_,s2,_⟩=>aW.of (s2 _ _ hl)) ?_ ?_
 ·rintro i y σ HK hi ⟨v,rfl,t1,hq2⟩
  obtain⟨b,hb,rfl⟩:=bg hi;obtain⟨p,hp0,hB⟩:=paired_get hp hb;have hil:i<ps.length:=(List.getElem?_eq_some_iff.mp hp0).1;refine gH (ht p b HK _ (MA hp0) (t1 _ _ hB) t1 fun H5 s5=>⟨_,s5 _ _ hq2,by rw[Me,Me,Mz];exact aw (by omega),_,rfl,aR (t1.trans s5) hq,?_⟩);rw[ac,MG,hp0,ML,Mr,Mr];rfl
 ·rintro σ HK ⟨v,rfl,t1,hq2⟩
  rw[Me,al,MI]at hq2;exact k HK t1 hq2
theorem Fe {n:Nat}{v:V}{σ:St}{H:Hp}{Q:St->Hp->Prop}(h:Q (σ.set n (some v)) H):jA n v σ H Q:=h
end Wz
namespace Wk35
open PySem L2 Wz
def dF (i:Nat):Stmt:=PySem.Challenge.pw_lastwaltz_k35_a_plan_is_taken.main.body.getD i (.Pass ⟨0,0,0,0⟩)
structure LO (mg:Str->Option Value):Prop where
 len:mg "len" = none
 range:mg "range" = none
 isinstance:mg "isinstance" = none
 tuple:mg "tuple" = none
 list:mg "list" = none
 int:mg "int" = none
 bool:mg "bool" = none
 all:mg "all" = none
 any:mg "any" = none
 sorted:mg "sorted" = none
 reversed:mg "reversed" = none
 bset:mg "set" = none
 bmin:mg "min" = none
 bmax:mg "max" = none
 dict:mg "dict" = none
 zip:mg "zip" = none
 enumerate:mg "enumerate" = none
 sum:mg "sum" = none
 str:mg "str" = none
section
variable {P:Program}{w:World}{K:PySem.W.Frag}{mg:Str->Option Value}{base:Heap}{c:HX}{co cq ck f P0:Addr}{fd:FuncData}
abbrev gX:Stmt:=bN (dF 10) 0
abbrev vh:List Str:=["self","guest"]
theorem t8:av vh ["self","guest"] (ak gX):=dD
abbrev nY:Stmt:=dF 12
abbrev Az:List Str:=["hall"]
theorem EA:av Az ["hall"] (ak nY):=dD
abbrev kI:Stmt:=dF 13
abbrev Ay:List Str:=["hall","guest","ring","mask"]
theorem ie:av Ay ["hall","guest"] (ak kI):=dD
abbrev m7:Stmt:=dF 14
abbrev B0:List Str:=["hall","placed","rings","guest","ring","other"]
theorem fj:av B0 ["hall"] (ak m7):=dD
abbrev ip:Stmt:=dF 15
abbrev tp:List Str:=["ring"]
theorem zj:av tp ["ring"] (ak ip):=dD
abbrev iR:Stmt:=dF 17
abbrev wT:List Str:=["hall","row","twin","one","other"]
theorem fK:av wT ["hall","row"] (ak iR):=dD
abbrev jt:Stmt:=dF 18
abbrev yI:List Str:=["hall","row","behind"]
theorem oN:av yI ["hall","row"] (ak jt):=dD
abbrev iP:Stmt:=bN (dF 20) 0
abbrev wP:List Str:=["self","hall"]
theorem vW:av wP ["self","hall"] (ak iP):=dD
abbrev gU:Stmt:=bN (dF 20) 1
abbrev vf:List Str:=["self","row"]
theorem tZ:av vf ["self","row"] (ak gU):=dD
abbrev gW:Stmt:=bN (dF 20) 2
abbrev vg:List Str:=["self"]
theorem t7:av vg ["self"] (ak gW):=dD
abbrev eK:Stmt:=bN (dF 20) 3
abbrev o7:List Str:=["self"]
theorem og:av o7 ["self"] (ak eK):=dD
abbrev dQ:Stmt:=bN (dF 20) 4
abbrev n8:List Str:=["self"]
theorem mH:av n8 ["self"] (ak dQ):=dD
abbrev iQ:Stmt:=bN (dF 20) 5
abbrev wQ:List Str:=["self"]
theorem vX:av wQ ["self"] (ak iQ):=dD
abbrev jq:Stmt:=bN (dF 20) 6
abbrev yF:List Str:=["self"]
theorem xm:av yF ["self"] (ak jq):=dD
abbrev kj:Stmt:=bN (dF 22) 0
abbrev An:List Str:=["self"]
theorem zf:av An ["self"] (ak kj):=dD
abbrev ki:Stmt:=bN (dF 22) 1
abbrev Am:List Str:=["self","guest"]
theorem ze:av Am ["self","guest"] (ak ki):=dD
abbrev pz:Stmt:=bN (dF 22) 2
abbrev D0:List Str:=["self","guest"]
theorem Co:av D0 ["self","guest"] (ak pz):=dD
abbrev gv:Stmt:=bN (dF 22) 3
abbrev tO:List Str:=["self","one","other","mask","other_mask"]
theorem gf:av tO ["self","one","other"] (ak gv):=dD
abbrev jn:Stmt:=bN (dF 22) 4
abbrev yC:List Str:=["self","guest","mask"]
theorem xg:av yC ["self","guest","mask"] (ak jn):=dD
abbrev gu:Stmt:=bN (dF 22) 5
abbrev tM:List Str:=["self","one","other","circle"]
theorem jG:av tM ["self","one","other"] (ak gu):=dD
abbrev iM:Stmt:=bN (dF 22) 6
abbrev wM:List Str:=["self","guest"]
theorem vT:av wM ["self","guest"] (ak iM):=dD
abbrev iL:Stmt:=bN (dF 22) 7
abbrev wL:List Str:=["self"]
theorem vS:av wL ["self"] (ak iL):=dD
abbrev jp:Stmt:=bN (dF 22) 8
abbrev yE:List Str:=["self","guest"]
theorem xl:av yE ["self","guest"] (ak jp):=dD
abbrev iO:Stmt:=bN (dF 22) 9
abbrev wO:List Str:=["self","mask"]
theorem vV:av wO ["self","mask"] (ak iO):=dD
abbrev mR:Stmt:=bN (dF 22) 10
abbrev BR:List Str:=["self","one","other"]
theorem A4:av BR ["self","one","other"] (ak mR):=dD
abbrev gy:Stmt:=bN (dF 22) 11
abbrev tP:List Str:=["self","guest"]
theorem rR:av tP ["self","guest"] (ak gy):=dD
abbrev gF:Stmt:=bN (dF 22) 12
abbrev qf:List Str:=["self"]
theorem xi:av qf ["self"] (ak gF):=dD
abbrev jo:Stmt:=bN (dF 22) 13
abbrev yD:List Str:=["self"]
theorem xj:av yD ["self"] (ak jo):=dD
abbrev iN:Stmt:=bN (dF 22) 14
abbrev wN:List Str:=["self"]
theorem vU:av wN ["self"] (ak iN):=dD
abbrev ig:Stmt:=bN (dF 22) 15
abbrev tf:List Str:=["self","hall"]
theorem qr:av tf ["self"] (ak ig):=dD
abbrev rZ:Stmt:=dF 24
abbrev FG:List Str:=["hall","guest"]
theorem Ey:av FG ["hall","guest"] (ak rZ):=dD
abbrev jH:Stmt:=dF 25
abbrev vj:List Str:=["hall","ring","members","guest"]
theorem rS:av vj ["hall","ring"] (ak jH):=dD
abbrev js:Stmt:=dF 26
abbrev yH:List Str:=["hall","ring","at"]
theorem oM:av yH ["hall","ring"] (ak js):=dD
abbrev dY:Stmt:=dF 27
abbrev kW:List Str:=["hall"]
theorem rT:av kW ["hall"] (ak dY):=dD
abbrev fQ:Stmt:=dF 28
abbrev oF:List Str:=["hall"]
theorem v0:av oF ["hall"] (ak fQ):=dD
abbrev gA:Stmt:=dF 29
abbrev tR:List Str:=["hall","rings","row","ring"]
theorem gj:av tR ["hall","rings"] (ak gA):=dD
abbrev eX:Stmt:=dF 30
abbrev lZ:List Str:=["hall","rings","one","row","ring","loose"]
theorem eV:av lZ ["hall","rings","one"] (ak eX):=dD
abbrev cB:Stmt:=dF 31
abbrev fD:List Str:=["rings","one","other","row","last","ring"]
theorem eW:av fD ["rings","one","other"] (ak cB):=dD
abbrev ii:Stmt:=dF 32
abbrev ti:List Str:=["hall","one","other","new"]
theorem qt:av ti ["hall","one","other"] (ak ii):=dD
abbrev pE:Stmt:=dF 33
abbrev D4:List Str:=["hall","one","other"]
theorem Cs:av D4 ["hall","one","other"] (ak pE):=dD
abbrev je:Stmt:=dF 34
abbrev vi:List Str:=["hall","one","other","row","hubless"]
theorem mI:av vi ["hall","one","other"] (ak je):=dD
abbrev iS:Stmt:=dF 36
abbrev wU:List Str:=["_law_script","_law_k"]
theorem vY:av wU ["_law_script","_law_k"] (ak iS):=dD
abbrev kH:Stmt:=dF 37
abbrev Ax:List Str:=["_law_found"]
theorem zh:av Ax ["_law_found"] (ak kH):=dD
abbrev m6:Stmt:=dF 38
abbrev BZ:List Str:=["_law_cell"]
theorem A9:av BZ ["_law_cell"] (ak m6):=dD
abbrev ky:Stmt:=dF 39
abbrev Aq:List Str:=["_law_cell","_law_many","_law_base","_law_left","_law_row_here","_law_count","_law_k","_law_now"]
theorem bT:av Aq ["_law_cell","_law_many","_law_base"] (ak ky):=dD
abbrev fP:Stmt:=dF 40
abbrev rA:List Str:=["_law_script","_law_start","_law_most","_law_base","_law_row_here","_law_cell","_law_drawn"]
theorem dH:av rA ["_law_script","_law_start","_law_most","_law_base"] (ak fP):=dD
abbrev kA:Stmt:=dF 41
abbrev As:List Str:=["_law_k","_law_cell","_law_left","_law_turn","_law_number"]
theorem hZ:av As ["_law_k","_law_cell"] (ak kA):=dD
abbrev pC:Stmt:=dF 42
abbrev D2:List Str:=["_law_one","_law_other"]
theorem Cp:av D2 ["_law_one","_law_other"] (ak pC):=dD
abbrev pA:Stmt:=dF 43
abbrev D1:List Str:=["_law_worn","_law_met","_law_deed_here","_law_guest_here"]
theorem vZ:av D1 ["_law_worn","_law_met","_law_deed_here"] (ak pA):=dD
abbrev km:Stmt:=dF 44
abbrev Ao:List Str:=["_law_worn","_law_met","_law_deed_here","_law_kept"]
theorem qu:av Ao ["_law_worn","_law_met","_law_deed_here"] (ak km):=dD
abbrev mU:Stmt:=dF 45
abbrev BS:List Str:=["_law_drawn","_law_many","_law_cell","_law_one"]
theorem tD:av BS ["_law_drawn","_law_many","_law_cell"] (ak mU):=dD
abbrev ku:Stmt:=dF 46
abbrev Ap:List Str:=["_law_cell"]
theorem zg:av Ap ["_law_cell"] (ak ku):=dD
abbrev fO:Stmt:=dF 47
abbrev lY:List Str:=["_law_script","_law_cell","_law_many","_law_first","_law_deeds_here"]
theorem fL:av lY ["_law_script"] (ak fO):=dD
abbrev iT:Stmt:=dF 48
abbrev wV:List Str:=["_law_script","_law_worn","_law_met","_law_story","_law_deed_here"]
theorem dP:av wV ["_law_script"] (ak iT):=dD
abbrev sd:Stmt:=dF 49
abbrev FH:List Str:=["_law_hall","_law_deed_here"]
theorem Ez:av FH ["_law_hall","_law_deed_here"] (ak sd):=dD
abbrev iU:Stmt:=dF 50
abbrev wW:List Str:=["_law_story","_law_hall","_law_deed_here"]
theorem iJ:av wW ["_law_story"] (ak iU):=dD
abbrev mY:Stmt:=dF 51
abbrev BW:List Str:=["_law_found"]
theorem A6:av BW ["_law_found"] (ak mY):=dD
abbrev kF:Stmt:=dF 52
abbrev xZ:List Str:=["_law_found"]
theorem Cr:av xZ ["_law_found"] (ak kF):=dD
abbrev kD:Stmt:=dF 53
abbrev Au:List Str:=["_law_row_here","_law_worn","_law_one","_law_other","_law_kept"]
theorem h8:av Au ["_law_row_here","_law_worn"] (ak kD):=dD
abbrev io:Stmt:=dF 54
abbrev tj:List Str:=["_law_worn"]
theorem zi:av tj ["_law_worn"] (ak io):=dD
abbrev kz:Stmt:=dF 55
abbrev Ar:List Str:=["_law_row_here","_law_worn","_law_met","_law_seen","_law_one","_law_other","_law_key_here"]
theorem fM:av Ar ["_law_row_here","_law_worn","_law_met"] (ak kz):=dD
abbrev mV:Stmt:=dF 56
abbrev BU:List Str:=["_law_row_here","_law_worn","_law_met"]
theorem A5:av BU ["_law_row_here","_law_worn","_law_met"] (ak mV):=dD
abbrev pD:Stmt:=dF 57
abbrev D3:List Str:=["_law_k","_law_cell"]
theorem Cq:av D3 ["_law_k","_law_cell"] (ak pD):=dD
abbrev m5:Stmt:=dF 58
abbrev BY:List Str:=["_law_found","_law_due_here"]
theorem A8:av BY ["_law_found","_law_due_here"] (ak m5):=dD
abbrev jr:Stmt:=dF 59
abbrev yG:List Str:=["_law_hall","_law_worn","_law_met","_law_story","_law_guest_here"]
theorem oK:av yG ["_law_hall","_law_worn","_law_met","_law_story"] (ak jr):=dD
abbrev mX:Stmt:=dF 60
abbrev BV:List Str:=["_law_state","_law_deeds_here","_law_worn","_law_met","_law_story","_law_deed_here"]
theorem gM:av BV ["_law_state","_law_deeds_here"] (ak mX):=dD
abbrev kE:Stmt:=dF 61
abbrev Av:List Str:=["_law_script","_law_cell","_law_deeds_here"]
theorem ic:av Av ["_law_script"] (ak kE):=dD
abbrev gY:Stmt:=dF 62
abbrev vk:List Str:=["_law_hall","_law_kind","_law_one","_law_other"]
theorem t9:av vk ["_law_hall","_law_kind","_law_one","_law_other"] (ak gY):=dD
abbrev gG:Stmt:=dF 63
abbrev qg:List Str:=["_law_row_here","_law_cell","_law_names","_law_place","_law_spare"]
theorem jm:av qg ["_law_row_here","_law_cell","_law_names"] (ak gG):=dD
abbrev kC:Stmt:=dF 64
abbrev At:List Str:=["_law_keeper","_law_plan","_law_state","_law_due_here","_law_left"]
theorem cF:av At ["_law_keeper","_law_plan"] (ak kC):=dD
abbrev kG:Stmt:=dF 65
abbrev Aw:List Str:=["_law_keeper","_law_row_here","_law_taken_here"]
theorem j9:av Aw ["_law_keeper","_law_row_here"] (ak kG):=dD
abbrev gz:Stmt:=dF 66
abbrev tQ:List Str:=["_law_worn","_law_met","_law_row_here","_law_place","_law_four"]
theorem gi:av tQ ["_law_worn","_law_met","_law_row_here","_law_place"] (ak gz):=dD
abbrev c8:Stmt:=dF 67
abbrev gS:List Str:=["_law_worn","_law_met","_law_row_here","_law_found","_law_guest_here","_law_calm"]
theorem dX:av gS ["_law_worn","_law_met","_law_row_here"] (ak c8):=dD
abbrev mZ:Stmt:=dF 68
abbrev BX:List Str:=["_law_a","_law_b","_law_c","_law_d"]
theorem A7:av BX ["_law_a","_law_b","_law_c","_law_d"] (ak mZ):=dD
abbrev Cw:Stmt:=dF 69
abbrev J5:List Str:=["_law_script","_law_worn","_law_met","_law_story","_law_hall","_law_cell","_law_keeper","_law_plan","_law_way","_law_drawn","_law_row_here","_law_good","_law_handed"]
theorem fb:av J5 ["_law_script"] (ak Cw):=dD
variable (T:LO mg)(U:HT K mg c)(VM:HM K c)(UO:JI K mg c co cq ck)
include T U VM UO
theorem tU (F:cG K "__init__" "NoGuest.__init__" gX f fd) : aZ P w K mg base bV 1 f fd ["self","guest"] (HB c.cN "guest"):=by
 refine F.ok t8 (fun vs H Q E h=>?_) (fun cdv A outer s H vs Q E hr h=>?_)
 ·obtain⟨ea,g,rfl,_⟩:=h
  rfl
 ·obtain⟨ea,g,rfl,hg,hx,k⟩:=h
  refine⟨_,ae (a6 (FR (fI:=c.fN) rfl U.mW U.wS U.wR U.wI (ao (pv 0) (ao (qm (dW (jY (pv 1)) (dW bh (vR)))) aD)))) (
   ah (F7 (pv 0) (pv 1) rfl)),?_⟩
  refine⟨_,rfl,_,rfl,g,rfl,hg,fun y hy=>⟨y,rfl,hy,_,rfl,by decide,fun z=>⟨ea,c.cN,_,rfl,hx,U.eN,?_⟩⟩⟩;exact⟨_,rfl,_,rfl,ea,c.cN,rfl,hx,U.gN,k⟩
theorem Ea (F:cG K "strays" "strays" nY f fd)(dy:aA P w K mg base bV c.C "guests" 1 ["self"] (mJ c.C))(a9:aA P w K mg base (ju P w) c.C "wears" 3 ["self","guest"] (jd c)) : aZ P w K mg base bV 4 f fd ["hall"] (mQ c):=by
 refine F.ok EA (fun vs H Q E h=>?_) (fun cdv A outer s H vs Q E hr h=>?_)
 ·obtain⟨p,B,st,rfl,_⟩:=h
  rfl
 ·obtain⟨p,B,st,rfl,S,G,h64,sm,k⟩:=h
  have hu:=bR hr;refine⟨_,ah (au (df (so:=ak nY) (N:=Az) (N':=["guest","hall"]) (src:=[none,some 0]) rfl rfl yj rfl (bi (f7 dy (pv 0) U.cl hr.m cP)) (fun cl C s2 H2 ex=>⟨iX 0 (show (["guest","hall"]:List Str).Nodup by decide +kernel),j5 (aB iE (dq a9 (pv 1) U.cl hr.m vL (dB (pv 0))) (pv 0) (aN _)),pv 0⟩))),?_⟩;have nos:∀ (B:HA)(m:Str),¬ m="worn"->¬ m="holders"->¬ m="circles"->¬ m="deeds"->(aS B).lookup m=none:=fun B m h1 h2 h3 h4=>u6 B h1 h2 h3 h4;have nG:∀ B:HA,(aS B).lookup ("guests" : Str)=none:=fun B=>pX B (by decide +kernel);have nM:∀ B:HA,(aS B).lookup ("moment" : Str)=none:=fun B=>pX B (by decide +kernel);have nI:∀ B:HA,(aS B).lookup ("inside" : Str)=none:=fun B=>pX B (by decide +kernel);have nS:∀ B:HA,(aS B).lookup ("story" : Str)=none:=fun B=>pX B (by decide +kernel);have nW:∀ B:HA,(aS B).lookup ("wears" : Str)=none:=fun B=>pX B (by decide +kernel);have nR:∀ B:HA,(aS B).lookup ("wearer" : Str)=none:=fun B=>pX B (by decide +kernel);have nT:∀ B:HA,(aS B).lookup ("met" : Str)=none:=fun B=>pX B (by decide +kernel);have nP:∀ B:HA,(aS B).lookup ("pairs" : Str)=none:=fun B=>pX B (by decide +kernel);have nQ:∀ B:HA,(aS B).lookup ("partners" : Str)=none:=fun B=>pX B (by decide +kernel)
  have two:(2:Nat)<=sizeLine:=by decide
  have nil0:(0:Nat)<=sizeLine:=MD _
  have dkk:∀ wl:List (Int×Int),(dk wl).map (·.1)=(aq wl).map Sum.inl:=fun wl=>by unfold dk aq;rw[M8,M8];rfl
  have ksl:(bn (aq st.worn)).length<64:=by rw[ir,lX];exact h64
  have ksm:∀ g,g∈bn (aq st.worn)↔g∈aq st.worn:=fun g=>f6;refine⟨_,rfl,p,B.dx,_,rfl,S.ob,nG B,p,B,_,rfl,S,h64,fun lg hlg=>?_⟩;have sg:=ag (o:=.lst ((bn (aq st.worn)).map V.int)) hlg;have hg1:upd H lg (.lst ((bn (aq st.worn)).map V.int)) lg=some (.lst ((bn (aq st.worn)).map V.int)):=ac;generalize upd H lg (.lst ((bn (aq st.worn)).map V.int))=H1 at sg hg1 ⊢;refine⟨lg,rfl,⟨_,aW.of hg1⟩,fun lm hlm=>?_⟩;have ew:aU st.worn=(bn (aq st.worn)).filter fun g=>decide (wr st.worn g≠g):=rfl;rw[ew]at k;generalize bn (aq st.worn)=ks at hg1 ksl ksm k
  refine a5 (K:=K) (a:=lg) (xs:=ks.map V.int) (fun i σ HH=>∃ v:Option V,σ=[v,some (.ref p)]/\ax H1 HH/\HH lm=some (.lst (((ks.take i).filter fun g=>decide (wr st.worn g≠g)).map V.int)))
   ⟨none,rfl,ag hlm,ac⟩ (fun i σ HH _ ⟨_,_,s,_⟩=>aW.of (s _ _ hg1)) ?_ ?_
  ·rintro i y σ HH hi ⟨v,rfl,s2,hm2⟩
   obtain⟨g,hg,rfl⟩:=bg hi;have hil:i<ks.length:=(List.getElem?_eq_some_iff.mp hg).1;have gk:=(ksm g).mp (MA hg);have S2:=(S.mono sg).mono s2
   have tk:ks.take (i+1)=ks.take i++[g]:=by rw[MG,hg,ML]
   have ll:((ks.take i).filter fun g=>decide (wr st.worn g≠g)).length<=64:=MZ (NE _ _) (by rw[Mz];omega);refine pF ⟨_,rfl,p,B.dx,_,rfl,S2.ob,nW B,_,rfl,p,B,st,g,rfl,S2,sm g gk,?_⟩;rw[jW gk];refine⟨_,rfl,rfl,_,rfl,?_⟩
   by_cases hm:wr st.worn g=g
   ·rw[show (!decide (V.int (wr st.worn g)=V.int g))=false by rw[hm];simp]
    refine aV ⟨_,rfl,s2,?_⟩
    have fg:List.filter (fun g=>decide (wr st.worn g≠g)) [g]=[]:=by rw[List.filter_cons,Mg (fun z=>(Nl z) hm)];rfl
    rw[tk,M5,fg];simpa using hm2
   ·rw[show (!decide (V.int (wr st.worn g)=V.int g))=true by simpa using hm]
    refine bA ⟨_,rfl,_,hm2,by rw[Me];exact aw (by omega),?_⟩;refine⟨_,rfl,aR s2 hlm,?_⟩
    have fg:List.filter (fun g=>decide (wr st.worn g≠g)) [g]=[g]:=by rw[List.filter_cons,Mi (Mp hm)];rfl
    rw[ac,tk,M5,fg,Mr];rfl
  ·rintro σ HH ⟨v,rfl,s2,hm2⟩
   rw[Me,MI]at hm2;exact k lm HH (sg.free hlm) (sg.trans s2) hm2
theorem y0 (F:cG K "ring_with" "ring_with" kI f fd)(a9:aA P w K mg base (ju P w) c.C "wears" 3 ["self","guest"] (jd c)) : aZ P w K mg base (ju P w) 5 f fd ["hall","guest"] (qH c):=by
 refine F.okX ie (fun vs H Q E h=>?_) (fun cdv A outer s H vs Q E hr h=>?_)
 ·obtain⟨p,B,st,g,rfl,_⟩:=h
  rfl
 ·obtain⟨p,B,st,g,rfl,S,G,h64,smk,sm,k⟩:=h
  have hu:=bR hr
  refine⟨_,ae (bt 2 ie.nd (c6 (dB (pv 1)))) (
   ae (bt 3 ie.nd (dq a9 (pv 0) U.cl hr.m gC (dB (pv 1)))) (
   ae (F8 PassesOwn.leaving (aB iE (pv 3) (pv 1) (aN _)) (ae (a6 (eB MM MS MT bM (pv 2) (dB (pv 3)))) (
   ah (bt 3 ie.nd (dq a9 (pv 0) U.cl hr.m gC (dB (pv 3))))))) (
   ah (au (pv 2))))),?_⟩
  have nW:(aS B).lookup ("wears" : Str)=none:=pX B (by decide +kernel);refine⟨_,rfl,by show 1<=sizeLine;decide,fun l hl=>?_⟩;have s1:=ag (o:=.lst [V.int g]) hl;have hl1:upd H l (.lst [V.int g]) l=some (.lst ((aE (wr st.worn) g 1).map V.int)):=ac;generalize upd H l (.lst [V.int g])=H1 at s1 hl1 ⊢;have S1:=S.mono s1;refine⟨_,rfl,p,B.dx,_,rfl,S1.ob,nW,_,rfl,p,B,st,g,rfl,S1,sm,?_⟩
  by_cases hg:g∈aq st.worn
  ·have P:=dt G
   have R:=P.ring hg;have ol:=P.ord_le hg;rw[Mi (bd.mpr hg)]at k;rw[jW hg];unfold c7 at k;generalize pe (wr st.worn) st.worn.length g=M at R k ol;have i1:iter (wr st.worn) 1 g=wr st.worn g:=rfl;rw[<-i1];refine⟨fun n σ HH=>∃ i,n=M-i/\1<=i/\i<=M/\σ=[some (.ref p),some (.int g),some (.ref l),some (.int (iter (wr st.worn) i g))]/\ax H HH/\HH l=some (.lst ((aE (wr st.worn) g i).map V.int)),⟨_,1,rfl,Mn _,R.1,rfl,s1,hl1⟩,?_⟩;rintro n σ HH ⟨i,rfl,h1,hM,rfl,s2,hl2⟩;refine⟨_,rfl,_,rfl,rfl,_,rfl,?_⟩
   by_cases e:iter (wr st.worn) i g=g
   ·rw[show (!decide (V.int (iter (wr st.worn) i g)=V.int g))=false by rw[e];simp]
    have:i=M:=by
     by_cases hlt:i<M
     ·exact absurd e (R.2.2 i (by omega) hlt)
     ·omega
    rw[this]at hl2;exact aV ⟨_,rfl,k l HH hl s2 hl2⟩
   ·rw[show (!decide (V.int (iter (wr st.worn) i g)=V.int g))=true by simpa using e]
    have hlt:i<M:=by
     by_cases hlt:i<M
     ·exact hlt
     ·have:i=M:=by omega
      rw[this]at e;exact absurd R.2.1 e
    have ik:iter (wr st.worn) i g∈aq st.worn:=ni P.cl hg i;refine bA ⟨fun σ' H'=>σ'=[some (.ref p),some (.int g),some (.ref l),some (.int (iter (wr st.worn) (i+1) g))]/\ax H H'/\H' l=some (.lst ((aE (wr st.worn) g (i+1)).map V.int)),fun σ' H' ⟨a1,a2,a3⟩=>⟨M-(i+1),by omega,i+1,rfl,by omega,by omega,a1,a2,a3⟩,?_⟩;refine⟨_,rfl,.inl ⟨rfl,_,aW.of hl2⟩,_,rfl,l,_,_,rfl,rfl,hl2,by rw[Me,b6];exact aw (by omega),?_⟩;have s3:ax H (upd HH l (.lst ((aE (wr st.worn) g i).map V.int++[V.int (iter (wr st.worn) i g)]))):=aR s2 hl
    have hl3:upd HH l (.lst ((aE (wr st.worn) g i).map V.int++[V.int (iter (wr st.worn) i g)])) l=some (.lst ((aE (wr st.worn) g (i+1)).map V.int)):=by rw[ac,pj,Mr];rfl
    generalize upd HH l (.lst ((aE (wr st.worn) g i).map V.int++[V.int (iter (wr st.worn) i g)]))=H3 at s3 hl3 ⊢;have S3:=S.mono s3;refine⟨_,rfl,p,B.dx,_,rfl,S3.ob,nW,_,rfl,p,B,st,_,rfl,S3,smk _ ik,?_⟩;rw[jW ik];exact⟨rfl,s3,hl3⟩
  ·have en:look st.worn g=none:=by
    cases e:look st.worn g with
    | none=>rfl
    | some m=>exact absurd (bd.mp (by rw[e];rfl)) hg
   rw[Mg (by rw[en];simp)]at k;rw[en];exact fun dx H' s hx=>k dx H' (s1.trans s) hx
theorem AN (F:cG K "rings_of" "rings_of" m7 f fd)(Cstrays:ar P w K mg base "strays" 4 ["hall"] (mQ c))(Cring_with:eR P w K mg base "ring_with" 5 ["hall","guest"] (qH c)) : aZ P w K mg base bV 6 f fd ["hall"] (kh c):=by
 refine F.ok fj (fun vs H Q E h=>?_) (fun cdv A outer s H vs Q E hr h=>?_)
 ·obtain⟨p,B,st,rfl,_⟩:=h
  rfl
 ·obtain⟨p,B,st,rfl,S,G,h64,smk,k⟩:=h
  have hu:=bR hr;have nil0:(0:Nat)<=sizeLine:=MD _
  refine⟨_,ae (bt 1 fj.nd (Cg DB (by rfl) T.bset PyProof.Rows.boot_set)) (
   ae (bt 2 fj.nd (c6 aD)) (
   ae (cL M9 rfl (bi (aO Cstrays hr.m rfl (dB (pv 0)))) (iX 3 fj.nd) (ah (a7 (aB Ef (pv 3) (pv 1) rfl) (ae (bt 4 fj.nd (y9 Cring_with hr.m rfl vL (c9 (pv 0) (pv 3)))) (
   ae (cL M9 rfl (bi (pv 4)) (iX 5 fj.nd) (ah (a6 (eB PySem.F.plainAttrs_set PySem.F.slot_set_add PySem.F.type_set_add Hg (pv 1) (dB (pv 5)))))) (
   ah (a6 (eB MM MS MT bM (pv 2) (dB (pv 4))))))) (ay)))) (
   ah (au (pv 2))))),?_⟩
  have P:=dt G;obtain⟨w1,w2,w3,w4⟩:=P.wrong;refine⟨rfl,fun lp hlp=>?_⟩;have sA:=ag (o:=.set (fun _=>false) 0) hlp;have hp1:upd H lp (.set (fun _=>false) 0) lp=some (.set (fun _=>false) 0):=ac;generalize upd H lp (.set (fun _=>false) 0)=H1 at sA hp1 ⊢;refine⟨nil0,fun lr hlr=>?_⟩;have sB:=ag (o:=.lst []) hlr;have lr0:H lr=none:=sA.free hlr;have hr1:upd H1 lr (.lst []) lr=some (.lst (([]:List Addr).map V.ref)):=ac;have hp2:=sB _ _ hp1;generalize upd H1 lr (.lst [])=H2 at sB hr1 hp2 ⊢;refine⟨_,rfl,p,B,st,rfl,(S.mono sA).mono sB,G,h64,smk,fun ls H3 hls s3 h3=>?_⟩;have lplr:lp≠lr:=bE hp2 hr1 (by intro z;cases z)
  have lsr:ls≠lr:=fun z=>by rw[z,hr1]at hls;cases hls
  have lsp:ls≠lp:=fun z=>by rw[z,hp2]at hls;cases hls
  refine⟨ls,rfl,⟨_,aW.of h3⟩,a5 (K:=K) (a:=ls) (xs:=(aU st.worn).map V.int) (fun i σ HH=>∃ (Sf:Int->Bool)(n:Nat)(as:List Addr)(v3 v4 v5:Option V),σ=[some (.ref p),some (.ref lp),some (.ref lr),v3,v4,v5]/\ax H HH/\HH ls=some (.lst ((aU st.worn).map V.int))/\HH lp=some (.set Sf n)/\(∀ y,Sf y=decide (y∈(qR st.worn i).1))/\n<=(qR st.worn i).1.length /\
    HH lr=some (.lst (as.map V.ref))/\Paired (fun a (r:List Int)=>HH a=some (.lst (r.map V.int))) as (qR st.worn i).2/\(∀ a∈as,H a=none)/\lr∉as)
   ⟨_,0,[],none,none,none,rfl,(sA.trans sB).trans s3,h3,s3 _ _ hp2,fun y=>rfl,Mn _,s3 _ _ hr1,.nil,(fun a h=>nomatch h),(fun h=>nomatch h)⟩ (fun i σ HH _ ⟨_,_,_,_,_,_,_,_,h,_⟩=>aW.of h) ?_ ?_⟩
  ·rintro i y σ HH hi ⟨Sf,n,as,v3,v4,v5,rfl,s4,hls4,hp4,hS4,hn4,hr4,hpa,has,hnr⟩
   obtain⟨g,hg,rfl⟩:=bg hi;have hil:i<(aU st.worn).length:=(List.getElem?_eq_some_iff.mp hg).1;obtain⟨gk,gw⟩:=w1 g (MA hg);obtain⟨q1,q2,q3,q4,q5⟩:=Ie P i;have qn:=Hu hg;have lpa:=Mo hpa;refine⟨_,rfl,_,rfl,lp,Sf,n,g,rfl,rfl,hp4,_,rfl,?_⟩;rw[hS4]
   by_cases hq:g∈(qR st.worn i).1
   ·rw[Mp hq]
    have e:qR st.worn (i+1)=qR st.worn i:=by rw[qn];unfold wq;rw[Mi hq]
    refine aV ⟨Sf,n,as,_,_,_,rfl,s4,hls4,hp4,?_,?_,hr4,?_,has,hnr⟩
    ·rw[e];exact hS4
    ·rw[e];exact hn4
    ·rw[e];exact hpa
   ·rw[Mx hq]
    have e:qR st.worn (i+1)=((qR st.worn i).1++c7 (wr st.worn) st.worn.length g,(qR st.worn i).2++[c7 (wr st.worn) st.worn.length g]):=by rw[qn];unfold wq;rw[Mg hq]
    refine bA ⟨_,rfl,_,rfl,p,B,st,g,rfl,S.mono s4,G,h64,smk,smk g gk,?_⟩;rw[Mi (bd.mpr gk)];intro l H5 hl s5 h5
    have rl:(c7 (wr st.worn) st.worn.length g).length<=st.worn.length:=by rw[iq];exact P.ord_le gk
    generalize c7 (wr st.worn) st.worn.length g=r at e h5 rl
    have llr:l≠lr:=fun z=>by rw[z,hr4]at hl;cases hl
    have llp:l≠lp:=fun z=>by rw[z,hp4]at hl;cases hl
    refine⟨_,rfl,l,rfl,⟨_,aW.of h5⟩,a5 (K:=K) (a:=l) (xs:=r.map V.int) (fun j σ HK=>∃ (Sg:Int->Bool)(n':Nat)(v5:Option V),σ=[some (.ref p),some (.ref lp),some (.ref lr),some (.int g),some (.ref l),v5]/\HK lp=some (.set Sg n')/\(∀ y,Sg y=decide (y∈(qR st.worn i).1++r.take j))/\n'<=(qR st.worn i).1.length+j/\(∀ b o,H5 b=some o->b≠lp->HK b=some o))
     ⟨Sf,n,_,rfl,s5 _ _ hp4,(fun y=>by rw[List.take_zero,NQ];exact hS4 y),hn4,fun b o z _=>z⟩ (fun j σ HK _ ⟨_,_,_,_,_,_,_,kk⟩=>aW.of (kk _ _ h5 llp)) ?_ ?_⟩
    ·rintro j y σ HK hj ⟨Sg,n',v5,rfl,hp6,hS6,hn6,kk⟩
     obtain⟨x,hx,rfl⟩:=bg hj;have hjl:j<r.length:=(List.getElem?_eq_some_iff.mp hx).1;refine⟨_,rfl,.inr (.inr (.inr ⟨rfl,Sg,n',hp6⟩)),_,rfl,lp,Sg,n',x,rfl,rfl,hp6,by omega,?_⟩;refine⟨_,_,_,rfl,ac,fun y=>?_,?_,fun b o z nb=>by rw[af nb];exact kk b o z nb⟩
     ·rw[hS6,MG,hx,ML,<-Nf,<-Bool.decide_or]
      congr 1
      rw[Ml (s:=(qR st.worn i).1++r.take j),Mv]
     ·split<;>omega
    ·rintro σ HK ⟨Sg,n',v5,rfl,hp6,hS6,hn6,kk⟩
     rw[Me]at hn6;have hr6:=kk _ _ (s5 _ _ hr4) (ME lplr);refine⟨_,rfl,.inl ⟨rfl,_,aW.of hr6⟩,_,rfl,lr,_,_,rfl,rfl,hr6,by rw[Me];exact aw (by omega),?_⟩
     have up:∀ b o,HK b=some o->b≠lr->upd HK lr (.lst (as.map V.ref++[V.ref l])) b=some o:=fun b o z nb=>by rw[af nb];exact z
     refine⟨Sg,n',as++[l],_,_,_,rfl,fun b o z=>up b o (kk b o ((s4.trans s5) b o z) (aj z hlp)) (aj z lr0),up _ _ (kk _ _ (s5 _ _ hls4) lsp) lsr,up _ _ hp6 lplr,fun y=>?_,?_,by rw[ac,Mr];rfl,?_,fun a ha=>?_,fun z=>?_⟩
     ·rw[hS6,e,Me,MI]
     ·rw[e];show n'<=((qR st.worn i).1++r).length;rw[Mj];exact hn6
     ·rw[e]
      refine aJ (Wz.Paired.mapP' hpa fun a q ha z=>up a _ (kk a _ (s5 _ _ z) (bE z hp4 (by intro q;cases q))) fun q=>hnr (by rw[<-q];exact ha)) (.cons (up _ _ (kk _ _ h5 llp) llr) .nil)
     ·rcases Ml.mp ha with z | z
      ·exact has a z
      ·rw[Mv.mp z];exact s4.free hl
     ·rcases Ml.mp z with z | z
      ·exact hnr z
      ·exact llr (Mv.mp z).symm
  ·rintro σ HH ⟨Sf,n,as,v3,v4,v5,rfl,s4,hls4,hp4,hS4,hn4,hr4,hpa,has,hnr⟩
   rw[F9 st.worn (by rw[Me];exact Mn _)]at hpa;exact⟨_,rfl,k lr as HH lr0 s4 hr4 hpa has⟩
theorem yZ (F:cG K "ring_home" "ring_home" ip f fd) : aZ P w K mg base bV 2 f fd ["ring"] kg:=by
 refine F.ok zj (fun vs H Q E h=>?_) (fun cdv A outer s H vs Q E hr h=>?_)
 ·obtain⟨l,r,rfl,_⟩:=h
  rfl
 ·obtain⟨l,r,rfl,hl,hne,hlen,k⟩:=h
  have two:(2:Nat)<=sizeLine:=by decide
  refine⟨_,ah (au (df (so:=ak ip) (N:=tp) (N':=["other","ring"]) (src:=[none,some 0]) rfl rfl yj rfl (bi (bI b8 (pv 0) (bS (am)) cm)) (fun cl C s2 H2 ex=>⟨iX 0 (show (["other","ring"]:List Str).Nodup by decide +kernel),dh,bo (c9 (bv (Aa K) (pv 1) (am) (fun _ _=>rfl)) (pv 0))⟩))),?_⟩;obtain⟨g,r,rfl⟩:=List.exists_cons_of_ne_nil hne;refine⟨_,rfl,_,rfl,l,_,rfl,aW.of hl,fun q hq=>?_⟩;rw[EV,show ((g::r).map V.int).drop 1=r.map V.int from rfl];have s1:=ag (o:=.lst (r.map V.int)) hq;have hq1:upd H q (.lst (r.map V.int)) q=some (.lst (r.map V.int)):=ac;generalize upd H q (.lst (r.map V.int))=H1 at s1 hq1 ⊢;refine⟨q,rfl,⟨_,aW.of hq1⟩,fun l2 hl2=>?_⟩
  refine a5 (K:=K) (a:=q) (xs:=r.map V.int) (fun i σ HH=>∃ v:Option V,σ=[v,some (.ref l)]/\ax H1 HH/\aY HH l2 ((r.take i).map fun x=>(g,x)))
   ⟨none,rfl,ag hl2,⟨[],ac,.nil⟩⟩ (fun i σ HH _ ⟨_,_,s,_⟩=>aW.of (s _ _ hq1)) ?_ ?_
  ·rintro i y σ HH hi ⟨v,rfl,s2,⟨as,ha,hp⟩⟩
   obtain⟨x,hx,rfl⟩:=bg hi;have hil:i<r.length:=(List.getElem?_eq_some_iff.mp hx).1;have hal:=Mo hp;rw[Me,Mz]at hal;rw[MX]at hlen;refine gH ⟨_,rfl,l,_,_,_,rfl,rfl,aW.of ((s1.trans s2) _ _ hl),fz (j:=0) rfl,_,rfl,two,fun t ht=>⟨_,by rw[af (aj ha ht)];exact ha,by rw[Me];exact aw (by omega),?_⟩⟩;have tl:t≠l2:=ME (aj ha ht);refine⟨_,rfl,aR (s2.trans (ag ht)) hl2,as++[t],by rw[ac,Mr];rfl,?_⟩;rw[MG,hx,ML,Mr];refine aJ (Paired.mapP hp fun b q e=>?_) (.cons (by rw[af tl,ac]) .nil);rw[af (bE e ha (by intro z;cases z)),af (aj e ht)];exact e
  ·rintro σ HH ⟨v,rfl,s2,row⟩
   rw[Me,MI]at row;exact k l2 HH (s1.free hl2) (s1.trans s2) row
theorem vB (F:cG K "hall_behind" "hall_behind" iR f fd)(lN:aA P w K mg base bV c.C "twin" 3 ["self"] (zA c.C))(cz:aA P w K mg base (ju P w) c.C "exchange" 4 ["self","one","other"] (v8 c)) : aZ P w K mg base (ju P w) 5 f fd ["hall","row"] (zn c):=by
 refine F.okX fK (fun vs H Q E h=>?_) (fun cdv A outer s H vs Q E hr h=>?_)
 ·obtain⟨p,l,B,es,ps,L,rfl,_⟩:=h
  rfl
 ·obtain⟨p,l,B,es,ps,L,rfl,S,row,⟨dn,len,hL,nm,smL⟩,k⟩:=h
  have hu:=bR hr
  refine⟨_,ae (bt 2 fK.nd (f7 lN (pv 0) U.cl hr.m cP)) (
   ae (cL PassesOwn.leaving rfl (bi (pv 1)) (rO rfl (cD (iX 3 fK.nd) (cD (iX 4 fK.nd) nE))) (ah (a6 (dq cz (pv 2) U.cl hr.m gC (c9 (pv 3) (pv 4)))))) (
   ah (au (pv 2)))),?_⟩
  have P:=iG dn (fun d hd=>nm d (Nk _ hd)) es.length;rw[MI]at P;rw[Mj,Me]at len;have nT:(aS B).lookup ("twin" : Str)=none:=pX B (by decide +kernel);refine⟨_,rfl,p,B.dx,_,rfl,S.ob,nT,p,B,az es,rfl,S,P.ci.kn,by have:=P.ci.kk;omega,fun x B1 H1 nx S1 fr1 s1=>?_⟩;have E1:Ev c H H1 x B1 (az es):=⟨s1,S1,P.good,fr1⟩;obtain⟨qs,hq,hqp⟩:=id row;have hql:=Mo hqp
  refine⟨_,rfl,l,rfl,⟨_,aW.of (E1.same _ _ hq)⟩,a5 (K:=K) (a:=l) (xs:=qs.map V.ref) (fun i σ HH=>∃ (B2:HA)(v w:Option V),σ=[some (.ref p),some (.ref l),some (.ref x),v,w]/\Ev c H HH x B2 (az (es++(ps.take i).map eF))/\bW (es++(ps.take i).map eF)/\jy (az es) ps=jy (az (es++(ps.take i).map eF)) (ps.drop i))
   ⟨B1,none,none,rfl,by simpa using E1,by simpa using dn,by simp⟩ (fun i σ HH _ ⟨_,_,_,_,E,_⟩=>aW.of (E.same _ _ hq)) ?_ ?_⟩
  ·rintro i y σ HH hi ⟨B2,v,w,rfl,E,di,ek⟩
   obtain⟨b,hb,rfl⟩:=bg hi;obtain⟨e,he,hB⟩:=paired_get hqp hb;have hbK:=E.same _ _ hB;have il:=(List.getElem?_eq_some_iff.mp he).1;have hnm:=nm (eF e) (MC _ (List.mem_map_of_mem (f:=eF) (MA he)))
   have Pi:=iG di (fun d hd=>nm d (by
    rcases Ml.mp hd with z | z
    ·exact Nk _ z
    ·rw[Nu]at z;exact MC _ (Na z))) (es++(ps.take i).map eF).length
   rw[MI]at Pi;have ft:=Fb Pi.good Pi.of (by omega) Pi.sz (by rw[Mj,Me,Mz];omega);have nX:(aS B2).lookup ("exchange" : Str)=none:=pX B2 (by decide +kernel);have ed:=DA (st:=az (es++(ps.take i).map eF)) he;rw[<-ek]at ed;have en:=Gu (es:=es) he;refine⟨b,_,rfl,eZ.of hbK,rfl,_,_,rfl,_,_,rfl,rfl,?_⟩;refine⟨_,rfl,x,B2.dx,_,rfl,E.hall.ob,nX,_,rfl,_,rfl,x,B2,_,e.1,e.2,rfl,E.hall,ft,(hnm _ (by simp[eF,names])).2,(hnm _ (by simp[eF,names])).2,?_⟩;unfold wD
   show if ba _ (eF e)=.done then _ else lP c _ _ (ba _ (eF e))
   by_cases hj:ba (az (es++(ps.take i).map eF)) (eF e)=.done
   ·rw[Mi hj]
    rw[Mi hj,dM hj,<-en]at ed;intro H2 mv;have g2:=qZ E.good (d:=eF e) (fun g hg=>(hnm g hg).2)
    have mv2:uN c.C HH x B2 (cO (az (es++(ps.take i).map eF)) (eF e)) H2:=by unfold cO;rw[Mi hj];exact mv
    obtain⟨B',E2,_⟩:=E.moved mv2 g2;rw[dM hj,<-en]at E2;exact⟨B',_,_,rfl,E2,by rw[en];exact cj di hj,ed⟩
   ·rw[Mg hj]
    rw[Mg hj]at ed;rw[ed,Mg hj]at k;exact El k E.same
  ·rintro σ HH ⟨B2,v,w,rfl,E,di,ek⟩
   rw[Me,hql,List.drop_length]at ek;rw[Mi (show jy (az es) ps=.done from ek)]at k;rw[Me,hql,MI]at E;exact⟨_,rfl,k x B2 HH nx E⟩
theorem xc (F:cG K "sends_home" "sends_home" jt f fd)(Chall_behind:eR P w K mg base "hall_behind" 5 ["hall","row"] (zn c))(Cstrays:ar P w K mg base "strays" 4 ["hall"] (mQ c)) : aZ P w K mg base bV 6 f fd ["hall","row"] (mO c):=by
 refine F.ok oN (fun vs H Q E h=>?_) (fun cdv A outer s H vs Q E hr h=>?_)
 ·obtain⟨p,l,B,es,ps,L,rfl,_⟩:=h
  rfl
 ·obtain⟨p,l,B,es,ps,L,rfl,S,row,ok,k⟩:=h
  have hu:=bR hr;have nil0:(0:Nat)<=sizeLine:=MD _
  refine⟨_,ae (Lm (i:=2) Chall_behind hr.m rfl (c9 (pv 0) (pv 1)) rfl rfl oN.nd rfl (Or.inl rfl) (Hq rfl U.mN rfl U.mS rfl U.mT (fun ea oe=>ah (au (d9))) FX)) (
   ah (au (nA (Cf 1 (Fl hr (by decide))) (aO Cstrays hr.m rfl (dB (pv 2))) (c6 aD) (aN _)))),?_⟩
  refine⟨_,rfl,_,rfl,p,l,B,es,ps,L,rfl,S,row,ok,?_⟩
  by_cases hb:jy (az es) ps=.done
  ·rw[Mi hb]
   intro x B1 H1 nx E;obtain⟨dn,len,hL,nm,smL⟩:=ok;have P:=iG (CH ps es dn hb) nm (es++ps.map eF).length;rw[MI]at P;have lno:=rD P.good P.of;have smk:∀ g∈aq (az (es++ps.map eF)).worn,bj g:=fun g hg=>smL g (P.of.1 g hg);refine⟨_,rfl,x,B1,_,rfl,E.hall,E.good,by omega,smk,fun lw H2 hlw s2 h2=>⟨nil0,fun l9 hl9=>?_⟩⟩;have s3:=ag (o:=.lst []) hl9;refine⟨lw,l9,_,_,rfl,rfl,ja (aW.of (s3 _ _ h2)),ja (ns:=[]) (aW.of ac),fun b hb2=>?_⟩;rw[show (if false=true then !b else b)=b from rfl];exact k b _ ((E.same.trans s2).trans s3) ⟨fun z=>⟨hb,md.mp (hb2.mp z)⟩,fun z=>hb2.mpr (md.mpr z.2)⟩
  ·rw[Mg hb]
   have no:∀ H2,ax H H2->Q (.bl false) H2:=fun H2 s2=>k false H2 s2 ⟨fun z=>(by cases z),fun z=>absurd z.1 hb⟩
   cases ej:jy (az es) ps with
   | done=>exact absurd ej hb
   | already=>exact absurd ej (yg ps _).1
   | masked=>exact absurd ej (yg ps _).2
   | same =>
    intro H2 s2;exact⟨_,yl UO.sn VM.ss UO.st,bA (no H2 s2)⟩
   | met =>
    intro H2 s2;exact⟨_,yl UO.tn VM.ts VM.tt,bA (no H2 s2)⟩
   | noguest g =>
    intro dx H2 s2 hx;exact⟨_,yl VM.nn VM.ns VM.nt,bA (no H2 s2)⟩
theorem vz (F:cG K "__init__" "Keeper.__init__" iP f fd) : aZ P w K mg base bV 1 f fd ["self","hall"] (zv ck):=by
 refine F.ok vW (fun vs H Q E h=>?_) (fun cdv A outer s H vs Q E hr h=>?_)
 ·obtain⟨k,dx,p,rfl,_⟩:=h
  rfl
 ·obtain⟨k,dx,p,rfl,hk,q⟩:=h
  refine⟨_,ae (e9 (pv 0) (pv 1) rfl) (
   ae (e9 (pv 0) (fG) rfl) (
   ae (e9 (pv 0) (am) rfl) (
   ah (e9 (pv 0) (fG) rfl)))),?_⟩
  refine⟨_,rfl,_,rfl,k,ck,dx,[],rfl,hk,UO.k.cl,UO.k.nH,(by show 0<1000;decide),?_⟩;refine⟨_,rfl,k,ck,dx,_,rfl,ac,UO.k.cl,UO.k.nP,(by show 1<1000;decide),?_⟩;refine⟨_,rfl,k,ck,dx,_,rfl,ac,UO.k.cl,UO.k.nD,(by rw[HY];show 2<1000;decide),?_⟩;refine⟨_,rfl,k,ck,dx,_,rfl,ac,UO.k.cl,UO.k.nB,(by rw[J2];show 3<1000;decide),?_⟩;rw[fR,fR,fR,xR];exact q
theorem tS (F:cG K "stand" "Keeper.stand" gU f fd)(Csends_home:ar P w K mg base "sends_home" 6 ["hall","row"] (mO c)) : aZ P w K mg base (ju P w) 7 f fd ["self","row"] (qD c ck co):=by
 refine F.okX tZ (fun vs H Q E h=>?_) (fun cdv A outer s H vs Q E hr h=>?_)
 ·obtain⟨k,r,D,s,B,es,ps,L,rfl,_⟩:=h
  rfl
 ·obtain⟨k,r,D,s,B,es,ps,L,rfl,I,row,ok,len,q1,q2⟩:=h
  have hu:=bR hr
  refine⟨_,ae (a7 (fH (eJ (aO Csends_home hr.m rfl (c9 (bC (pv 0) rfl) (pv 1))))) (ah (mz UO.e gK rfl hr.hd rfl UO.m (bh))) (ay)) (
   ae (e9 (pv 0) (dC dR (by rfl) T.list NC (dB (pv 1))) rfl) (
   ae (e9 (pv 0) (am) rfl) (
   ah (e9 (pv 0) (fG) rfl)))),?_⟩
  refine⟨_,rfl,k,ck,D.dx,_,_,rfl,I.kp.ob,UO.k.cl,UO.k.nH,CU,_,rfl,D.p,r,B,es,ps,L,rfl,I.hall,row,ok,fun b H1 s1 hb=>⟨_,rfl,?_⟩⟩
  cases b with
  | false=>exact bA (q2 (fun z=>by have:=hb.mpr z;cases this) H1 s1)
  | true =>
   have q1:=q1 (hb.mp rfl);have K1:=I.kp.mono s1;obtain⟨as,h1,h2⟩:=row.mono s1;refine aV ⟨_,rfl,r,_,rfl,.inl (aW.of h1),fun pl hpl=>?_⟩;have g2:=ag (o:=.lst (as.map V.ref)) hpl;have r2:aY (upd H1 pl (.lst (as.map V.ref))) pl ps:=⟨as,ac,Paired.mapP h2 fun b e z=>g2 _ _ z⟩;have K2:=K1.mono g2;have s2:=s1.trans g2;have hpl0:=s1.free hpl;generalize upd H1 pl (.lst (as.map V.ref))=H2 at g2 r2 K2 s2 ⊢;refine⟨_,rfl,k,ck,D.dx,_,rfl,K2.ob,UO.k.cl,UO.k.nP,(by show 4<1000;decide),?_⟩;rw[show Ft D s=ug _ _ _ _ from rfl,DT];refine⟨_,rfl,k,ck,D.dx,_,rfl,ac,UO.k.cl,UO.k.nD,(by show 4<1000;decide),?_⟩;rw[Ab];refine⟨_,rfl,k,ck,D.dx,_,rfl,ac,UO.k.cl,UO.k.nB,(by show 4<1000;decide),?_⟩;rw[wH,fR,fR];obtain⟨as2,h3,h4⟩:=id r2
   have nk:∀ {b:Addr}{o:HO},H2 b=some o->(∀ C dx fs,o≠.ins C dx fs)->b≠k:=fun e n z=>by rw[z,K2.ob]at e;exact n _ _ _ (Mu e).symm
   refine q1 pl _ hpl0 ⟨ac,fun qs e=>?_,fun qs e=>?_⟩ (fun b o e n=>by rw[af n];exact s2 _ _ e) (fun b o e=>?_)
   ·cases e
    exact⟨as2,by rw[af (nk h3 (by intro _ _ _ z;cases z))];exact h3,Paired.mapP h4 fun b e z=>by rw[af (nk z (by intro _ _ _ z;cases z))];exact z⟩
   ·cases e;exact⟨MD _,len⟩
   ·by_cases z:b=k
    ·rw[z];exact⟨_,ac⟩
    ·rw[af z];exact⟨o,s2 _ _ e⟩
theorem tT (F:cG K "state" "Keeper.state" gW f fd) : aZ P w K mg base bV 1 f fd ["self"] (nU ck):=by
 refine F.ok t7 (fun vs H Q E h=>?_) (fun cdv A outer s H vs Q E hr h=>?_)
 ·obtain⟨k,B,s,rfl,_⟩:=h
  rfl
 ·obtain⟨k,B,s,rfl,S,q⟩:=h
  refine⟨_,ae (a7 (eI (y4 (bC (pv 0) rfl))) (ah (au (bh))) (ay)) (
   ae (a7 (eI (y6 (bC (pv 0) rfl))) (ah (au (bh))) (ay)) (
   ae (a7 (aB cC (bC (pv 0) rfl) (be bB (by rfl) T.len Nm (dB (bC (pv 0) rfl))) (aN _)) (ah (au (bh))) (ay)) (
   ah (au (bh))))),?_⟩
  obtain⟨pl,dn,br⟩:=s;refine⟨_,rfl,k,ck,B.dx,_,_,rfl,S.ob,UO.k.cl,UO.k.nP,uh,_,rfl,?_⟩
  cases pl with
  | none=>exact bA q
  | some ps =>
   refine aV ⟨_,rfl,k,ck,B.dx,_,_,rfl,S.ob,UO.k.cl,UO.k.nB,sW,_,rfl,?_⟩
   cases br with
   | some b=>exact bA q
   | none =>
    obtain⟨as,h1,h2⟩:=S.pl ps rfl;have al:=Mo h2;refine aV ⟨_,rfl,k,ck,B.dx,_,_,rfl,S.ob,UO.k.cl,UO.k.nD,ri,_,rfl,k,ck,B.dx,_,_,rfl,S.ob,UO.k.cl,UO.k.nP,uh,B.pl,_,rfl,.inl (aW.of h1),rfl,_,rfl,?_⟩;rw[Me,al];have q:Q (.str (if dn=ps.length then "done" else "standing")) H:=q
    by_cases z:dn=ps.length
    ·rw[Mi z]at q
     rw[Mp (show V.int (dn:Int)=V.int (ps.length:Int) by rw[z])];exact bA q
    ·rw[Mg z]at q
     rw[Mx (show ¬ V.int (dn:Int)=V.int (ps.length:Int) from fun y=>z (by have:=V.int.inj y;omega))];exact aV q
theorem n9 (F:cG K "broken_at" "Keeper.broken_at" eK f fd) : aZ P w K mg base bV 1 f fd ["self"] (zr ck):=by
 refine F.ok og (fun vs H Q E h=>?_) (fun cdv A outer s H vs Q E hr h=>?_)
 ·obtain⟨k,B,s,rfl,_⟩:=h
  rfl
 ·obtain⟨k,B,s,rfl,S,q⟩:=h
  refine⟨_,ah (au (bC (pv 0) rfl)),?_⟩;exact⟨_,rfl,k,ck,B.dx,_,_,rfl,S.ob,UO.k.cl,UO.k.nB,sW,q⟩
theorem mi (F:cG K "pairs_left" "Keeper.pairs_left" dQ f fd)(bQ:aA P w K mg base bV ck "state" 1 ["self"] (nU ck)) : aZ P w K mg base bV 2 f fd ["self"] (uq ck):=by
 refine F.ok mH (fun vs H Q E h=>?_) (fun cdv A outer s H vs Q E hr h=>?_)
 ·obtain⟨k,B,s,rfl,_⟩:=h
  rfl
 ·obtain⟨k,B,s,rfl,S,q⟩:=h
  refine⟨_,ae (a7 (aB iE (f7 bQ (pv 0) UO.k.cl hr.m cP) (bh) (aN _)) (ah (au (c6 aD))) (ay)) (
   ah (au (bI b8 (bC (pv 0) rfl) (bS (bC (pv 0) rfl)) cm))),?_⟩
  refine⟨_,rfl,k,B.dx,_,rfl,S.ob,qa (by decide +kernel),k,B,s,rfl,S,rfl,_,rfl,?_⟩
  by_cases w:s.word="standing"
  ·rw[Mp (show V.str s.word=V.str "standing" by rw[w])]
   obtain⟨ps,e1,e2,e3⟩:=hG.stands w;rw[hG.rest_of e1 e2]at q;refine aV ⟨_,rfl,k,ck,B.dx,_,_,rfl,S.ob,UO.k.cl,UO.k.nP,uh,_,rfl,k,ck,B.dx,_,_,rfl,S.ob,UO.k.cl,UO.k.nD,ri,(s.dn:Int),rfl,eG ?_⟩
   have e4:s.planV B=.ref B.pl:=by unfold hG.planV;rw[e1]
   rw[e4];exact mD s.dn (S.pl ps e1) fun p H1 hp s1 r1=>q p H1 hp s1 r1
  ·rw[Mx (show ¬ V.str s.word=V.str "standing" from fun y=>w (V.str.inj y))]
   rw[hG.stands_not w]at q;exact bA ⟨MD _,fun p hp=>q p _ hp (ag hp) ⟨[],ac,.nil⟩⟩
theorem vA (F:cG K "left" "Keeper.left" iQ f fd)(eE:aA P w K mg base bV ck "pairs_left" 2 ["self"] (uq ck)) : aZ P w K mg base bV 3 f fd ["self"] (uo ck):=by
 refine F.ok vX (fun vs H Q E h=>?_) (fun cdv A outer s H vs Q E hr h=>?_)
 ·obtain⟨k,B,s,rfl,_⟩:=h
  rfl
 ·obtain⟨k,B,s,rfl,S,q⟩:=h
  refine⟨_,ah (au (be bB (by rfl) T.len Nm (dB (f7 eE (pv 0) UO.k.cl hr.m cP)))),?_⟩;refine⟨_,rfl,k,B.dx,_,rfl,S.ob,qa (by decide +kernel),k,B,s,rfl,S,fun l H1 hl s1 r1=>?_⟩;obtain⟨as,h1,h2⟩:=r1;refine⟨l,_,rfl,.inl (aW.of h1),?_⟩;rw[Me,Mo h2];exact q H1 s1
theorem w8 (F:cG K "due" "Keeper.due" jq f fd)(bQ:aA P w K mg base bV ck "state" 1 ["self"] (nU ck)) : aZ P w K mg base bV 2 f fd ["self"] (zu ck):=by
 refine F.ok xm (fun vs H Q E h=>?_) (fun cdv A outer s H vs Q E hr h=>?_)
 ·obtain⟨k,B,s,rfl,_⟩:=h
  rfl
 ·obtain⟨k,B,s,rfl,S,q⟩:=h
  refine⟨_,ae (a7 (aB iE (f7 bQ (pv 0) UO.k.cl hr.m cP) (bh) (aN _)) (ah (au (fG))) (ay)) (
   ah (au (bv cQ (bC (pv 0) rfl) (bC (pv 0) rfl) (fun _ _=>rfl)))),?_⟩
  refine⟨_,rfl,k,B.dx,_,rfl,S.ob,qa (by decide +kernel),k,B,s,rfl,S,rfl,_,rfl,?_⟩
  by_cases w:s.word="standing"
  ·rw[Mp (show V.str s.word=V.str "standing" by rw[w])]
   obtain⟨ps,e1,e2,e3⟩:=hG.stands w;have le:=(S.le ps e1).1
   have e4:s.planV B=.ref B.pl:=by unfold hG.planV;rw[e1]
   obtain⟨p,hp⟩:∃ p,ps[s.dn]? = some p:=⟨_,List.getElem?_eq_getElem (by omega)⟩;rw[hG.due_of e1 e2,hp]at q;obtain⟨as,h1,h2⟩:=S.pl ps e1;obtain⟨b,hb,hB⟩:=mr h2 hp;refine aV ⟨_,rfl,k,ck,B.dx,_,_,rfl,S.ob,UO.k.cl,UO.k.nP,uh,_,rfl,k,ck,B.dx,_,_,rfl,S.ob,UO.k.cl,UO.k.nD,ri,B.pl,_,_,_,e4,rfl,aW.of h1,fz (j:=s.dn) (by rw[List.getElem?_map,hb];rfl),q b hB⟩
  ·rw[Mx (show ¬ V.str s.word=V.str "standing" from fun y=>w (V.str.inj y))]
   rw[show s.due=none by unfold hG.due;rw[hG.stands_not w];rfl]at q;exact bA q
theorem yK (F:cG K "__init__" "Hall.__init__" kj f fd) : aZ P w K mg base bV 1 f fd ["self"] (Dl c.C):=by
 refine F.ok zf (fun vs H Q E h=>?_) (fun cdv A outer s H vs Q E hr h=>?_)
 ·obtain⟨p,dx,rfl,_⟩:=h
  rfl
 ·obtain⟨p,dx,rfl,hp,k⟩:=h
  refine⟨_,ae (e9 (pv 0) iF rfl) (
   ae (e9 (pv 0) iF rfl) (
   ae (e9 (pv 0) iF rfl) (
   ah (e9 (pv 0) (c6 aD) rfl)))),?_⟩
  intro w hw;have n1:p≠w:=aj hp hw;refine⟨_,rfl,p,c.C,dx,[],rfl,(by rw[af n1];exact hp),U.cl,U.nW,(by show 0<1000;decide),?_⟩;intro h hh;have n2:p≠h:=aj ac hh;refine⟨_,rfl,p,c.C,dx,_,rfl,(by rw[af n2,ac]),U.cl,U.nH,(by show 1<1000;decide),?_⟩;intro cc hc;have n3:p≠cc:=aj ac hc;refine⟨_,rfl,p,c.C,dx,_,rfl,(by rw[af n3,ac]),U.cl,U.nC,(by show 2<1000;decide),?_⟩;refine⟨by show 0<=sizeLine;exact MD _,fun d hd=>?_⟩;have n4:p≠d:=aj ac hd;refine⟨_,rfl,p,c.C,dx,_,rfl,(by rw[af n4,ac]),U.cl,U.nD,(by show 3<1000;decide),?_⟩;rw[af (ME n2)]at hh;have wh:w≠h:=aj ac hh;rw[af (ME n3)]at hc;have hcw:h≠cc:=aj ac hc;rw[af (ME hcw),af (ME n3)]at hc;have hwc:w≠cc:=aj ac hc;rw[af (ME n4)]at hd;have hdc:cc≠d:=aj ac hd;rw[af (ME hdc),af (ME n4)]at hd;have hdh:h≠d:=aj ac hd;rw[af (ME hdh),af (ME n4)]at hd;have hdw:w≠d:=aj ac hd;rw[af (ME hdw)]at hd;rw[af (ME hwc)]at hc;rw[af (ME wh)]at hh;refine k ⟨dx,w,h,cc,d,[]⟩ _ ⟨ac,?_,?_,?_,?_,.nil,[],?_,.nil⟩ (fun b o e hb=>?_) fun b hb=>?_
  ·simp[HA.fp,wh,hwc,hdw,hcw,hdh,hdc]
  ·rw[af (ME n1),af hdw,af (ME n1),af hwc,af (ME n1),af wh,af (ME n1),ac]
   rfl
  ·rw[af (ME n2),af hdh,af (ME n2),af hcw,af (ME n2),ac]
   rfl
  ·rw[af (ME n3),af hdc,af (ME n3),ac]
   rfl
  ·rw[af (ME n4),ac]
   rfl
  ·rw[af hb,af (aj e hd),af hb,af (aj e hc),af hb,af (aj e hh),af hb,af (aj e hw)]
   exact e
  ·simp[HA.fp]at hb
   rcases hb with rfl | rfl | rfl | rfl
   ·exact hw
   ·exact hh
   ·exact hc
   ·exact hd
theorem yJ (F:cG K "come" "Hall.come" ki f fd)(dc:aA P w K mg base bV c.C "dress" 1 ["self","guest","mask"] (qA c.C)) : aZ P w K mg base (ju P w) 2 f fd ["self","guest"] (zp c):=by
 refine F.okX ze (fun vs H Q E h=>?_) (fun cdv A outer s H vs Q E hr h=>?_)
 ·obtain⟨p,B,st,g,rfl,_⟩:=h
  rfl
 ·obtain⟨p,B,st,g,rfl,S,ft,hg,k⟩:=h
  have hu:=bR hr
  refine⟨_,ae (a7 (eI (jX hu (pv 1) (bC (pv 0) rfl))) (ah (mz U.eA gK rfl hr.hd rfl U.mA (qm (dW (jY (pv 1)) (dW bh (vR)))))) ay) (
   ae (a6 (dq dc (pv 0) U.cl hr cP (ao (pv 1) (ao (pv 1) aD)))) (
   ah (a6 (eB MM MS MT bM (bC (pv 0) rfl) (ao (bo (ao (bh) (ao (pv 1) (aD)))) aD))))),?_⟩
  have g1:cu H B.w (.int g) ((look st.worn g).map V.int):=by rw[<-cR];exact cu.k (k:=Sum.inl g) S.w
  refine⟨_,rfl,_,rfl,p,c.C,B.dx,_,_,rfl,S.ob,U.cl,U.nW,z6 _,B.w,_,rfl,g1,_,rfl,?_⟩
  cases e:look st.worn g with
  | some m =>
   refine bA ⟨_,rfl,g,rfl,hg,fun y hy=>⟨y,rfl,hy,_,rfl,by decide,fun z=>?_⟩⟩;exact iC (o:=.already) k (by simp[ba,e]) (by simp) _ (fun _ _ z=>z)
  | none =>
   refine aV ⟨_,rfl,p,B.dx,_,rfl,S.ob,pX _ (by decide +kernel),_,rfl,_,rfl,p,B,st,g,g,rfl,S,by have:=ft.w;omega,by have:=ft.h;omega,?_⟩;have S1:=yo (yp S (put st.worn g g)) (put st.hold g g);have k1:Kp B.fp H (upd (upd H B.w (.dK (dk (put st.worn g g)))) B.h (.dK (dk (put st.hold g g)))):=(iD CZ).on (iD CW);have t1:Tr H (upd (upd H B.w (.dK (dk (put st.worn g g)))) B.h (.dK (dk (put st.hold g g)))):=(Tr.refl.upd _ _).upd _ _;generalize upd (upd H B.w (.dK (dk (put st.worn g g)))) B.h (.dK (dk (put st.hold g g)))=H1 at S1 k1 t1;obtain⟨as,hd,hp⟩:=id S1.d;have hl:as.length=st.deeds.length:=Mo hp;refine⟨_,rfl,p,c.C,B.dx,_,_,rfl,S1.ob,U.cl,U.nD,DL _,.inl ⟨rfl,_,aW.of hd⟩,_,rfl,by show 2<=sizeLine;decide,fun t ht=>?_⟩;have td:B.d≠t:=aj hd ht;refine⟨B.d,_,_,rfl,rfl,by rw[af td];exact hd,by rw[Me];exact aw (by have:=ft.d;omega),?_⟩;refine qY k (by simp[ba,e]) _ ⟨B,rc S1 hd hp (.come g) ht,(k1.on (BL ht)).on (iD FC),fun b hb=>.inl hb,(t1.upd _ _).upd _ _⟩
theorem B9 (F:cG K "go" "Hall.go" pz f fd)(a9:aA P w K mg base (ju P w) c.C "wears" 3 ["self","guest"] (jd c)) : aZ P w K mg base (ju P w) 4 f fd ["self","guest"] (Hz c):=by
 refine F.okX Co (fun vs H Q E h=>?_) (fun cdv A outer s H vs Q E hr h=>?_)
 ·obtain⟨p,B,st,g,rfl,_⟩:=h
  rfl
 ·obtain⟨p,B,st,g,rfl,S,ft,hg,hm,k⟩:=h
  refine⟨_,ae (a7 (aB iE (dq a9 (pv 0) U.cl hr gC (ao (pv 1) aD)) (pv 1) (aN _)) (ah (mz U.eM gK rfl hr.hd rfl U.mM (qm (dW (jY (pv 1)) (dW bh (dW (jY (dq a9 (pv 0) U.cl hr gC (ao (pv 1) aD))) (vR))))))) ay) (
   ae (a6 (vO (bC (pv 0) rfl) (pv 1) ⟨rfl,rfl,rfl,rfl⟩)) (
   ae (a6 (vO (bC (pv 0) rfl) (pv 1) ⟨rfl,rfl,rfl,rfl⟩)) (
   ah (a6 (eB MM MS MT bM (bC (pv 0) rfl) (ao (bo (ao (bh) (ao (pv 1) (aD)))) aD)))))),?_⟩
  have no:=u6 B (m:="wears") (by decide +kernel) (by decide +kernel) (by decide +kernel) (by decide +kernel);refine⟨_,rfl,p,B.dx,_,rfl,S.ob,no,_,rfl,p,B,st,g,rfl,S,hg,?_⟩
  cases e:look st.worn g with
  | none=>exact iC (o:=.noguest g) k (by simp[ba,e]) (by simp)
  | some m =>
   obtain⟨hs,hh⟩:=hm m e;refine⟨_,rfl,rfl,_,rfl,?_⟩
   by_cases em:m=g
   ·subst em
    rw[Mp rfl];refine aV ?_
    have hv:dI (dk st.worn) (Sum.inl m:cf)=some (V.int m):=by rw[cR,e];rfl
    obtain⟨m2,e2⟩:=MY.mp (hh rfl)
    have hv2:dI (dk st.hold) (Sum.inl m:cf)=some (V.int m2):=by rw[cR,e2];rfl
    refine⟨_,rfl,p,c.C,B.dx,_,_,rfl,S.ob,U.cl,U.nW,z6 _,B.w,rfl,.inl ⟨_,.inl S.w⟩,_,rfl,_,Sum.inl m,_,S.w,rfl,hv,?_⟩;rw[uW];have S0:=yp S (da st.worn m);refine⟨_,rfl,p,c.C,B.dx,_,_,rfl,S0.ob,U.cl,U.nH,Fi _,B.h,rfl,.inl ⟨_,.inl S0.h⟩,_,rfl,_,Sum.inl m,_,S0.h,rfl,hv2,?_⟩;rw[uW];have S1:=yo S0 (da st.hold m);have k1:Kp B.fp H (upd (upd H B.w (.dK (dk (da st.worn m)))) B.h (.dK (dk (da st.hold m)))):=(iD CZ).on (iD CW);have t1:Tr H (upd (upd H B.w (.dK (dk (da st.worn m)))) B.h (.dK (dk (da st.hold m)))):=(Tr.refl.upd _ _).upd _ _;generalize upd (upd H B.w (.dK (dk (da st.worn m)))) B.h (.dK (dk (da st.hold m)))=H1 at S1 k1 t1;obtain⟨as,hd,hp⟩:=id S1.d;have hl:as.length=st.deeds.length:=Mo hp;refine⟨_,rfl,p,c.C,B.dx,_,_,rfl,S1.ob,U.cl,U.nD,DL _,.inl ⟨rfl,_,aW.of hd⟩,_,rfl,by show 2<=sizeLine;decide,fun t ht=>?_⟩;have td:B.d≠t:=aj hd ht;refine⟨B.d,_,_,rfl,rfl,by rw[af td];exact hd,by rw[Me];exact aw (by have:=ft.d;omega),?_⟩;refine qY k (by simp[ba,e]) _ ⟨B,rc S1 hd hp (.go m) ht,(k1.on (BL ht)).on (iD FC),fun b hb=>.inl hb,(t1.upd _ _).upd _ _⟩
   ·rw[Mx (fun z=>em (V.int.inj z))]
    refine bA ⟨_,rfl,g,rfl,hg,fun y hy=>⟨y,rfl,hy,_,rfl,by decide,?_⟩⟩;refine⟨_,rfl,p,B.dx,_,rfl,S.ob,no,_,rfl,p,B,st,g,rfl,S,hg,?_⟩;rw[e];refine⟨m,rfl,hs,fun y hy=>⟨y,rfl,hy,fun z=>?_⟩⟩;exact iC (o:=.masked) k (by simp[ba,e,em]) (by simp) _ (fun _ _ z=>z)
theorem rF (F:cG K "exchange" "Hall.exchange" gv f fd)(a9:aA P w K mg base (ju P w) c.C "wears" 3 ["self","guest"] (jd c))(fX:aA P w K mg base bV c.C "met" 1 ["self","one","other"] (Bc c.C))(dc:aA P w K mg base bV c.C "dress" 1 ["self","guest","mask"] (qA c.C))(eQ:aA P w K mg base bV c.C "acquaint" 1 ["self","one","other"] (Dj c.C)) : aZ P w K mg base (ju P w) 4 f fd ["self","one","other"] (v8 c):=by
 refine F.okX gf (fun vs H Q E h=>?_) (fun cdv A outer s H vs Q E hr h=>?_)
 ·obtain⟨p,B,st,a,b,rfl,_⟩:=h
  rfl
 ·obtain⟨p,B,st,a,b,rfl,S,ft,ha,hb,k⟩:=h
  have hr1:cH 1 _:=hr.mono (by decide)
  refine⟨_,ae (dN (i:=3) gf.nd rfl (Or.inl rfl) (dq a9 (pv 0) U.cl hr gC (ao (pv 1) aD))) (
   ae (dN (i:=4) gf.nd rfl (Or.inl rfl) (dq a9 (pv 0) U.cl hr gC (ao (pv 2) aD))) (
   ae (a7 (aB cC (pv 1) (pv 2) (aN _)) (ah (mz U.eS gK rfl hr.hd rfl U.mS (qm (dW (jY (pv 1)) (dW bh (vR)))))) ay) (
   ae (a7 (eJ (dq fX (pv 0) U.cl hr1 cP (ao (pv 1) (ao (pv 2) aD)))) (ah (mz U.eT gK rfl hr.hd rfl U.mT (qm (dW (jY (pv 1)) (dW bh (dW (jY (pv 2)) (dW bh (vR)))))))) ay) (
   ae (a6 (dq dc (pv 0) U.cl hr1 cP (ao (pv 1) (ao (pv 4) aD)))) (
   ae (a6 (dq dc (pv 0) U.cl hr1 cP (ao (pv 2) (ao (pv 3) aD)))) (
   ae (a6 (dq eQ (pv 0) U.cl hr1 cP (ao (pv 1) (ao (pv 2) aD)))) (
   ae (a6 (dq eQ (pv 0) U.cl hr1 cP (ao (pv 2) (ao (pv 1) aD)))) (
   ah (a6 (eB MM MS MT bM (bC (pv 0) rfl) (ao (bo (ao (bh) (ao (pv 1) (ao (pv 2) (aD))))) aD))))))))))),?_⟩
  have no:∀ (B:HA)(m:Str),m∈(["wears","met","dress","acquaint"]:List Str)->(aS B).lookup m=none:=fun B m hm=>by
   simp only[Ms,List.not_mem_nil,or_false]at hm;rcases hm with rfl | rfl | rfl | rfl<;>exact pX B (by decide +kernel)
  have n1:∀ B:HA,(aS B).lookup ("wears" : Str)=none:=fun B=>no B _ (by simp);have n2:∀ B:HA,(aS B).lookup ("met" : Str)=none:=fun B=>no B _ (by simp);have n3:∀ B:HA,(aS B).lookup ("dress" : Str)=none:=fun B=>no B _ (by simp);have n4:∀ B:HA,(aS B).lookup ("acquaint" : Str)=none:=fun B=>no B _ (by simp);refine⟨_,rfl,p,B.dx,_,rfl,S.ob,n1 B,_,rfl,p,B,st,a,rfl,S,ha,?_⟩
  cases ea:look st.worn a with
  | none=>exact iC (o:=.noguest a) k (by simp[ba,ea]) (by simp)
  | some ma =>
   refine⟨_,rfl,p,B.dx,_,rfl,S.ob,n1 B,_,rfl,p,B,st,b,rfl,S,hb,?_⟩
   cases eb:look st.worn b with
   | none=>exact iC (o:=.noguest b) k (by simp[ba,ea,eb]) (by simp)
   | some mb =>
    refine⟨_,rfl,_,rfl,rfl,_,rfl,?_⟩
    by_cases eab:a=b
    ·rw[Mp (by rw[eab])]
     refine bA ⟨_,rfl,a,rfl,ha,fun y hy=>⟨y,rfl,hy,_,rfl,by decide,fun z=>?_⟩⟩;exact iC (o:=.same) k (by simp[ba,ea,eb,eab]) (by simp) _ (fun _ _ z=>z)
    ·rw[Mx (fun z=>eab (V.int.inj z))]
     refine aV ⟨_,rfl,p,B.dx,_,rfl,S.ob,n2 B,_,rfl,_,rfl,p,B,st,a,b,rfl,S,fun H1 s1=>⟨_,rfl,?_⟩⟩
     cases em:cY st.circ a b with
     | true =>
      refine bA ⟨_,rfl,a,rfl,ha,fun y hy=>⟨y,rfl,hy,_,rfl,by decide,_,rfl,b,rfl,hb,fun y hy=>⟨y,rfl,hy,_,rfl,by decide,fun z=>?_⟩⟩⟩;exact iC (o:=.met) k (by simp[ba,ea,eb,eab,em]) (by simp) _ s1
     | false =>
      refine aV ?_;have S1:=S.mono s1;have kd:=qY k (by simp[ba,ea,eb,eab,em])
      have wa:wr st.worn a=ma:=by unfold wr;rw[ea];rfl
      have wb:wr st.worn b=mb:=by unfold wr;rw[eb];rfl
      have l1:=nu st.worn a mb;have l2:=nu st.hold mb a;have f1:=ft.w;have f2:=ft.h;refine⟨_,rfl,p,B.dx,_,rfl,S1.ob,n3 B,_,rfl,_,rfl,p,B,st,a,mb,rfl,S1,by omega,by omega,?_⟩;have S2:=yo (yp S1 (put st.worn a mb)) (put st.hold mb a);have k2:Kp B.fp H (upd (upd H1 B.w (.dK (dk (put st.worn a mb)))) B.h (.dK (dk (put st.hold mb a)))):=((Kp.of_same s1).on (iD CZ)).on (iD CW);have t2:Tr H (upd (upd H1 B.w (.dK (dk (put st.worn a mb)))) B.h (.dK (dk (put st.hold mb a)))):=((Tr.of_same s1).upd _ _).upd _ _;generalize upd (upd H1 B.w (.dK (dk (put st.worn a mb)))) B.h (.dK (dk (put st.hold mb a)))=H2 at S2 k2 t2;refine⟨_,rfl,p,B.dx,_,rfl,S2.ob,n3 B,_,rfl,_,rfl,p,B,_,b,ma,rfl,S2,by show (put st.worn a mb).length<2000;omega,by show (put st.hold mb a).length<2000;omega,?_⟩;have S3:=yo (yp S2 (put (put st.worn a mb) b ma)) (put (put st.hold mb a) ma b);have k3:Kp B.fp H (upd (upd H2 B.w (.dK (dk (put (put st.worn a mb) b ma)))) B.h (.dK (dk (put (put st.hold mb a) ma b)))):=(k2.on (iD CZ)).on (iD CW);dsimp only at S3 ⊢;have t3:Tr H (upd (upd H2 B.w (.dK (dk (put (put st.worn a mb) b ma)))) B.h (.dK (dk (put (put st.hold mb a) ma b)))):=(t2.upd _ _).upd _ _;generalize upd (upd H2 B.w (.dK (dk (put (put st.worn a mb) b ma)))) B.h (.dK (dk (put (put st.hold mb a) ma b)))=H3 at S3 k3 t3;refine⟨_,rfl,p,B.dx,_,rfl,S3.ob,n4 B,_,rfl,_,rfl,p,B,_,a,b,rfl,S3,by have:=ft.c;show st.circ.length<2000;omega,fun x hx=>by have:=ft.k x hx;omega,fun H4 ⟨B4,S4,k4,p4,t4⟩=>?_⟩;dsimp only at S4;refine⟨_,rfl,p,B4.dx,_,rfl,S4.ob,n4 B4,_,rfl,_,rfl,p,B4,_,b,a,rfl,S4,by have:=ft.c;have:=qc st.circ a b;show (cr st.circ a b).length<2000;omega,fun x hx=>by have:=uQ (n:=999) (fun x hx=>by have:=ft.k x hx;omega) (by decide) x hx;omega,fun H5 ⟨B5,S5,k5,p5,t5⟩=>?_⟩
      dsimp only at S5;have k4':Kp B.fp H H4:=k3.on k4
      have f4:∀ x∈B4.fp,x∈B.fp\/H x=none:=fun x hx=>by
       rcases p4 x hx with z | z
       ·exact .inl z
       ·by_cases hq:x∈B.fp
        ·exact .inl hq
        ·refine .inr ?_
         cases e:H x with
         | none=>rfl
         | some o=>rw[k3 x o e hq]at z;cases z
      have k5':Kp B.fp H H5:=k4'.trans k5 f4
      have f5:∀ x∈B5.fp,x∈B.fp\/H x=none:=fun x hx=>by
       rcases p5 x hx with z | z
       ·exact f4 x z
       ·by_cases hq:x∈B.fp
        ·exact .inl hq
        ·refine .inr ?_
         cases e:H x with
         | none=>rfl
         | some o=>rw[k4' x o e hq]at z;cases z
      obtain⟨as,hd,hp⟩:=id S5.d;have hl:as.length=st.deeds.length:=Mo hp;refine⟨_,rfl,p,c.C,B5.dx,_,_,rfl,S5.ob,U.cl,U.nD,DL _,.inl ⟨rfl,_,aW.of hd⟩,_,rfl,_,rfl,by show 3<=sizeLine;decide,fun t ht=>?_⟩;have td:B5.d≠t:=aj hd ht;refine⟨B5.d,_,_,rfl,rfl,by rw[af td];exact hd,by rw[Me];exact aw (by have:=ft.d;omega),?_⟩;have S6:=rc S5 hd hp (.exch a b) ht;refine kd _ ⟨B5,?_,?_,f5,(((t3.trans t4).trans t5).upd _ _).upd _ _⟩
      ·show aM c.C _ p B5 { worn:=put (put st.worn a (wr st.worn b)) b (wr st.worn a),hold:=put (put st.hold (wr st.worn b) a) (wr st.worn a) b,circ:=cr (cr st.circ a b) b a,deeds:=st.deeds++[.exch a b] }
       rw[wa,wb];exact S6
      ·intro x o e hx
       have h5:=k5' x o e hx
       have hx5:x≠B5.d:=fun z=>by
        rcases f5 B5.d FC with q | q
        ·exact hx (by rw[z];exact q)
        ·rw[z,q]at e;cases e
       show upd (upd H5 t _) B5.d _ x=some o
       rw[af hx5,af (aj h5 ht)];exact h5
theorem wX (F:cG K "dress" "Hall.dress" jn f fd) : aZ P w K mg base bV 1 f fd ["self","guest","mask"] (qA c.C):=by
 refine F.ok xg (fun vs H Q E h=>?_) (fun cdv A outer s H vs Q E hr h=>?_)
 ·obtain⟨p,B,st,g,m,rfl,_⟩:=h
  rfl
 ·obtain⟨p,B,st,g,m,rfl,S,hw,hh,k⟩:=h
  have hu:=bR hr
  have nwh:B.w≠B.h:=by have:=S.nd;simp[HA.fp]at this;exact this.1.1
  have npw:p≠B.w:=bE S.ob S.w (by intro z;cases z)
  refine⟨_,ae (gE hu (bC (pv 0) rfl) (pv 1) (pv 2) rfl) (
   ah (gE hu (bC (pv 0) rfl) (pv 2) (pv 1) rfl)),?_⟩
  refine⟨_,rfl,_,rfl,p,c.C,B.dx,_,_,rfl,S.ob,U.cl,U.nW,z6 _,_,rfl,B.w,_,rfl,lA.k (k:=Sum.inl g) S.w (by rw[yx];exact MR hw (by decide)),?_⟩;rw[i9];refine⟨_,rfl,_,rfl,p,c.C,B.dx,_,_,rfl,(by rw[af npw];exact S.ob),U.cl,U.nH,Fi _,_,rfl,B.h,_,rfl,lA.k (k:=Sum.inl m) (by rw[af (ME nwh)];exact S.h) (by rw[yx];exact MR hh (by decide)),?_⟩;rw[i9];exact k
theorem rE (F:cG K "acquaint" "Hall.acquaint" gu f fd) : aZ P w K mg base bV 1 f fd ["self","one","other"] (Dj c.C):=by
 refine F.ok jG (fun vs H Q E h=>?_) (fun cdv A outer s H vs Q E hr h=>?_)
 ·obtain⟨p,B,st,a,b,rfl,_⟩:=h
  rfl
 ·obtain⟨p,B,st,a,b,rfl,S,hl1,hl2,k⟩:=h
  have hu:=bR hr
  refine⟨_,ae (dN (i:=3) jG.nd rfl (Or.inl rfl) (FT (bC (pv 0) rfl) (pv 1) iF ⟨rfl,rfl,rfl,rfl⟩)) (
   ah (gE hu (pv 3) (pv 2) d9 rfl)),?_⟩
  refine⟨_,rfl,p,c.C,B.dx,_,_,rfl,S.ob,U.cl,U.nC,Fh _,B.c,rfl,.inl ⟨_,.inl S.c⟩,_,rfl,fun l hl=>?_⟩;have s1:ax H (upd H l (.dK [])):=ag hl;have S1:=S.mono s1;have ap:=S.apart;have lenc:B.cs.length=st.circ.length:=Mo S.cs
  have lc:(b5 B.cs st.circ).length<sizeLine:=by rw[nj lenc];exact MR hl1 (by decide)
  have np:=S.pne;simp only[HA.fp,Ms,not_or]at np;refine⟨_,Sum.inl a,S1.c,rfl,lc,fun v hv=>?_,fun hv=>?_⟩
  ·rcases jz a S1.cs with ⟨h1,h2,h3⟩ | ⟨ad,h1,h2,h3,h4⟩
   ·rw[h1]at hv;cases hv
   ·rw[h2]at hv
    cases hv
    have lk:(rj (dG st.circ a)).length<sizeLine:=by
     have e:∀ ci:List (Int×List Int),(∀ x∈ci,x.2.length<2000)->(dG ci a).length<2000:=by
      intro ci
      induction ci with
      | nil=>intro _;show 0<2000;decide
      | cons x r ih =>
       intro h;unfold dG;split
       ·exact h x Mm
       ·exact ih fun y hy=>h y (Mh _ hy)
     unfold rj;rw[Me];exact MR (e _ hl2) (by decide)
    refine⟨_,rfl,_,rfl,ad,_,rfl,lA.k (k:=Sum.inl b) h3 lk,?_⟩;rw[Dd]
    have adfp:ad∈B.fp:=by simp[HA.fp,h1]
    have nn:∀ x,x∉B.cs->x≠ad:=fun x hx z=>hx (by rw[z];exact h1);obtain⟨q1,q2⟩:=h4 b (upd (upd H l (.dK [])) ad (.dK (rj (gI (dG st.circ a) b)))) ap.cs (fun x _ hx o e=>by rw[af hx];exact e) ac;refine k _ ⟨B,⟨by rw[af (nn _ np.2.2.2.2)];exact S1.ob,S.nd,by rw[af (nn _ ap.w)];exact S1.w,by rw[af (nn _ ap.h)];exact S1.h,by rw[af (nn _ ap.c),S1.c,q2],q1,?_⟩,(BL hl).on (iD adfp),fun x hx=>.inl hx,(Tr.refl.upd _ _).upd _ _⟩;obtain⟨as,hd,hp⟩:=S1.d;refine⟨as,by rw[af (nn _ ap.d)];exact hd,Paired.mapP hp fun t x e=>?_⟩;obtain⟨xs,ex⟩:=eO x;rw[af (fun z=>S1.tup (xs:=xs) (by rw[<-ex];exact e) (by rw[z];exact adfp))];exact e
  ·rcases jz a S1.cs with ⟨h1,h2,h3⟩ | ⟨ad,h1,h2,h3,h4⟩
   ·have lB:l∉B.fp:=fun z=>by obtain⟨o,e⟩:=S.tracked z;rw[hl]at e;cases e
    have lB':=lB;simp only[HA.fp,Ms,not_or]at lB';obtain⟨l1,l2,l3,l4,l5⟩:=lB';refine⟨_,rfl,_,rfl,l,_,rfl,lA.k (k:=Sum.inl b) (by rw[af l3];exact ac) (by show 0<sizeLine;decide),?_⟩;rw[show gL [] (Sum.inl b:cf) (V.bl true)=rj [b] from rfl,AX _ hv]
    have e1:∀ x o,H x=some o->x≠B.c->x≠l->(upd (upd (upd H l (.dK [])) B.c (.dK (b5 B.cs st.circ++[(Sum.inl a,V.ref l)]))) l (.dK (rj [b]))) x=some o:=fun x o e hx hy=>by
     rw[af hy,af hx,af hy];exact e
    have nl:∀ x o,H x=some o->x≠l:=fun x o e=>aj e hl;refine k _ ⟨⟨B.dx,B.w,B.h,B.c,B.d,B.cs++[l]⟩,⟨?_,?_,e1 _ _ S.w ap.wc (nl _ _ S.w),e1 _ _ S.h ap.hc (nl _ _ S.h),?_,?_,?_⟩,?_,fun x hx=>?_,((Tr.refl.upd _ _).upd _ _).upd _ _⟩
    ·exact e1 _ _ S.ob np.2.2.1 (nl _ _ S.ob)
    ·refine CD.fp ⟨ap.wh,ap.wc,ap.wd,ap.hc,ap.hd,ap.cd,?_,?_,?_,?_,?_⟩
     ·simp[ap.w,ME l1]
     ·simp[ap.h,ME l2]
     ·simp[ap.c,ME l3]
     ·simp[ap.d,ME l4]
     ·exact ny ap.cs l5
    ·show (upd (upd (upd H l (.dK [])) B.c (.dK (b5 B.cs st.circ++[(Sum.inl a,V.ref l)]))) l (.dK (rj [b]))) B.c=some (.dK (b5 (B.cs++[l]) (cr st.circ a b)))
     rw[af (ME l3),ac,h3 b,oX a [b] l lenc]
    ·show KL _ (B.cs++[l]) (cr st.circ a b)
     rw[h3 b];exact aJ (pS S.cs fun x hx o e=>e1 x o e (fun z=>ap.c (by rw[<-z];exact hx)) (nl x o e)) (.cons ac .nil)
    ·obtain⟨as,hd,hp⟩:=S.d
     refine⟨as,e1 _ _ hd (ME ap.cd) (nl _ _ hd),Paired.mapP hp fun t x e=>?_⟩;obtain⟨xs,ex⟩:=eO x;exact e1 t _ e (fun z=>S.tup (xs:=xs) (by rw[<-ex];exact e) (by rw[z];exact HZ)) (nl t _ e)
    ·intro x o e hx
     exact e1 x o e (fun z=>hx (by rw[z];exact HZ)) (nl x o e)
    ·simp only[HA.fp,Ms,Ml]at hx ⊢
     rcases hx with hx | hx | hx | hx | hx | hx | hx
     ·exact .inl (.inl hx)
     ·exact .inl (.inr (.inl hx))
     ·exact .inl (.inr (.inr (.inl hx)))
     ·exact .inl (.inr (.inr (.inr (.inl hx))))
     ·exact .inl (.inr (.inr (.inr (.inr hx))))
     ·exact .inr (by rw[hx];exact hl)
     ·cases hx
   ·rw[h2]at hv;cases hv
theorem vt (F:cG K "inside" "Hall.inside" iM f fd) : aZ P w K mg base bV 1 f fd ["self","guest"] (mL c.C):=by
 refine F.ok vT (fun vs H Q E h=>?_) (fun cdv A outer s H vs Q E hr h=>?_)
 ·obtain⟨p,B,st,g,rfl,_⟩:=h
  rfl
 ·obtain⟨p,B,st,g,rfl,S,k⟩:=h
  have hu:=bR hr;refine⟨_,ah (au (vN (jX hu (pv 1) (bC (pv 0) rfl)))),?_⟩
  have g1:cu H B.w (.int g) ((look st.worn g).map V.int):=by rw[<-cR];exact cu.k (k:=Sum.inl g) S.w
  refine⟨_,rfl,_,rfl,p,c.C,B.dx,_,_,rfl,S.ob,U.cl,U.nW,z6 _,B.w,_,rfl,g1,?_⟩;rw[Oh];exact k
theorem vq (F:cG K "guests" "Hall.guests" iL f fd) : aZ P w K mg base bV 1 f fd ["self"] (mJ c.C):=by
 refine F.ok vS (fun vs H Q E h=>?_) (fun cdv A outer s H vs Q E hr h=>?_)
 ·obtain⟨p,B,st,rfl,_⟩:=h
  rfl
 ·obtain⟨p,B,st,rfl,S,hl,k⟩:=h
  refine⟨_,ah (au (be (dS rfl) (by rfl) T.sorted Nw (ao (bC (pv 0) rfl) aD))),?_⟩;refine⟨_,rfl,p,c.C,B.dx,_,_,rfl,S.ob,U.cl,U.nW,z6 _,B.w,_,aq st.worn,rfl,S.w,?_,by unfold aq;rw[Me];exact hl,k⟩;unfold dk aq;rw[M8,M8];rfl
theorem w5 (F:cG K "wears" "Hall.wears" jp f fd)(NG:lO P w K mg base c) : aZ P w K mg base (ju P w) 3 f fd ["self","guest"] (jd c):=by
 refine F.okX xl (fun vs H Q E h=>?_) (fun cdv A outer s H vs Q E hr h=>?_)
 ·obtain⟨p,B,st,g,rfl,_⟩:=h
  rfl
 ·obtain⟨p,B,st,g,rfl,S,hg,k⟩:=h
  have hu:=bR hr
  refine⟨_,ae (a7 (eI (jD hu (pv 1) (bC (pv 0) rfl))) (ah (vK NG U hr gK rfl hr.hd rfl (pv 1))) ay) (
   ah (au (hW hu (bC (pv 0) rfl) (pv 1) (fun _ _=>rfl)))),?_⟩
  have g1:cu H B.w (.int g) ((look st.worn g).map V.int):=by rw[<-cR];exact cu.k (k:=Sum.inl g) S.w
  refine⟨_,rfl,_,rfl,p,c.C,B.dx,_,_,rfl,S.ob,U.cl,U.nW,z6 _,B.w,_,rfl,g1,_,rfl,?_⟩
  cases e:look st.worn g with
  | none =>
   rw[e]at k;exact bA ⟨_,rfl,g,rfl,hg,fun dx hdx=>k dx _ (ag hdx) ac⟩
  | some m =>
   rw[e]at k;refine aV ⟨_,rfl,p,c.C,B.dx,_,_,rfl,S.ob,U.cl,U.nW,z6 _,_,rfl,B.w,_,rfl,(by rw[e]at g1;exact g1),k⟩
theorem vy (F:cG K "wearer" "Hall.wearer" iO f fd)(NG:lO P w K mg base c) : aZ P w K mg base (ju P w) 3 f fd ["self","mask"] (qL c):=by
 refine F.okX vV (fun vs H Q E h=>?_) (fun cdv A outer s H vs Q E hr h=>?_)
 ·obtain⟨p,B,st,g,rfl,_⟩:=h
  rfl
 ·obtain⟨p,B,st,g,rfl,S,hg,k⟩:=h
  have hu:=bR hr
  refine⟨_,ae (a7 (eI (jD hu (pv 1) (bC (pv 0) rfl))) (ah (vK NG U hr gK rfl hr.hd rfl (pv 1))) ay) (
   ah (au (hW hu (bC (pv 0) rfl) (pv 1) (fun _ _=>rfl)))),?_⟩
  have g1:cu H B.h (.int g) ((look st.hold g).map V.int):=by rw[<-cR];exact cu.k (k:=Sum.inl g) S.h
  refine⟨_,rfl,_,rfl,p,c.C,B.dx,_,_,rfl,S.ob,U.cl,U.nH,Fi _,B.h,_,rfl,g1,_,rfl,?_⟩
  cases e:look st.hold g with
  | none =>
   rw[e]at k;exact bA ⟨_,rfl,g,rfl,hg,fun dx hdx=>k dx _ (ag hdx) ac⟩
  | some m =>
   rw[e]at k;refine aV ⟨_,rfl,p,c.C,B.dx,_,_,rfl,S.ob,U.cl,U.nH,Fi _,_,rfl,B.h,_,rfl,(by rw[e]at g1;exact g1),k⟩
theorem AE (F:cG K "met" "Hall.met" mR f fd) : aZ P w K mg base bV 1 f fd ["self","one","other"] (Bc c.C):=by
 refine F.ok A4 (fun vs H Q E h=>?_) (fun cdv A outer s H vs Q E hr h=>?_)
 ·obtain⟨p,B,st,a,b,rfl,_⟩:=h
  rfl
 ·obtain⟨p,B,st,a,b,rfl,S,k⟩:=h
  have hu:=bR hr;refine⟨_,ah (au (vN (jX hu (pv 2) (qk hu (bC (pv 0) rfl) (pv 1) iF ⟨rfl,rfl,rfl,rfl⟩)))),?_⟩;refine⟨_,rfl,_,rfl,p,c.C,B.dx,_,_,rfl,S.ob,U.cl,U.nC,Fh _,B.c,rfl,.inl ⟨_,.inl S.c⟩,_,rfl,fun l hl=>?_⟩;have s1:ax H (upd H l (.dK [])):=ag hl;have S1:=S.mono s1;refine⟨_,cu.k (k:=Sum.inl a) S1.c,?_⟩;rcases jz a S1.cs with ⟨h1,h2,h3⟩ | ⟨ad,h1,h2,h3,h4⟩
  ·rw[h1]
   refine⟨l,_,rfl,cu.k (k:=Sum.inl b) ac,?_⟩;have:=k _ s1;unfold cY at this;rw[h2]at this;exact this
  ·rw[h2]
   refine⟨ad,_,rfl,cu.k (k:=Sum.inl b) h3,?_⟩;rw[Dx];exact k _ s1
theorem rG (F:cG K "partners" "Hall.partners" gy f fd) : aZ P w K mg base bV 1 f fd ["self","guest"] (gr c.C):=by
 refine F.ok rR (fun vs H Q E h=>?_) (fun cdv A outer s H vs Q E hr h=>?_)
 ·obtain⟨p,B,st,g,rfl,_⟩:=h
  rfl
 ·obtain⟨p,B,st,a,rfl,S,h64,k⟩:=h
  have hu:=bR hr;refine⟨_,ah (au (be (dS rfl) (by rfl) T.sorted Nw (ao (qk hu (bC (pv 0) rfl) (pv 1) iF ⟨rfl,rfl,rfl,rfl⟩) aD))),?_⟩;refine⟨_,rfl,p,c.C,B.dx,_,_,rfl,S.ob,U.cl,U.nC,Fh _,B.c,rfl,.inl ⟨_,.inl S.c⟩,_,rfl,fun l hl=>?_⟩;have s1:ax H (upd H l (.dK [])):=ag hl;have S1:=S.mono s1;refine⟨_,cu.k (k:=Sum.inl a) S1.c,?_⟩;rcases jz a S1.cs with ⟨h1,h2,h3⟩ | ⟨ad,h1,h2,h3,h4⟩
  ·rw[h1]
   refine⟨l,[],[],rfl,ac,rfl,by decide,fun l2 hl2=>?_⟩;refine k l2 _ (s1.free hl2) (s1.trans (ag hl2)) ?_;rw[h2,ac]
  ·rw[h2]
   refine⟨ad,_,dG st.circ a,rfl,h3,by unfold rj;rw[M8];rfl,h64,fun l2 hl2=>?_⟩;exact k l2 _ (s1.free hl2) (s1.trans (ag hl2)) ac
theorem wY (F:cG K "pairs" "Hall.pairs" gF f fd)(bJ:aA P w K mg base bV c.C "partners" 1 ["self","guest"] (gr c.C)) : aZ P w K mg base bV 2 f fd ["self"] (qC c.C):=by
 refine F.ok xi (fun vs H Q E h=>?_) (fun cdv A outer s H vs Q E hr h=>?_)
 ·obtain⟨p,B,st,L,rfl,_⟩:=h
  rfl
 ·obtain⟨p,B,st,L,rfl,S,ci,hL,hP,k⟩:=h
  have hu:=bR hr
  have two:(2:Nat)<=sizeLine:=by decide
  have nQ:(aS B).lookup ("partners" : Str)=none:=pX B (by decide +kernel);have kk:=ci.kk;refine⟨_,ah (au (FS (so:=ak gF) (N:=qf) (N':=["one","other","self"]) (src:=[none,none,some 0]) rfl rfl yj rfl (bi (be (dS rfl) (by rfl) T.sorted Nw (dB (bC (pv 0) rfl)))) (fun cl C s2 H2 ex=>⟨iX 0 (show (["one","other","self"]:List Str).Nodup by decide +kernel),dh,FZ K (dq bJ (pv 2) U.cl hr.m cP (dB (pv 0))),iX 1 (show (["one","other","self"]:List Str).Nodup by decide +kernel),j5 (aB vH (pv 0) (pv 1) (aN _)),bo (c9 (pv 0) (pv 1))⟩))),?_⟩
  have ck:(b5 B.cs st.circ).map (·.1)=(st.circ.map (·.1)).map Sum.inl:=by
   have:=S.cs;generalize B.cs=cs at this;generalize st.circ=xs at this
   induction this with
   | nil=>rfl
   | cons _ _ ih=>simp only[b5,MQ];rw[ih]
  refine⟨_,rfl,p,c.C,B.dx,_,_,rfl,S.ob,U.cl,U.nC,Fh _,B.c,_,st.circ.map (·.1),rfl,S.c,ck,by rw[Me];omega,fun lo hlo=>?_⟩;have s1:=ag (o:=.lst ((bn (st.circ.map (·.1))).map V.int)) hlo;have ho1:upd H lo (.lst ((bn (st.circ.map (·.1))).map V.int)) lo=some (.lst ((bn (st.circ.map (·.1))).map V.int)):=ac;generalize upd H lo (.lst ((bn (st.circ.map (·.1))).map V.int))=H1 at s1 ho1 ⊢;refine⟨lo,rfl,⟨_,aW.of ho1⟩,fun l hl=>?_⟩;generalize hks:bn (st.circ.map (·.1))=ks at ho1 ⊢
  have kl:ks.length<=L.length:=by rw[<-hks,ir,Me];exact kk
  have pl:∀ i,((ks.take i).flatMap (e7 st.circ)).length<=1000:=fun i=>by
   have e:fF st.circ=(ks.take i++ks.drop i).flatMap (e7 st.circ):=by rw[List.take_append_drop];unfold fF;rw[hks]
   rw[e,Oo,Mj]at hP;omega
  refine a5 (K:=K) (a:=lo) (xs:=ks.map V.int) (fun i σ H2=>∃ u v:Option V,σ=[u,v,some (.ref p)]/\ax H1 H2/\aY H2 l ((ks.take i).flatMap (e7 st.circ)))
   ⟨none,none,rfl,ag hl,⟨[],ac,.nil⟩⟩ (fun i σ H2 _ ⟨_,_,_,s2,_⟩=>aW.of (s2 _ _ ho1)) ?_ ?_
  ·rintro i y σ H2 hi ⟨u,v,rfl,s2,row⟩
   obtain⟨a,ha,rfl⟩:=bg hi;have S2:=(S.mono s1).mono s2
   have ec:(ks.take (i+1)).flatMap (e7 st.circ)=(ks.take i).flatMap (e7 st.circ)++e7 st.circ a:=by rw[MG,ha,ML,Oo,List.flatMap_singleton]
   have pl2:=pl (i+1);rw[ec,Mj]at pl2;refine Gv ⟨_,rfl,p,B.dx,_,rfl,S2.ob,nQ,_,rfl,p,B,st,a,rfl,S2,NI (ci.cl a) hL,fun lm H3 hlm s3 hm3=>⟨lm,rfl,⟨_,aW.of hm3⟩,?_⟩⟩;have row3:=row.mono s3;generalize hms:bn (dG st.circ a)=ms at hm3
   have mE:e7 st.circ a=(ms.filter fun b=>decide (a<b)).map fun b=>(a,b):=by unfold e7;rw[hms]
   refine a5 (K:=K) (a:=lm) (xs:=ms.map V.int) (fun j σ H4=>∃ v:Option V,σ=[some (.int a),v,some (.ref p)]/\(∀ b o,H3 b=some o->b≠l->H4 b=some o)/\aY H4 l ((ks.take i).flatMap (e7 st.circ)++((ms.take j).filter fun b=>decide (a<b)).map fun b=>(a,b)))
    ⟨_,rfl,fun b o e _=>e,by simpa using row3⟩ (fun j σ H4 _ ⟨_,_,s4,_⟩=>aW.of (s4 _ _ hm3 ?_)) ?_ ?_
   ·obtain⟨as,hl3,_⟩:=row
    exact fun z=>by rw[<-z]at hl3;rw[hlm]at hl3;cases hl3
   ·rintro j y σ H4 hj ⟨v,rfl,s4,row4⟩
    obtain⟨b,hb,rfl⟩:=bg hj
    have et:(ms.take (j+1))=ms.take j++[b]:=by rw[MG,hb,ML]
    have le:((ms.take j).filter fun b=>decide (a<b)).length<=(e7 st.circ a).length:=by
     rw[mE,Me];exact (List.Sublist.filter _ (List.take_sublist j ms)).length_le
    refine pF ⟨_,rfl,_,rfl,_,_,rfl,rfl,_,rfl,?_⟩
    by_cases hab:a<b
    ·rw[Mp hab]
     obtain⟨as,hl4,hp4⟩:=row4;have lq:=Mo hp4;refine bA ⟨_,rfl,_,rfl,two,fun t ht=>⟨_,by rw[af (aj hl4 ht)];exact hl4,?_,?_⟩⟩
     ·rw[Me,lq,Mj,Me]
      exact aw (by omega)
     ·have tl:t≠l:=ME (aj hl4 ht)
      refine⟨_,rfl,fun x o e n=>by rw[af n,af (aj (s4 x o e n) ht)];exact s4 x o e n,as++[t],by rw[ac,Mr];rfl,?_⟩;rw[et,M5,Mr,<-Nf];refine aJ (Paired.mapP hp4 fun x q e=>?_) ?_
      ·rw[af (bE e hl4 (by intro z;cases z)),af (aj e ht)];exact e
      ·rw[List.filter_cons_of_pos (by simpa using hab)]
       exact .cons (by rw[af tl,ac]) .nil
    ·rw[Mx hab]
     refine aV ⟨_,rfl,s4,?_⟩;rw[et,M5,List.filter_cons_of_neg (by simpa using hab)];simpa using row4
   ·rintro σ H4 ⟨v,rfl,s4,row4⟩
    rw[Me,MI]at row4;refine⟨_,_,rfl,fun x o e=>s4 x o ((s2.trans s3) x o e) (aj e hl),?_⟩;rw[ec,mE];exact row4
  ·rintro σ H2 ⟨u,v,rfl,s2,row⟩
   rw[Me,MI]at row;refine k l H2 (s1.free hl) (s1.trans s2) ?_;unfold fF;rw[hks];exact row
theorem wZ (F:cG K "story" "Hall.story" jo f fd) : aZ P w K mg base bV 1 f fd ["self"] (uw c.C):=by
 refine F.ok xj (fun vs H Q E h=>?_) (fun cdv A outer s H vs Q E hr h=>?_)
 ·obtain⟨p,B,st,rfl,_⟩:=h
  rfl
 ·obtain⟨p,B,st,rfl,S,k⟩:=h
  refine⟨_,ah (au (dC dR (by rfl) T.list NC (ao (bC (pv 0) rfl) aD))),?_⟩;obtain⟨as,hd,hp⟩:=S.d;refine⟨_,rfl,p,c.C,B.dx,_,_,rfl,S.ob,U.cl,U.nD,DL _,B.d,_,rfl,.inl (aW.of hd),fun l hl=>?_⟩;exact k l _ hl (ag hl) ⟨as,ac,Paired.mapP hp fun b y e=>(ag hl) _ _ e⟩
theorem vw (F:cG K "moment" "Hall.moment" iN f fd) : aZ P w K mg base bV 1 f fd ["self"] (qG c.C):=by
 refine F.ok vU (fun vs H Q E h=>?_) (fun cdv A outer s H vs Q E hr h=>?_)
 ·obtain⟨p,B,st,rfl,_⟩:=h
  rfl
 ·obtain⟨p,B,st,rfl,S,k⟩:=h
  refine⟨_,ah (au (be bB (by rfl) T.len Nm (ao (bC (pv 0) rfl) aD))),?_⟩;obtain⟨as,hd,hp⟩:=S.d;refine⟨_,rfl,p,c.C,B.dx,_,_,rfl,S.ob,U.cl,U.nD,DL _,B.d,_,rfl,.inl (aW.of hd),?_⟩;rw[Me,Mo hp];exact k
theorem yL (F:cG K "twin" "Hall.twin" ig f fd)(MH:Kw P w K mg base c) : aZ P w K mg base bV 3 f fd ["self"] (zA c.C):=by
 refine F.ok qr (fun vs H Q E h=>?_) (fun cdv A outer s H vs Q E hr h=>?_)
 ·obtain⟨p,A0,st,rfl,_⟩:=h
  rfl
 ·obtain⟨p,A0,st,rfl,S,ndc,lc9,k⟩:=h
  have hu:=bR hr
  refine⟨_,ae (bt 1 qr.nd (Ic MH U hr.m rfl)) (
   ae (e9 (pv 1) (dC jP (by rfl) T.dict PyProof.Rows.boot_dict (dB (bC (pv 0) rfl))) rfl) (
   ae (e9 (pv 1) (dC jP (by rfl) T.dict PyProof.Rows.boot_dict (dB (bC (pv 0) rfl))) rfl) (
   ae (Dc (e9 (pv 1) (AT (so:=ak ig) (N:=tf) (N':=["guest","circle"]) (src:=[none,none]) rfl rfl yj rfl (FY (bC (pv 0) rfl)) (fun cl C s2 H2 ex=>⟨Hn (n:=2) K rfl (cD (iX 0 (show (["guest","circle"]:List Str).Nodup by decide +kernel)) (cD (iX 1 (show (["guest","circle"]:List Str).Nodup by decide +kernel)) nE)),dh,pv 0,dC jP (by rfl) T.dict PyProof.Rows.boot_dict (dB (pv 1))⟩)) rfl)) (
   ae (e9 (pv 1) (dC dR (by rfl) T.list NC (dB (bC (pv 0) rfl))) rfl) (
   ah (au (pv 1))))))),?_⟩
  intro x dx nx ndx nex;refine⟨x,dx,rfl,ac,fun B H1 S1 kp fr=>⟨rfl,?_⟩⟩
  have s0:ax H (upd (upd H dx (.own x)) x (.ins c.C dx [])):=fun b o e=>by rw[af (aj e nx),af (aj e ndx)];exact e
  have E1:Ev c H H1 x B ⟨[],[],[],[]⟩:=⟨fun b o e=>kp b o (s0 b o e) (aj e nx),S1,o5,fun b hb=>s0.free (fr b hb)⟩;have S1:=E1.hall;have xo:=S1.ob;have s1:=E1.same;have px:∀ b o,H b=some o->b≠x:=fun b o e=>aj e nx;clear E1 S1;refine⟨_,rfl,p,c.C,A0.dx,_,_,rfl,s1 _ _ S.ob,U.cl,U.nW,z6 A0,A0.w,_,rfl,s1 _ _ S.w,fun lw hlw=>?_⟩;have xw:x≠lw:=aj xo hlw;refine⟨_,rfl,x,c.C,B.dx,_,rfl,by rw[af xw];exact xo,U.cl,U.nW,yy _,?_⟩;rw[Jf];have fw:H lw=none:=s1.free hlw;have s2:ax H (upd (upd H1 lw (.dK (dk st.worn))) x (.ins c.C B.dx (aS { B with w:=lw }))):=aR (s1.trans (ag hlw)) nx
  have w2:upd (upd H1 lw (.dK (dk st.worn))) x (.ins c.C B.dx (aS { B with w:=lw })) lw=some (.dK (dk st.worn)):=by rw[af (ME xw),ac]
  have x2:upd (upd H1 lw (.dK (dk st.worn))) x (.ins c.C B.dx (aS { B with w:=lw })) x=some (.ins c.C B.dx (aS { B with w:=lw })):=ac;generalize upd (upd H1 lw (.dK (dk st.worn))) x (.ins c.C B.dx (aS { B with w:=lw }))=H2 at s2 w2 x2 ⊢;refine⟨_,rfl,p,c.C,A0.dx,_,_,rfl,s2 _ _ S.ob,U.cl,U.nH,Fi A0,A0.h,_,rfl,s2 _ _ S.h,fun lh hlh=>?_⟩;have xh:x≠lh:=aj x2 hlh;have wh:lw≠lh:=aj w2 hlh;refine⟨_,rfl,x,c.C,B.dx,_,rfl,by rw[af xh];exact x2,U.cl,U.nH,yy _,?_⟩;rw[Je];have fh:H lh=none:=s2.free hlh;have s3:ax H (upd (upd H2 lh (.dK (dk st.hold))) x (.ins c.C B.dx (aS { B with w:=lw,h:=lh }))):=aR (s2.trans (ag hlh)) nx
  have w3:upd (upd H2 lh (.dK (dk st.hold))) x (.ins c.C B.dx (aS { B with w:=lw,h:=lh })) lw=some (.dK (dk st.worn)):=by rw[af (ME xw),af wh];exact w2
  have h3:upd (upd H2 lh (.dK (dk st.hold))) x (.ins c.C B.dx (aS { B with w:=lw,h:=lh })) lh=some (.dK (dk st.hold)):=by rw[af (ME xh),ac]
  have x3:upd (upd H2 lh (.dK (dk st.hold))) x (.ins c.C B.dx (aS { B with w:=lw,h:=lh })) x=some (.ins c.C B.dx (aS { B with w:=lw,h:=lh })):=ac;generalize upd (upd H2 lh (.dK (dk st.hold))) x (.ins c.C B.dx (aS { B with w:=lw,h:=lh }))=H3 at s3 w3 h3 x3 ⊢;have cl:=Mo S.cs;have kl:=nj cl;refine⟨_,rfl,p,c.C,A0.dx,_,_,rfl,s3 _ _ S.ob,U.cl,U.nC,Fh A0,A0.c,_,rfl,s3 _ _ S.c,fun oo lc hlc=>?_⟩;have c3:=s3 _ _ S.c
  have cne:∀ b,H b=none->b≠A0.c:=fun b e z=>by rw[z,S.c]at e;cases e
  have hFz:upd H3 A0.c (.frz oo (.dK (b5 A0.cs st.circ))) A0.c=some (.frz oo (.dK (b5 A0.cs st.circ))):=ac;have hF:∀ b,b≠A0.c->upd H3 A0.c (.frz oo (.dK (b5 A0.cs st.circ))) b=H3 b:=fun b hb=>af hb;generalize upd H3 A0.c (.frz oo (.dK (b5 A0.cs st.circ)))=HF at hlc hFz hF ⊢
  have lcc:lc≠A0.c:=fun z=>by rw[z,hFz]at hlc;cases hlc
  have flc3:H3 lc=none:=by rw[<-hF lc lcc];exact hlc
  have flc:H lc=none:=s3.free flc3
  refine DJ (d:=A0.c) (o:=oo) (kvs:=b5 A0.cs st.circ) (fun i σ HK=>∃ (v1 v2:Option V)(cs:List Addr),σ=[v1,v2]/\ax HF HK/\HK lc=some (.dK (b5 cs (st.circ.take i)))/\Paired (fun a (y:Int×List Int)=>HK a=some (.dK (rj y.2))) cs (st.circ.take i)/\(∀ b∈cs,HF b=none/\b≠lc)/\cs.Nodup)
   ⟨none,none,[],rfl,ag hlc,ac,.nil,(fun b h=>nomatch h),Nj⟩ (fun i σ HK _ ⟨_,_,_,_,t1,_⟩=>t1 _ _ hFz) ?_ ?_
  ·rintro i q σ HK T hq ⟨v1,v2,cs,rfl,t1,hd,pc,fr2,ndcs⟩ hT
   obtain⟨a,y,ha,hy,rfl⟩:=xJ cl hq;have csl:=Mo pc;obtain⟨y',hy',hA⟩:=paired_get S.cs ha;rw[hy]at hy';cases hy';have hil:i<st.circ.length:=(List.getElem?_eq_some_iff.mp hy).1
   have aF:HF a=some (.dK (rj y.2)):=by
    rw[hF a (fun z=>?_)]
    ·exact s3 _ _ hA
    ·have:=S.nd
     simp only[HA.fp,MN,Ms,not_or]at this;exact this.2.2.1.2 (by rw[<-z];exact MA ha)
   refine⟨T,_,rfl,eZ.of ac,rfl,_,_,rfl,_,_,rfl,rfl,?_⟩;have sT:=ag (o:=.tup [kV (Sum.inl y.1),V.ref a]) hT;refine Dr ⟨_,rfl,_,rfl,a,_,rfl,sT _ _ (t1 _ _ aF),fun l hl=>⟨_,Sum.inl y.1,by rw[af (aj (sT _ _ hd) hl)];exact sT _ _ hd,rfl,by rw[nj csl,Mz];exact aw (by omega),?_⟩⟩;have lF:HF l=none:=t1.free (sT.free hl);have llc:l≠lc:=(aj (sT _ _ hd) hl).symm
   have lcs:l∉cs:=fun z=>by
    obtain⟨j,hj⟩:=List.getElem?_of_mem z;obtain⟨z',_,e⟩:=paired_get pc hj;have:=sT _ _ e;rw[hl]at this;cases this
   refine⟨_,_,cs++[l],rfl,aR (t1.trans (sT.trans (ag hl))) hlc,?_,?_,fun b hb=>?_,ny ndcs lcs⟩
   ·rw[ac,AX _ (zT (fun z=>?_)),MG,hy,ML,oX _ _ _ csl]
    have hn:(st.circ.map (·.1))[i]? = some y.1:=by rw[List.getElem?_map,hy];rfl
    rw[Nu]at z;obtain⟨j,hj⟩:=List.getElem?_of_mem z;have hj2:=(List.getElem?_eq_some_iff.mp hj).1;rw[Mz]at hj2;rw[List.getElem?_take_of_lt (by omega)]at hj;have:=(List.getElem?_inj (by rw[Me];omega) ndc).mp (hj.trans hn.symm);omega
   ·rw[MG,hy,ML]
    refine aJ (Wz.Paired.mapP' pc fun b z hb e=>?_) (.cons (by rw[af llc,ac]) .nil);rw[af (fr2 b hb).2];exact (ag hl) _ _ (sT _ _ e)
   ·rcases Ml.mp hb with z | z
    ·exact fr2 b z
    ·rw[Mv.mp z];exact⟨lF,llc⟩
  rintro σ HK ⟨v1,v2,cs,rfl,t1,hd,pc,fr2,ndcs⟩;rw[kl,MI]at hd pc
  have xF:HF x=some (.ins c.C B.dx (aS { B with w:=lw,h:=lh })):=by rw[hF x (cne x nx)];exact x3
  refine⟨_,rfl,x,c.C,B.dx,_,rfl,t1 _ _ xF,U.cl,U.nC,yy _,?_⟩;rw[Jc]
  have nfz:∀ o' u',H A0.c≠some (.frz o' u'):=fun o' u' z=>by rw[S.c]at z;cases z
  refine⟨A0.c,oo,.dK (b5 A0.cs st.circ),by rw[af (cne x nx).symm];exact t1 _ _ hFz,nfz,?_⟩
  have lcx:lc≠x:=fun z=>by rw[z,x3]at flc3;cases flc3
  have csx:∀ b∈cs,b≠x/\b≠A0.c/\H b=none:=fun b hb=>by
   have e:=(fr2 b hb).1
   have n1:b≠A0.c:=fun z=>by rw[z,hFz]at e;cases e
   refine⟨(fun z=>by rw[z,xF]at e;cases e),n1,?_⟩;rw[hF b n1]at e;exact s3.free e
  generalize hH4:upd (upd HK x (.ins c.C B.dx (aS { B with w:=lw,h:=lh,c:=lc }))) A0.c (.dK (b5 A0.cs st.circ))=H4
  have g4:∀ b,b≠x->b≠A0.c->H4 b=HK b:=fun b n1 n2=>by rw[<-hH4,af n2,af n1]
  have x4:H4 x=some (.ins c.C B.dx (aS { B with w:=lw,h:=lh,c:=lc })):=by rw[<-hH4,af (cne x nx),ac]
  have s4:ax H H4:=fun b o e=>by
   by_cases hb:b=A0.c
   ·rw[hb,S.c]at e
    rw[hb,<-hH4,ac];exact e
   ·rw[g4 b (px b o e) hb]
    exact t1 _ _ (by rw[hF b hb];exact s3 _ _ e)
  have up4:∀ b o,H3 b=some o->b≠x->b≠A0.c->H4 b=some o:=fun b o e n1 n2=>by rw[g4 b n1 n2];exact t1 _ _ (by rw[hF b n2];exact e)
  have w4:=up4 _ _ w3 (ME xw) (cne _ fw);have h4:=up4 _ _ h3 (ME xh) (cne _ fh)
  have c4:H4 lc=some (.dK (b5 cs st.circ)):=by rw[g4 lc lcx lcc];exact hd
  have pc4:Paired (fun a (y:Int×List Int)=>H4 a=some (.dK (rj y.2))) cs st.circ:=Wz.Paired.mapP' pc fun b z hb e=>by
   rw[g4 b (csx b hb).1 (csx b hb).2.1];exact e
  have flc4:lw≠lc:=fun z=>by rw[z,flc3]at w3;cases w3
  have flh4:lh≠lc:=fun z=>by rw[z,flc3]at h3;cases h3
  have wcs:lw∉cs:=fun z=>by
   have e:=(fr2 lw z).1;rw[hF lw (cne _ fw),w3]at e;cases e
  have hcs:lh∉cs:=fun z=>by
   have e:=(fr2 lh z).1;rw[hF lh (cne _ fh),h3]at e;cases e
  clear hH4 up4 g4;obtain⟨qs,hq,hqp⟩:=S.d;refine⟨_,rfl,p,c.C,A0.dx,_,_,rfl,s4 _ _ S.ob,U.cl,U.nD,DL A0,A0.d,_,rfl,.inl (aW.of (s4 _ _ hq)),fun ld hld=>?_⟩;have xd:x≠ld:=aj x4 hld;refine⟨_,rfl,x,c.C,B.dx,_,rfl,by rw[af xd];exact x4,U.cl,U.nD,yy _,?_⟩;rw[Jd];have fd5:H ld=none:=s4.free hld
  have up:∀ b o,H4 b=some o->b≠x->upd (upd H4 ld (.lst (qs.map V.ref))) x (.ins c.C B.dx (aS { B with w:=lw,h:=lh,c:=lc,d:=ld })) b=some o:=fun b o e n=>by rw[af n];exact (ag hld) _ _ e
  refine⟨_,rfl,k x ⟨B.dx,lw,lh,lc,ld,cs⟩ _ nx ⟨?_,?_,up _ _ w4 (ME xw),up _ _ h4 (ME xh),up _ _ c4 lcx,?_,qs,?_,?_⟩ (fun b hb=>?_) ?_⟩
  ·rw[ac,<-JY _ cs]
  ·have d1:lw≠ld:=aj w4 hld
   have d2:lh≠ld:=aj h4 hld;have d3:lc≠ld:=aj c4 hld
   have d4:ld∉cs:=fun z=>by
    obtain⟨j,hj⟩:=List.getElem?_of_mem z;obtain⟨z',_,e⟩:=paired_get pc4 hj;rw[hld]at e;cases e
   have d5:lc∉cs:=fun z=>(fr2 lc z).2 rfl;simp[HA.fp,wh,flc4,flh4,wcs,hcs,d1,d2,d3,d4,d5,ndcs]
  ·exact Wz.Paired.mapP' pc4 fun b z hb e=>up _ _ e (csx b hb).1
  ·rw[af (ME xd),ac]
  ·exact Paired.mapP hqp fun a z e=>up _ _ (s4 _ _ e) (px _ _ e)
  ·simp[HA.fp]at hb
   rcases hb with rfl | rfl | rfl | rfl | z
   ·exact fw
   ·exact fh
   ·exact flc
   ·exact fd5
   ·exact (csx b z).2.2
  ·exact aR (s4.trans (ag hld)) nx
theorem D8 (F:cG K "is_new" "is_new" rZ f fd)(dz:aA P w K mg base bV c.C "inside" 1 ["self","guest"] (mL c.C))(NG:lO P w K mg base c)(bJ:aA P w K mg base bV c.C "partners" 1 ["self","guest"] (gr c.C)) : aZ P w K mg base (ju P w) 4 f fd ["hall","guest"] (um c):=by
 refine F.okX Ey (fun vs H Q E h=>?_) (fun cdv A outer s H vs Q E hr h=>?_)
 ·obtain⟨p,B,st,g,rfl,_⟩:=h
  rfl
 ·obtain⟨p,B,st,g,rfl,S,sm,h64,k⟩:=h
  have hu:=bR hr;have nI:(aS B).lookup ("inside" : Str)=none:=pX B (by decide +kernel);have nQ:(aS B).lookup ("partners" : Str)=none:=pX B (by decide +kernel)
  refine⟨_,ae (a7 (fH (eJ (dq dz (pv 0) U.cl hr.m cP (dB (pv 1))))) (ah (vK NG U (hr.mono (by decide)) gK rfl hr.hd rfl (pv 1))) (ay)) (
   ah (au (nA (Cf 1 (Fl hr (by decide))) (dq bJ (pv 0) U.cl hr.m cP (dB (pv 1))) (c6 aD) (aN _)))),?_⟩
  refine⟨_,rfl,p,B.dx,_,rfl,S.ob,nI,_,rfl,p,B,st,g,rfl,S,_,rfl,?_⟩
  cases e:(look st.worn g).isSome with
  | false =>
   rw[e,Mg Mt]at k;exact bA ⟨_,rfl,g,rfl,sm,fun dx hdx=>k dx _ (ag hdx) ac⟩
  | true =>
   rw[e,Mi rfl]at k;refine aV ⟨_,rfl,p,B.dx,_,rfl,S.ob,nQ,_,rfl,p,B,st,g,rfl,S,h64,fun l H1 hl s1 h1=>⟨MD _,fun l2 hl2=>?_⟩⟩;have s2:=ag (o:=.lst []) hl2;refine⟨l,l2,_,_,rfl,rfl,ja (aW.of (s2 _ _ h1)),ja (ns:=[]) (aW.of ac),fun b hb=>?_⟩
   have eb:(if false=true then !b else b)=decide (dG st.circ g=[]):=by
    show b=_
    have e1:(x5 (bn (dG st.circ g))=x5 [])↔dG st.circ g=[]:=by
     rw[md];constructor
     ·intro z
      have:=Ng List.length z;rw[ir]at this;exact List.length_eq_zero_iff.mp this
     ·intro z;rw[z];exact Ki
    by_cases hc:dG st.circ g=[]
    ·rw[Mp hc,hb.mpr (e1.mpr hc)]
    ·rw[Mx hc]
     cases b with
     | true=>exact absurd (e1.mp (hb.mp rfl)) hc
     | false=>rfl
   rw[eb];exact k _ (s1.trans s2)
theorem D7 (F:cG K "hub_of" "hub_of" jH f fd)(bJ:aA P w K mg base bV c.C "partners" 1 ["self","guest"] (gr c.C)) : aZ P w K mg base bV 2 f fd ["hall","ring"] (nO c):=by
 refine F.ok rS (fun vs H Q E h=>?_) (fun cdv A outer s H vs Q E hr h=>?_)
 ·obtain⟨p,l,B,st,L,r,rfl,_⟩:=h
  rfl
 ·obtain⟨p,l,B,st,L,r,rfl,S,hl,h64,ci,hL,k⟩:=h
  have hu:=bR hr;have nQ:(aS B).lookup ("partners" : Str)=none:=pX B (by decide +kernel)
  refine⟨_,ae (bt 2 rS.nd (AT (so:=ak jH) (N:=vj) (N':=["guest"]) (src:=[none]) rfl rfl yj rfl (bi (pv 1)) (fun cl C s2 H2 ex=>⟨iX 0 (show (["guest"]:List Str).Nodup by decide +kernel),dh,pv 0,d9⟩))) (
   ae (cL M9 rfl (bi (pv 1)) (iX 3 rS.nd) (ah (a7 (fH (eJ (be (qX rfl) (by rfl) T.any PyProof.Rows.boot_any (dB (df (so:=ak jH) (N:=vj) (N':=["partner","members"]) (src:=[none,some 2]) rfl rfl yj rfl (bi (dq bJ (pv 0) U.cl hr.m cP (dB (pv 3)))) (fun cl C s2 H2 ex=>⟨iX 0 (show (["partner","members"]:List Str).Nodup by decide +kernel),dh,vN (jX hu (pv 0) (pv 1))⟩)))))) (ah (au (pv 3))) (ay)))) (
   ah (au (fG)))),?_⟩
  refine⟨_,rfl,l,rfl,⟨_,aW.of hl⟩,fun dm hdm=>?_⟩;have s1:=ag (o:=.dK []) hdm
  refine a5 (K:=K) (a:=l) (xs:=r.map V.int) (fun i σ HK=>∃ v:Option V,σ=[v]/\ax H HK/\HK dm=some (.dK (rj ((r.take i).foldl gI []))))
   ⟨none,rfl,s1,ac⟩ (fun i σ HK _ ⟨_,_,s2,_⟩=>aW.of (s2 _ _ hl)) ?_ ?_
  ·rintro i y σ HK hi ⟨v,rfl,t1,hd⟩
   obtain⟨x,hx,rfl⟩:=bg hi;have hil:i<r.length:=(List.getElem?_eq_some_iff.mp hx).1;have ln:=uO (r.take i) [];rw[Mz]at ln;refine Dr ⟨_,rfl,_,Sum.inl x,hd,rfl,by unfold rj;rw[Me];exact aw (by simp at ln;omega),?_⟩;refine⟨_,rfl,aR t1 hdm,?_⟩;rw[ac,Dd,MG,hx,ML,M0];rfl
  rintro σ H1 ⟨v,rfl,t1,hd⟩;rw[Me,MI]at hd;have isin:∀ (HH:Hp)(x:Int),HH dm=some (.dK (rj (r.foldl gI [])))->cu HH dm (.int x) (dI (rj (r.foldl gI [])) (Sum.inl x:cf)):=fun HH x h=>cu.k (k:=Sum.inl x) h
  have memr:∀ x,decide (x∈r.foldl gI [])=decide (x∈r):=fun x=>by
   have:=uP r [] x;simp only[List.not_mem_nil,false_or]at this;exact decide_eq_decide.mpr this
  refine⟨_,rfl,l,rfl,⟨_,aW.of (t1 _ _ hl)⟩,a5 (K:=K) (a:=l) (xs:=r.map V.int) (fun i σ HH=>∃ v3:Option V,σ=[some (.ref p),some (.ref l),some (.ref dm),v3]/\ax H1 HH/\∀ x∈r.take i,(!fZ st.circ r x)=false)
   ⟨none,rfl,ax.refl _,fun x hx=>by simp at hx⟩ (fun i σ HH _ ⟨_,_,s2,_⟩=>aW.of (s2 _ _ (t1 _ _ hl))) ?_ ?_⟩
  ·rintro i y σ HH hi ⟨v3,rfl,t2,hm⟩
   obtain⟨g,hg,rfl⟩:=bg hi;have SH:=S.mono (t1.trans t2);refine⟨_,rfl,p,B.dx,_,rfl,SH.ob,nQ,_,rfl,p,B,st,g,rfl,SH,NI (ci.cl g) hL,fun lq H5 hlq s5 h5=>⟨lq,rfl,⟨_,aW.of h5⟩,fun q hq=>?_⟩⟩;have c64:=ci.cl g
   have sl:(bn (dG st.circ g)).length<=64:=by rw[ir];omega
   have hd5:=s5 _ _ (t2 _ _ hd)
   have em:fZ st.circ r g=((bn (dG st.circ g)).map fun x=>decide (x∈r)).any id:=by unfold fZ;rw[List.any_map];rfl
   generalize bn (dG st.circ g)=ps at h5 sl em
   refine a5 (K:=K) (a:=lq) (xs:=ps.map V.int) (fun j σ HK=>∃ v:Option V,σ=[v,some (.ref dm)]/\ax H5 HK/\HK q=some (.lst (((ps.take j).map fun x=>decide (x∈r)).map V.bl)))
    ⟨none,rfl,ag hq,ac⟩ (fun j σ HK _ ⟨_,_,s2,_⟩=>aW.of (s2 _ _ h5)) ?_ ?_
   ·rintro j y σ HK hj ⟨v,rfl,t3,hq3⟩
    obtain⟨x,hx,rfl⟩:=bg hj;have hjl:j<ps.length:=(List.getElem?_eq_some_iff.mp hx).1;refine gH ⟨_,rfl,_,rfl,dm,_,rfl,isin HK x (t3 _ _ hd5),_,hq3,by rw[Me,Me,Mz];exact aw (by omega),?_⟩;refine⟨_,rfl,aR t3 hq,?_⟩;rw[ac,Dx,memr,MG,hx,ML,Mr,Mr];rfl
   ·rintro σ HK ⟨v,rfl,t3,hq3⟩
    rw[Me,MI]at hq3;refine⟨q,_,rfl,aW.of hq3,_,rfl,?_⟩;rw[<-em]
    cases e:fZ st.circ r g with
    | true =>
     refine aV ⟨_,rfl,(t2.trans s5).trans t3,fun x hx=>?_⟩;rw[MG,hg,ML]at hx;rcases Ml.mp hx with z | z
     ·exact hm x z
     ·rw[Mv.mp z,e];rfl
    | false =>
     refine bA ⟨_,rfl,?_⟩;have fe:fT st.circ r=some g:=CP hm hg (by show (!fZ st.circ r g)=true;rw[e];rfl);rw[fe]at k;exact k HK (((t1.trans t2).trans s5).trans t3)
  ·rintro σ HH ⟨v3,rfl,t2,hm⟩
   rw[Me,MI]at hm
   have fe:fT st.circ r=none:=List.find?_eq_none.mpr fun x hx=>by rw[hm x hx];simp
   rw[fe]at k;exact k HH (t1.trans t2)
theorem xb (F:cG K "loose_ring" "loose_ring" js f fd)(fX:aA P w K mg base bV c.C "met" 1 ["self","one","other"] (Bc c.C)) : aZ P w K mg base bV 2 f fd ["hall","ring"] (qF c):=by
 refine F.ok oM (fun vs H Q E h=>?_) (fun cdv A outer s H vs Q E hr h=>?_)
 ·obtain⟨p,l,B,st,r,rfl,_⟩:=h
  rfl
 ·obtain⟨p,l,B,st,r,rfl,S,hl,h64,k⟩:=h
  have hu:=bR hr;have nT:(aS B).lookup ("met" : Str)=none:=pX B (by decide +kernel)
  refine⟨_,ae (cL M9 rfl (nF (by rfl) T.range (dB (be bB (by rfl) T.len Nm (dB (pv 1))))) (iX 2 oM.nd) (ah (a7 (fH (eJ (dq fX (pv 0) U.cl hr.m cP (c9 (bv cQ (pv 1) (aP FO (pv 2) (am)) (fun _ _=>rfl)) (bv cQ (pv 1) (pv 2) (fun _ _=>rfl)))))) (ah (au (aP fE (bI b8 (pv 1) (bS (pv 2)) cm) (bI b8 (pv 1) cm (bS (pv 2)))))) (ay)))) (
   ah (au (fG))),?_⟩
  refine⟨_,rfl,l,_,rfl,.inl (aW.of hl),_,rfl,?b1,?b2,?_⟩
  case b1=>rw[Me];omega
  case b2=>rw[Me];omega
  rw[Me]
  refine nh (n:=(r.length:Int).toNat) (fun i σ HH=>∃ v:Option V,σ=[some (.ref p),some (.ref l),v]/\ax H HH/\∀ x,x<i->(!cY st.circ (iH r x) (i7 r x))=false)
   ⟨none,rfl,ax.refl _,fun x hx=>by omega⟩ ?_ ?_
  ·rintro i σ HH hi ⟨v,rfl,t1,hm⟩
   rw[Int.zero_add]
   have hil:i<r.length:=by omega
   have SH:=S.mono t1;have hlH:=t1 _ _ hl;refine⟨_,rfl,p,B.dx,_,rfl,SH.ob,nT,_,rfl,_,rfl,_,_,rfl,rfl,l,_,_,_,rfl,rfl,aW.of hlH,Hs hil,_,rfl,_,rfl,l,_,_,_,rfl,rfl,aW.of hlH,G6 hil,p,B,st,_,_,rfl,SH,fun H5 s5=>⟨_,rfl,?_⟩⟩
   cases e:cY st.circ (iH r i) (i7 r i) with
   | true =>
    refine aV ⟨_,rfl,t1.trans s5,fun x hx=>?_⟩
    by_cases hx2:x<i
    ·exact hm x hx2
    ·rw[show x=i by omega,e];rfl
   | false =>
    have fe:cw st.circ r=some i:=Fa hil hm (by show (!cY st.circ (iH r i) (i7 r i))=true;rw[e];rfl);rw[fe]at k;have hl5:=s5 _ _ hlH;refine bA ⟨_,rfl,_,rfl,_,rfl,eG ⟨l,_,rfl,aW.of hl5,fun q1 hq1=>?_⟩⟩;rw[zU];have g1:=ag (o:=.lst ((r.map V.int).drop i)) hq1;refine⟨_,rfl,eG ⟨_,rfl,_,rfl,l,_,rfl,aW.of (g1 _ _ hl5),fun q2 hq2=>?_⟩⟩;rw[zV];have g2:=ag (o:=.lst ((r.map V.int).take i)) hq2;refine⟨q1,q2,_,_,rfl,rfl,g2 _ _ ac,ac,by rw[M7,Mz,Me];exact Nz (aw (by omega)),fun q3 hq3=>?_⟩;have t5:=(t1.trans s5).trans (g1.trans g2);refine k q3 _ (t5.free hq3) (t5.trans (ag hq3)) ?_;rw[ac,Mr,List.map_drop,Nu]
  ·rintro σ HH ⟨v,rfl,t1,hm⟩
   have fe:cw st.circ r=none:=List.find?_eq_none.mpr fun x hx=>by rw[hm x (by have:=Nd.mp hx;omega)];simp
   rw[fe]at k;exact k HH t1
theorem rH (F:cG K "hubless_rings" "hubless_rings" dY f fd)(Crings_of:ar P w K mg base "rings_of" 6 ["hall"] (kh c))(Chub_of:ar P w K mg base "hub_of" 2 ["hall","ring"] (nO c)) : aZ P w K mg base bV 7 f fd ["hall"] (rY c):=by
 refine F.ok rT (fun vs H Q E h=>?_) (fun cdv A outer s H vs Q E hr h=>?_)
 ·obtain⟨p,B,st,L,rfl,_⟩:=h
  rfl
 ·obtain⟨p,B,st,L,rfl,S,G,h64,smk,ci,hL,k⟩:=h
  have hu:=bR hr;refine⟨_,ah (au (df (so:=ak dY) (N:=kW) (N':=["ring","hall"]) (src:=[none,some 0]) rfl rfl yj rfl (bi (aO Crings_of hr.m rfl (dB (pv 0)))) (fun cl C s2 H2 ex=>⟨iX 0 (show (["ring","hall"]:List Str).Nodup by decide +kernel),j5 (eI (y4 (aO Chub_of hr.m rfl (c9 (pv 1) (pv 0))))),pv 0⟩))),?_⟩;have P:=dt G;obtain⟨rs1,rs2⟩:=dO P;refine⟨_,rfl,p,B,st,rfl,S,G,h64,smk,fun lr as H1 hlr s1 h1 pa fr=>⟨lr,rfl,⟨_,aW.of h1⟩,fun q hq=>?_⟩⟩;generalize aQ st.worn=rs at pa k rs1 rs2;have hpl:=Mo pa
  refine a5 (K:=K) (a:=lr) (xs:=as.map V.ref) (fun i σ HK=>∃ (v:Option V)(bs:List Addr),σ=[v,some (.ref p)]/\ax H1 HK/\HK q=some (.lst (bs.map V.ref))/\Paired (fun a (r:List Int)=>HK a=some (.lst (r.map V.int))) bs ((rs.take i).filter fun r=>(fT st.circ r).isNone)/\(∀ b∈bs,b∈as)/\bs.length<=i)
   ⟨none,[],rfl,ag hq,ac,.nil,(fun b h=>nomatch h),Mn _⟩ (fun i σ HK _ ⟨_,_,_,s2,_⟩=>aW.of (s2 _ _ h1)) ?_ ?_
  ·rintro i y σ HK hi ⟨v,bs,rfl,t1,hq2,pb,sub,bl⟩
   obtain⟨a,ha,rfl⟩:=bg hi;have hil:i<as.length:=(List.getElem?_eq_some_iff.mp ha).1;obtain⟨r,hr0,hA⟩:=paired_get pa ha;have rl:=rs2 r (MA hr0);have SK:=S.mono (s1.trans t1)
   have ex:(rs.take (i+1)).filter (fun r=>(fT st.circ r).isNone)=(rs.take i).filter (fun r=>(fT st.circ r).isNone)++[r].filter (fun r=>(fT st.circ r).isNone):=by rw[MG,hr0,ML,M5]
   have noq:∀ b∈as,b≠q:=fun b hb z=>by
    obtain⟨j,hj⟩:=List.getElem?_of_mem hb;obtain⟨r',_,e⟩:=paired_get pa hj;rw[z,hq]at e;cases e
   have keepN:∀ H5,ax HK H5->([r].filter fun r=>(fT st.circ r).isNone)=[]->∃ (v:Option V)(bs:List Addr),([some (V.ref a),some (.ref p)]:St)=[v,some (.ref p)]/\ax H1 H5/\H5 q=some (.lst (bs.map V.ref))/\Paired (fun a (r:List Int)=>H5 a=some (.lst (r.map V.int))) bs ((rs.take (i+1)).filter fun r=>(fT st.circ r).isNone)/\(∀ b∈bs,b∈as)/\bs.length<=i+1:=fun H5 s5 e=>⟨_,bs,rfl,t1.trans s5,s5 _ _ hq2,by rw[ex,e,NQ];exact Paired.mapP pb fun b z e=>s5 _ _ e,sub,by omega⟩
   have addY:∀ H5,ax HK H5->([r].filter fun r=>(fT st.circ r).isNone)=[r]->∃ ys,H5 q=some (.lst ys)/\ys.length<sizeLine/\∃ (v:Option V)(bs:List Addr),([some (V.ref a),some (.ref p)]:St)=[v,some (.ref p)]/\ax H1 (upd H5 q (.lst (ys++[V.ref a])))/\upd H5 q (.lst (ys++[V.ref a])) q=some (.lst (bs.map V.ref))/\Paired (fun b (r:List Int)=>upd H5 q (.lst (ys++[V.ref a])) b=some (.lst (r.map V.int))) bs ((rs.take (i+1)).filter fun r=>(fT st.circ r).isNone)/\(∀ b∈bs,b∈as)/\bs.length<=i+1:=fun H5 s5 e =>
    ⟨_,s5 _ _ hq2,by rw[Me];exact aw (by omega),_,bs++[a],rfl,aR (t1.trans s5) hq,by rw[ac,Mr];rfl,by
     rw[ex,e]
     exact aJ (Wz.Paired.mapP' pb fun b z hb e=>by rw[af (noq b (sub b hb))];exact s5 _ _ e) (.cons (by rw[af (noq a (MA ha))];exact s5 _ _ (t1 _ _ hA)) .nil),fun b hb=>by
     rcases Ml.mp hb with z | z
     ·exact sub b z
     ·rw[Mv.mp z];exact MA ha,by rw[Mj,MU];omega⟩
   refine pF ⟨_,rfl,_,rfl,p,a,B,st,L,r,rfl,SK,t1 _ _ hA,by omega,ci,hL,fun H5 s5=>⟨_,rfl,?_⟩⟩
   cases e:fT st.circ r with
   | none =>
    rw[show decide (Hj none=V.non)=true from Mp rfl];exact bA ⟨_,rfl,addY H5 s5 (by simp[e])⟩
   | some g =>
    rw[show decide (Hj (some g)=V.non)=false from Mx (by intro z;cases z)];exact aV (keepN H5 s5 (by simp[e]))
  ·rintro σ HK ⟨v,bs,rfl,t1,hq2,pb,sub,bl⟩
   rw[Me,hpl,MI]at pb;exact k q bs HK (s1.free hq) (s1.trans t1) hq2 pb fun b hb=>fr b (sub b hb)
theorem vF (F:cG K "stuck_rings" "stuck_rings" fQ f fd)(Crings_of:ar P w K mg base "rings_of" 6 ["hall"] (kh c))(Cloose_ring:ar P w K mg base "loose_ring" 2 ["hall","ring"] (qF c)) : aZ P w K mg base bV 7 f fd ["hall"] (wm c):=by
 refine F.ok v0 (fun vs H Q E h=>?_) (fun cdv A outer s H vs Q E hr h=>?_)
 ·obtain⟨p,B,st,L,rfl,_⟩:=h
  rfl
 ·obtain⟨p,B,st,L,rfl,S,G,h64,smk,ci,hL,k⟩:=h
  have hu:=bR hr;refine⟨_,ah (au (df (so:=ak fQ) (N:=oF) (N':=["ring","hall"]) (src:=[none,some 0]) rfl rfl yj rfl (bi (aO Crings_of hr.m rfl (dB (pv 0)))) (fun cl C s2 H2 ex=>⟨iX 0 (show (["ring","hall"]:List Str).Nodup by decide +kernel),j5 (eI (y4 (aO Cloose_ring hr.m rfl (c9 (pv 1) (pv 0))))),pv 0⟩))),?_⟩;have P:=dt G;obtain⟨rs1,rs2⟩:=dO P;refine⟨_,rfl,p,B,st,rfl,S,G,h64,smk,fun lr as H1 hlr s1 h1 pa fr=>⟨lr,rfl,⟨_,aW.of h1⟩,fun q hq=>?_⟩⟩;generalize aQ st.worn=rs at pa k rs1 rs2;have hpl:=Mo pa
  refine a5 (K:=K) (a:=lr) (xs:=as.map V.ref) (fun i σ HK=>∃ (v:Option V)(bs:List Addr),σ=[v,some (.ref p)]/\ax H1 HK/\HK q=some (.lst (bs.map V.ref))/\Paired (fun a (r:List Int)=>HK a=some (.lst (r.map V.int))) bs ((rs.take i).filter fun r=>(cw st.circ r).isNone)/\(∀ b∈bs,b∈as)/\bs.length<=i)
   ⟨none,[],rfl,ag hq,ac,.nil,(fun b h=>nomatch h),Mn _⟩ (fun i σ HK _ ⟨_,_,_,s2,_⟩=>aW.of (s2 _ _ h1)) ?_ ?_
  ·rintro i y σ HK hi ⟨v,bs,rfl,t1,hq2,pb,sub,bl⟩
   obtain⟨a,ha,rfl⟩:=bg hi;have hil:i<as.length:=(List.getElem?_eq_some_iff.mp ha).1;obtain⟨r,hr0,hA⟩:=paired_get pa ha;have rl:=rs2 r (MA hr0);have SK:=S.mono (s1.trans t1)
   have ex:(rs.take (i+1)).filter (fun r=>(cw st.circ r).isNone)=(rs.take i).filter (fun r=>(cw st.circ r).isNone)++[r].filter (fun r=>(cw st.circ r).isNone):=by rw[MG,hr0,ML,M5]
   have noq:∀ b∈as,b≠q:=fun b hb z=>by
    obtain⟨j,hj⟩:=List.getElem?_of_mem hb;obtain⟨r',_,e⟩:=paired_get pa hj;rw[z,hq]at e;cases e
   have keepN:∀ H5,ax HK H5->([r].filter fun r=>(cw st.circ r).isNone)=[]->∃ (v:Option V)(bs:List Addr),([some (V.ref a),some (.ref p)]:St)=[v,some (.ref p)]/\ax H1 H5/\H5 q=some (.lst (bs.map V.ref))/\Paired (fun a (r:List Int)=>H5 a=some (.lst (r.map V.int))) bs ((rs.take (i+1)).filter fun r=>(cw st.circ r).isNone)/\(∀ b∈bs,b∈as)/\bs.length<=i+1:=fun H5 s5 e=>⟨_,bs,rfl,t1.trans s5,s5 _ _ hq2,by rw[ex,e,NQ];exact Paired.mapP pb fun b z e=>s5 _ _ e,sub,by omega⟩
   have addY:∀ H5,ax HK H5->([r].filter fun r=>(cw st.circ r).isNone)=[r]->∃ ys,H5 q=some (.lst ys)/\ys.length<sizeLine/\∃ (v:Option V)(bs:List Addr),([some (V.ref a),some (.ref p)]:St)=[v,some (.ref p)]/\ax H1 (upd H5 q (.lst (ys++[V.ref a])))/\upd H5 q (.lst (ys++[V.ref a])) q=some (.lst (bs.map V.ref))/\Paired (fun b (r:List Int)=>upd H5 q (.lst (ys++[V.ref a])) b=some (.lst (r.map V.int))) bs ((rs.take (i+1)).filter fun r=>(cw st.circ r).isNone)/\(∀ b∈bs,b∈as)/\bs.length<=i+1:=fun H5 s5 e =>
    ⟨_,s5 _ _ hq2,by rw[Me];exact aw (by omega),_,bs++[a],rfl,aR (t1.trans s5) hq,by rw[ac,Mr];rfl,by
     rw[ex,e]
     exact aJ (Wz.Paired.mapP' pb fun b z hb e=>by rw[af (noq b (sub b hb))];exact s5 _ _ e) (.cons (by rw[af (noq a (MA ha))];exact s5 _ _ (t1 _ _ hA)) .nil),fun b hb=>by
     rcases Ml.mp hb with z | z
     ·exact sub b z
     ·rw[Mv.mp z];exact MA ha,by rw[Mj,MU];omega⟩
   refine pF ⟨_,rfl,_,rfl,p,a,B,st,r,rfl,SK,t1 _ _ hA,by omega,?_⟩
   cases e:cw st.circ r with
   | none =>
    intro H5 s5;refine⟨_,rfl,?_⟩;rw[show decide (V.non=V.non)=true from Mp rfl];exact bA ⟨_,rfl,addY H5 s5 (by simp[e])⟩
   | some j =>
    intro l5 H5 hl5 s5 h5;refine⟨_,rfl,?_⟩;rw[show decide (V.ref l5=V.non)=false from Mx (by intro z;cases z)];exact aV (keepN H5 s5 (by simp[e]))
  ·rintro σ HK ⟨v,bs,rfl,t1,hq2,pb,sub,bl⟩
   rw[Me,hpl,MI]at pb;exact k q bs HK (s1.free hq) (s1.trans t1) hq2 pb fun b hb=>fr b (sub b hb)
theorem rM (F:cG K "rings_by_hubs" "rings_by_hubs" gA f fd)(Chub_of:ar P w K mg base "hub_of" 2 ["hall","ring"] (nO c))(Cring_with:eR P w K mg base "ring_with" 5 ["hall","guest"] (qH c))(Cring_home:ar P w K mg base "ring_home" 2 ["ring"] kg) : aZ P w K mg base bV 6 f fd ["hall","rings"] (nK c):=by
 refine F.ok gj (fun vs H Q E h=>?_) (fun cdv A outer s H vs Q E hr h=>?_)
 ·obtain⟨p,l,B,st,as,L,rs,rfl,_⟩:=h
  rfl
 ·obtain⟨p,l,B,st,as,L,rs,rfl,S,G,h64,smk,ci,hL,hl,pa,sub,hubs,k⟩:=h
  have nil0:(0:Nat)<=sizeLine:=MD _
  refine⟨_,ae (bt 2 gj.nd (c6 aD)) (
   ae (cL M9 rfl (bi (pv 1)) (iX 3 gj.nd) (ah (a6 (eB MM PySem.F.slot_list_extend PySem.F.type_list_extend nv (pv 2) (dB (aO Cring_home hr.m rfl (dB (y9 Cring_with hr.m rfl vL (c9 (pv 0) (aO Chub_of hr.m rfl (c9 (pv 0) (pv 3)))))))))))) (
   ah (au (pv 2)))),?_⟩
  have P:=dt G;obtain⟨rs1,rs2⟩:=dO P;have chin:∀ r∈rs,fk st.circ r∈r:=fun r hr=>(pY (hubs r hr)).1;have ck:∀ r∈rs,fk st.circ r∈aq st.worn:=fun r hr=>(P.mem_ring (sub.subset hr) (chin r hr)).1;have f64:=P.flat64 h64
  have tot:∀ i,(d8 ((j7 st.worn (fk st.circ) rs).take i)).length<=64:=fun i=>by
   have e:(j7 st.worn (fk st.circ) rs).take i=j7 st.worn (fk st.circ) (rs.take i):=by unfold j7;rw[Nu]
   have pm:(j7 st.worn (fk st.circ) (rs.take i)).flatten.Perm (rs.take i).flatten:=vc fun r hr=>(pk P (sub.subset (Na hr)) (chin r (Na hr))).1
   have h:=u7 (j7 st.worn (fk st.circ) (rs.take i)) fun r hr=>by
    obtain⟨r0,h0,rfl⟩:=MF.mp hr;rw[iq];exact (pk P (sub.subset (Na h0)) (chin r0 (Na h0))).2.1
   rw[e];rw[pm.length_eq]at h;have:=dU ((List.take_sublist i rs).trans sub);omega
  refine⟨nil0,fun lr hlr=>?_⟩;have sA:=ag (o:=.lst []) hlr;have hr1:upd H lr (.lst []) lr=some (.lst (([]:List Addr).map V.ref)):=ac;generalize upd H lr (.lst [])=H1 at sA hr1 ⊢;have hpl:=Mo pa
  refine⟨_,rfl,l,rfl,⟨_,aW.of (sA _ _ hl)⟩,a5 (K:=K) (a:=l) (xs:=as.map V.ref) (fun i σ HH=>∃ v:Option V,σ=[some (.ref p),some (.ref l),some (.ref lr),v]/\ax H HH/\aY HH lr (d8 ((j7 st.worn (fk st.circ) rs).take i)))
   ⟨none,rfl,sA,⟨[],hr1,.nil⟩⟩ (fun i σ HH _ ⟨_,_,s2,_⟩=>aW.of (s2 _ _ hl)) ?_ ?_⟩
  ·rintro i y σ HH hi ⟨v,rfl,t1,row⟩
   obtain⟨a,ha,rfl⟩:=bg hi;obtain⟨r,hr0,hA⟩:=paired_get pa ha;have hrm:=MA hr0;obtain⟨bs,hb,hp⟩:=row;have hbl:=Mo hp;have t1':=tot i;have t2':=tot (i+1)
   have hro:(j7 st.worn (fk st.circ) rs)[i]? = some (c7 (wr st.worn) st.worn.length (fk st.circ r)):=by unfold j7;rw[List.getElem?_map,hr0];rfl
   have en:d8 ((j7 st.worn (fk st.circ) rs).take (i+1))=d8 ((j7 st.worn (fk st.circ) rs).take i)++iV (c7 (wr st.worn) st.worn.length (fk st.circ r)):=by unfold d8;rw[MG,hro,ML,Oo,List.flatMap_singleton]
   have eh:Hj (fT st.circ r)=V.int (fk st.circ r):=by
    have:=hubs r hrm;unfold fk
    cases e:fT st.circ r with
    | none=>rw[e]at this;cases this
    | some g=>rfl
   have SH:=S.mono t1;have gk:=ck r hrm;have R:=(pk P (sub.subset hrm) (chin r hrm)).2;have ol:=P.ord_le gk;refine⟨_,rfl,.inl ⟨rfl,_,aW.of hb⟩,_,rfl,_,rfl,_,rfl,p,a,B,st,L,r,rfl,SH,t1 _ _ hA,by have:=rs2 r (sub.subset hrm);omega,ci,hL,fun H3 s3=>?_⟩;rw[eh];refine⟨p,B,st,fk st.circ r,rfl,SH.mono s3,G,h64,smk,smk _ gk,?_⟩;rw[Mi (bd.mpr gk)];intro l3 H4 hl3 s4 h4;refine⟨l3,_,rfl,h4,(fun z=>by have:=Ng List.length z;rw[iq]at this;have r1:=R.1;simp at this;omega),by rw[iq];omega,fun l5 H5 hl5 s5 row5=>?_⟩;obtain⟨cs,hc,hpc⟩:=row5;have hcl:=Mo hpc;have s35:=(s3.trans s4).trans s5;rw[en,Mj]at t2';refine⟨lr,l5,_,_,rfl,rfl,s35 _ _ hb,hc,by rw[Me,Me];exact Nz (aw (by omega)),?_⟩;refine⟨_,rfl,aR (t1.trans s35) hlr,bs++cs,by rw[ac,Mr],?_⟩;rw[en];exact aJ (Paired.mapP hp fun b q e=>by rw[af (bE e hb (by intro z;cases z))];exact s35 _ _ e) (Paired.mapP hpc fun b q e=>by rw[af (bE e (s35 _ _ hb) (by intro z;cases z))];exact e)
  ·rintro σ HH ⟨v,rfl,t1,row⟩
   rw[Me,hpl,Nb (by unfold j7;rw[Me];exact Mn _)]at row;exact⟨_,rfl,k lr HH hlr t1 row⟩
theorem tW (F:cG K "rings_by_one" "rings_by_one" eX f fd)(Cloose_ring:ar P w K mg base "loose_ring" 2 ["hall","ring"] (qF c)) : aZ P w K mg base bV 3 f fd ["hall","rings","one"] (qw c):=by
 refine F.ok eV (fun vs H Q E h=>?_) (fun cdv A outer s H vs Q E hr h=>?_)
 ·obtain⟨p,l,B,st,as,one,rs,rfl,_⟩:=h
  rfl
 ·obtain⟨p,l,B,st,as,one,rs,rfl,S,G,h64,hl,pa,sub,hs,k⟩:=h
  have nil0:(0:Nat)<=sizeLine:=MD _
  refine⟨_,ae (bt 3 eV.nd (c6 aD)) (
   ae (cL M9 rfl (bi (pv 1)) (iX 4 eV.nd) (ae (bt 5 eV.nd (aO Cloose_ring hr.m rfl (c9 (pv 0) (pv 4)))) (
   ae (a6 (eB MM PySem.F.slot_list_extend PySem.F.type_list_extend nv (pv 3) (dB (df (so:=ak eX) (N:=lZ) (N':=["guest","one"]) (src:=[none,some 2]) rfl rfl yj rfl (bi (bI b8 (pv 5) cm (bS (vQ pG (am))))) (fun cl C s2 H2 ex=>⟨iX 0 (show (["guest","one"]:List Str).Nodup by decide +kernel),dh,bo (c9 (pv 1) (pv 0))⟩))))) (
   ae (a6 (eB MM MS MT bM (pv 3) (dB (bo (c9 (bv cQ (pv 5) (vQ pG (am)) (fun _ _=>rfl)) (bv cQ (pv 5) (am) (fun _ _=>rfl))))))) (
   ah (a6 (eB MM MS MT bM (pv 3) (dB (bo (c9 (pv 2) (bv cQ (pv 5) (vQ pG (am)) (fun _ _=>rfl)))))))))))) (
   ah (au (pv 3)))),?_⟩
  have P:=dt G;obtain⟨rs1,rs2⟩:=dO P
  have two:(2:Nat)<=sizeLine:=by decide
  have lz:∀ r∈rs,(cK st.circ r).length=r.length/\2<=r.length:=fun r hr=>by
   obtain⟨g,m,rfl,R,m2⟩:=P.ring2 (sub.subset hr);obtain⟨g',e,_,pp,_⟩:=qd P.inj R m2 (hs _ hr);rw[e];exact⟨pp.length_eq,by rw[b6];exact m2⟩
  have fl64:rs.flatten.length<=64:=MZ (dU sub) (P.flat64 h64);have rl64:rs.length<=64:=MZ sub.length_le (by omega)
  have tl:∀ i,((rs.map (cK st.circ)).take i |>.flatMap (gT one)).length<=64+i:=fun i=>by
   have key:∀ (qs:List (List Int)),(∀ r∈qs,(cK st.circ r).length=r.length/\2<=r.length)->((qs.map (cK st.circ)).flatMap (gT one)).length=qs.flatten.length+qs.length:=fun qs=>by
    induction qs with
    | nil=>intro _;rfl
    | cons r rs ih =>
     intro h;have h0:=h r Mm;rw[MQ,NN,Mj,ih fun q hq=>h q (Mh _ hq),AQ one (by omega),MJ,Mj,MX,h0.1];omega
   have e:=key (rs.take i) fun r hr=>lz r (Na hr);rw[<-Nu,e,Mz]
   have fsub:(rs.take i).flatten.length<=rs.flatten.length:=by
    have:=Ng (fun z=>z.flatten.length) (List.take_append_drop i rs);simp only[List.flatten_append,Mj]at this;omega
   omega
  refine⟨nil0,fun lr hlr=>?_⟩;have sA:=ag (o:=.lst []) hlr;have hr1:upd H lr (.lst []) lr=some (.lst (([]:List Addr).map V.ref)):=ac;generalize upd H lr (.lst [])=H1 at sA hr1 ⊢;have hpl:=Mo pa
  refine⟨_,rfl,l,rfl,⟨_,aW.of (sA _ _ hl)⟩,a5 (K:=K) (a:=l) (xs:=as.map V.ref) (fun i σ HH=>∃ v w:Option V,σ=[some (.ref p),some (.ref l),some (.int one),some (.ref lr),v,w]/\ax H HH/\aY HH lr (((rs.map (cK st.circ)).take i).flatMap (gT one)))
   ⟨none,none,rfl,sA,⟨[],hr1,.nil⟩⟩ (fun i σ HH _ ⟨_,_,_,s2,_⟩=>aW.of (s2 _ _ hl)) ?_ ?_⟩
  ·rintro i y σ HH hi ⟨v,w,rfl,t1,row⟩
   obtain⟨a,ha,rfl⟩:=bg hi;have hil:i<as.length:=(List.getElem?_eq_some_iff.mp ha).1;obtain⟨r,hr0,hA⟩:=paired_get pa ha;have hrm:=MA hr0;obtain⟨bs,hb,hp⟩:=row;have hbl:=Mo hp;have t1':=tl i;obtain⟨l1,l2⟩:=lz r hrm;have r64:=rs2 r (sub.subset hrm)
   have en:((rs.map (cK st.circ)).take (i+1)).flatMap (gT one)=((rs.map (cK st.circ)).take i).flatMap (gT one)++gT one (cK st.circ r):=by
    rw[MG,List.getElem?_map,hr0]
    show (_++[cK st.circ r]).flatMap _=_
    rw[Oo,List.flatMap_singleton]
   refine⟨_,rfl,_,rfl,p,a,B,st,r,rfl,S.mono t1,t1 _ _ hA,by omega,?_⟩;obtain⟨j,ej⟩:=MY.mp (hs r hrm)
   have ez:cK st.circ r=r.drop j++r.take j:=by unfold cK;rw[ej]
   rw[ej];intro l3 H3 hl3 s3 h3;rw[<-ez]at h3;rw[en];generalize cK st.circ r=z at h3 l1;generalize ((rs.map (cK st.circ)).take i).flatMap (gT one)=ps at hp hbl t1'
   have zne:z≠[]:=by intro q;rw[q]at l1;simp at l1;omega
   have hb3:=s3 _ _ hb;refine⟨_,rfl,.inl ⟨rfl,_,aW.of hb3⟩,_,rfl,eG ⟨_,rfl,_,rfl,l3,_,rfl,aW.of h3,fun l4 hl4=>?_⟩⟩;rw[CJ];have s4:=ag (o:=.lst (z.map V.int).dropLast) hl4
   have h4:upd H3 l4 (.lst (z.map V.int).dropLast) l4=some (.lst (z.dropLast.map V.int)):=by rw[ac,List.map_dropLast]
   generalize upd H3 l4 (.lst (z.map V.int).dropLast)=H4 at s4 h4 ⊢;refine⟨l4,rfl,⟨_,aW.of h4⟩,fun q hq=>?_⟩
   have zd:z.dropLast.length<=64:=by rw[List.length_dropLast];omega
   refine a5 (K:=K) (a:=l4) (xs:=z.dropLast.map V.int) (fun j σ HK=>∃ (v:Option V)(cs:List Addr),σ=[v,some (.int one)]/\ax H4 HK/\HK q=some (.lst (cs.map V.ref))/\Paired (fun b (pq:Int×Int)=>HK b=some (.tup [.int pq.1,.int pq.2])) cs ((z.dropLast.take j).map fun x=>(one,x))/\cs.length<=j)
    ⟨none,[],rfl,ag hq,ac,.nil,Mn _⟩ (fun j σ HK _ ⟨_,_,_,s2,_⟩=>aW.of (s2 _ _ h4)) ?_ ?_
   ·rintro j y σ HK hj ⟨v,cs,rfl,t2,hq2,pc,cl⟩
    obtain⟨x,hx,rfl⟩:=bg hj;have hjl:j<z.dropLast.length:=(List.getElem?_eq_some_iff.mp hx).1;refine gH ⟨_,rfl,_,rfl,two,fun t ht=>⟨_,by rw[af (aj hq2 ht)];exact hq2,by rw[Me];exact aw (by omega),?_⟩⟩;refine⟨_,cs++[t],rfl,aR (t2.trans (ag ht)) hq,by rw[ac,Mr];rfl,?_,by rw[Mj,MU];omega⟩;rw[MG,hx,ML,Mr];have tq:t≠q:=(aj hq2 ht).symm;exact aJ (Paired.mapP pc fun b e z=>by rw[af (bE z hq2 (by intro u;cases u))];exact (ag ht) _ _ z) (.cons (by rw[af tq,ac]) .nil)
   ·rintro σ HK ⟨v,cs,rfl,t2,hq2,pc,cl⟩
    rw[Me]at pc cl;rw[MI]at pc;have s3K:=(s3.trans s4).trans t2;have hbK:=s3K _ _ hb;refine⟨lr,q,_,_,rfl,rfl,hbK,hq2,by rw[Me,Me];exact Nz (aw (by omega)),?_⟩
    have push:∀ (HA:Hp)(as1:List Addr)(l1:List (Int×Int))(pq:Int×Int)(t:Addr),HA lr=some (.lst (as1.map V.ref))->Paired (fun b (e:Int×Int)=>HA b=some (.tup [.int e.1,.int e.2])) as1 l1->HA t=none->Paired (fun b (e:Int×Int)=>upd (upd HA t (.tup [.int pq.1,.int pq.2])) lr (.lst (as1.map V.ref++[V.ref t])) b=some (.tup [.int e.1,.int e.2])) (as1++[t]) (l1++[pq]):=fun HA as1 l1 pq t g1 g2 g3 =>
     aJ (Paired.mapP g2 fun b e y=>by rw[af (bE y g1 (by intro u;cases u))];exact (ag g3) _ _ y) (.cons (by rw[af ((aj g1 g3).symm),ac]) .nil)
    have nl3:l3≠lr:=(aj hb hl3).symm
    have pr5:Paired (fun b (e:Int×Int)=>upd HK lr (.lst (bs.map V.ref++cs.map V.ref)) b=some (.tup [.int e.1,.int e.2])) (bs++cs) (ps++z.dropLast.map fun x=>(one,x)) :=
     aJ (Paired.mapP hp fun b e y=>by rw[af (bE y hb (by intro u;cases u))];exact s3K _ _ y) (Paired.mapP pc fun b e y=>by rw[af (bE y hbK (by intro u;cases u))];exact y)
    have h35:upd HK lr (.lst (bs.map V.ref++cs.map V.ref)) l3=some (.lst (z.map V.int)):=by rw[af nl3];exact t2 _ _ (s4 _ _ h3)
    have hr5:upd HK lr (.lst (bs.map V.ref++cs.map V.ref)) lr=some (.lst ((bs++cs).map V.ref)):=by rw[ac,Mr]
    have sH5:ax H (upd HK lr (.lst (bs.map V.ref++cs.map V.ref))):=aR (t1.trans s3K) hlr;generalize upd HK lr (.lst (bs.map V.ref++cs.map V.ref))=H5 at pr5 h35 hr5 sH5 ⊢
    have l5:(bs++cs).length<=300:=by rw[Mj];omega
    generalize bs++cs=ds at pr5 hr5 l5
    have eL:z.map V.int=z.dropLast.map V.int++[V.int (z.getLastD 0)]:=by
     have e0:z=z.dropLast++[z.getLast zne]:=(NK zne).symm
     have e1:z.getLastD 0=z.getLast zne:=by rw[Nt,List.getLast?_eq_some_getLast zne];rfl
     have:=Ng (List.map V.int) e0;rw[Mr]at this;rw[e1];exact this
    have aL:Bo (z.map V.int) (-1)=some (V.int (z.getLastD 0)):=by rw[eL];exact pR _ _
    have a0:Bo (z.map V.int) 0=some (V.int (z.headD 0)):=by
     cases z with
     | nil=>exact absurd rfl zne
     | cons b bs=>exact fz (j:=0) rfl
    refine⟨_,rfl,.inl ⟨rfl,_,aW.of hr5⟩,_,rfl,_,rfl,l3,_,_,_,rfl,rfl,aW.of h35,aL,_,rfl,l3,_,_,_,rfl,rfl,aW.of h35,a0,two,fun t ht=>⟨lr,_,_,rfl,rfl,(ag ht) _ _ hr5,by rw[Me];exact aw (by omega),?_⟩⟩;have pr6:=push H5 ds _ (z.getLastD 0,z.headD 0) t hr5 pr5 ht
    have h36:upd (upd H5 t (.tup [.int (z.getLastD 0),.int (z.headD 0)])) lr (.lst (ds.map V.ref++[V.ref t])) l3=some (.lst (z.map V.int)):=by rw[af nl3];exact (ag ht) _ _ h35
    have hr6:upd (upd H5 t (.tup [.int (z.getLastD 0),.int (z.headD 0)])) lr (.lst (ds.map V.ref++[V.ref t])) lr=some (.lst ((ds++[t]).map V.ref)):=by rw[ac,Mr];rfl
    have sH6:ax H (upd (upd H5 t (.tup [.int (z.getLastD 0),.int (z.headD 0)])) lr (.lst (ds.map V.ref++[V.ref t]))):=aR (sH5.trans (ag ht)) hlr;dsimp only at pr6;generalize upd (upd H5 t (.tup [.int (z.getLastD 0),.int (z.headD 0)])) lr (.lst (ds.map V.ref++[V.ref t]))=H6 at pr6 h36 hr6 sH6 ⊢;refine⟨_,rfl,.inl ⟨rfl,_,aW.of hr6⟩,_,rfl,_,rfl,_,rfl,l3,_,_,_,rfl,rfl,aW.of h36,aL,two,fun t' ht'=>⟨lr,_,_,rfl,rfl,(ag ht') _ _ hr6,by rw[Me,Mj,MU];exact aw (by omega),?_⟩⟩;refine⟨_,_,rfl,aR (sH6.trans (ag ht')) hlr,ds++[t]++[t'],by rw[ac,Mr (l₁:=ds++[t])];rfl,?_⟩;have pr7:=push H6 (ds++[t]) _ (one,z.getLastD 0) t' hr6 pr6 ht';dsimp only at pr7;rw[show ps++gT one z=ps++(z.dropLast.map fun x=>(one,x))++[(z.getLastD 0,z.headD 0)]++[(one,z.getLastD 0)] by unfold gT;simp];exact pr7
  ·rintro σ HH ⟨v,w,rfl,t1,row⟩
   rw[Me,hpl,Nb (by rw[Me];exact Mn _)]at row;exact⟨_,rfl,k lr HH hlr t1 row⟩
theorem tX (F:cG K "rings_by_two" "rings_by_two" cB f fd) : aZ P w K mg base bV 1 f fd ["rings","one","other"] qx:=by
 refine F.ok eW (fun vs H Q E h=>?_) (fun cdv A outer s H vs Q E hr h=>?_)
 ·obtain⟨l,rs,one,other,rfl,_⟩:=h
  rfl
 ·obtain⟨l,rs,one,other,rfl,ll,h64,f64,h2,k⟩:=h
  have nil0:(0:Nat)<=sizeLine:=MD _
  have two:(2:Nat)<=sizeLine:=by decide
  refine⟨_,ae (a7 (fH (AW (pv 0) (fun _=>rfl))) (ah (au (c6 aD))) (ay)) (
   ae (y7 (ix:=3) (so:=ak cB) (N:=fD) (N':=["ring","one"]) (src:=[none,some 1]) rfl rfl yj rfl (bi (pv 0)) (fun cl C s2 H2 ex=>⟨iX 0 (show (["ring","one"]:List Str).Nodup by decide +kernel),dh,bo (c9 (pv 1) (bv (Aa K) (pv 0) (am) (fun _ _=>rfl)))⟩) eW.nd rfl rfl) (
   ae (bt 4 eW.nd (bv cQ (pv 0) (vQ pG (am)) (fun _ _=>rfl))) (
   ae (a6 (eB MM MS MT bM (pv 3) (dB (bo (c9 (pv 2) (bv cQ (pv 4) (vQ pG (am)) (fun _ _=>rfl))))))) (
   ae (a6 (eB MM PySem.F.slot_list_extend PySem.F.type_list_extend nv (pv 3) (dB (df (so:=ak cB) (N:=fD) (N':=["guest","one"]) (src:=[none,some 1]) rfl rfl yj rfl (bi (bI b8 (pv 4) (bS (am)) cm)) (fun cl C s2 H2 ex=>⟨iX 0 (show (["guest","one"]:List Str).Nodup by decide +kernel),dh,bo (c9 (pv 1) (pv 0))⟩))))) (
   ae (a6 (eB MM MS MT bM (pv 3) (dB (bo (c9 (pv 2) (bv cQ (pv 4) (am) (fun _ _=>rfl))))))) (
   ae (cL M9 rfl (Ja (bI b8 (pv 0) cm (bS (vQ pG (am)))) (by rfl) T.reversed) (iX 5 eW.nd) (ah (a6 (eB MM PySem.F.slot_list_extend PySem.F.type_list_extend nv (pv 3) (dB (df (so:=ak cB) (N:=fD) (N':=["guest","other"]) (src:=[none,some 2]) rfl rfl yj rfl (bi (aP fE (bI b8 (pv 5) (bS (am)) cm) (bI b8 (pv 5) cm (bS (am))))) (fun cl C s2 H2 ex=>⟨iX 0 (show (["guest","other"]:List Str).Nodup by decide +kernel),dh,bo (c9 (pv 1) (pv 0))⟩))))))) (
   ae (a6 (eB MM MS MT bM (pv 3) (dB (bo (c9 (pv 1) (pv 2)))))) (
   ah (au (pv 3)))))))))),?_⟩
  obtain⟨as,hl,pa⟩:=id ll;have hpl:=Mo pa;rcases List.eq_nil_or_concat rs with e0 | ⟨init,last,e0⟩
  ·subst e0
   have ea:as=[]:=List.eq_nil_of_length_eq_zero hpl;subst ea;exact⟨_,rfl,false,.inl ⟨_,aW.of hl,rfl⟩,bA ⟨nil0,fun l' hl'=>k l' _ hl' (ag hl') ⟨[],ac,.nil⟩⟩⟩
  rw[List.concat_eq_append]at e0;subst e0;rw[Mj,MU]at hpl h64;rcases List.eq_nil_or_concat as with e1 | ⟨ai,al,e1⟩
  ·rw[e1]at hpl;simp at hpl
  rw[List.concat_eq_append]at e1;subst e1;rw[Mj,MU]at hpl
  have hil:ai.length=init.length:=by omega
  have hal:H al=some (.lst (last.map V.int)):=by
   obtain⟨r,h1,h2⟩:=paired_get pa (i:=ai.length) (a:=al) (by rw[List.getElem?_append_right (Mn _)];simp);rw[hil,List.getElem?_append_right (Mn _)]at h1;simp at h1;rw[h1];exact h2
  have hai:∀ i a,ai[i]? = some a->∃ r:List Int,init[i]? = some r/\H a=some (.lst (r.map V.int)):=fun i a h=>by
   have hi:=(List.getElem?_eq_some_iff.mp h).1;obtain⟨r,h1,h2⟩:=paired_get pa (i:=i) (a:=a) (by rw[List.getElem?_append_left hi];exact h);rw[List.getElem?_append_left (by omega)]at h1;exact⟨r,h1,h2⟩
  have hl2:=h2 last (by simp);rw[List.flatten_append,Mj]at f64
  have fl:last.length<=64:=by simp at f64;omega
  have fi:init.flatten.length<=64:=by omega
  refine⟨_,rfl,true,.inl ⟨_,aW.of hl,by simp⟩,aV ⟨_,rfl,l,rfl,⟨_,aW.of hl⟩,fun q hq=>?_⟩⟩;refine rN (rest:=[some (.int one)]) (f:=fun z:Addr×List Int=>V.ref z.1) (pr:=fun z=>(one,fS z.2)) (zs:=(ai++[al]).zip (init++[last])) hq (by rw[GD (by simp;omega)];exact hl) (by rw[List.length_zip];simp;omega) (fun i z HK Q' hz sK k'=>?_) (fun H1 s1 row1=>?_)
  ·obtain⟨ha,hr0⟩:=List.getElem?_zip_eq_some.mp hz
   obtain⟨r',hr',hA⟩:=paired_get pa ha;rw[hr0]at hr';cases hr';have r2:=h2 z.2 (MA hr0)
   have a0:Bo (z.2.map V.int) 0=some (V.int (fS z.2)):=by
    cases e:z.2 with
    | nil=>rw[e]at r2;simp at r2
    | cons b bs=>exact fz (j:=0) rfl
   exact⟨_,rfl,_,rfl,z.1,_,_,_,rfl,rfl,aW.of (sK _ _ hA),a0,two,fun t ht=>k' t ht⟩
  rw[HI (f:=fun r=>(one,fS r)) (by simp;omega)]at row1;obtain⟨d1,hd1,pd1⟩:=row1;have dl1:=Mo pd1;rw[Me,Mj,MU]at dl1
  have aL:Bo ((ai++[al]).map V.ref) (-1)=some (V.ref al):=by rw[Mr];exact pR _ _
  refine⟨_,rfl,_,rfl,l,_,_,_,rfl,rfl,aW.of (s1 _ _ hl),aL,?_⟩
  have EQ:last≠[]:=fun z=>by rw[z]at hl2;simp at hl2
  have eL:last.map V.int=last.dropLast.map V.int++[V.int (last.getLastD 0)]:=by
   have e0:last=last.dropLast++[last.getLast EQ]:=(NK EQ).symm
   have e1:last.getLastD 0=last.getLast EQ:=by rw[Nt,List.getLast?_eq_some_getLast EQ];rfl
   have:=Ng (List.map V.int) e0;rw[Mr]at this;rw[e1];exact this
  have aLL:Bo (last.map V.int) (-1)=some (V.int (last.getLastD 0)):=by rw[eL];exact pR _ _
  have aL0:Bo (last.map V.int) 0=some (V.int (fS last)):=by
   cases e:last with
   | nil=>exact absurd e EQ
   | cons b bs=>exact fz (j:=0) rfl
  refine⟨_,rfl,.inl ⟨rfl,_,aW.of hd1⟩,_,rfl,_,rfl,_,rfl,al,_,_,_,rfl,rfl,aW.of (s1 _ _ hal),aLL,two,fun t2 ht2=>⟨q,_,_,rfl,rfl,(ag ht2) _ _ hd1,by rw[Me];exact aw (by omega),?_⟩⟩;have row2:=mF (a:=other) (b:=last.getLastD 0) hd1 pd1 ht2;have sH2:ax H (upd (upd H1 t2 (.tup [.int other,.int (last.getLastD 0)])) q (.lst (d1.map V.ref++[V.ref t2]))):=aR (s1.trans (ag ht2)) hq;generalize upd (upd H1 t2 (.tup [.int other,.int (last.getLastD 0)])) q (.lst (d1.map V.ref++[V.ref t2]))=H2 at row2 sH2 ⊢;generalize e2:((init++[last]).map fun r=>(one,fS r))++[(other,last.getLastD 0)]=ps2 at row2;obtain⟨d2,hd2,pd2⟩:=row2;have dl2:=Mo pd2
  have pl2:ps2.length<=66:=by rw[<-e2];simp;omega
  refine⟨_,rfl,.inl ⟨rfl,_,aW.of hd2⟩,_,rfl,_,rfl,eG ⟨al,_,rfl,aW.of (sH2 _ _ hal),fun l3 hl3=>?_⟩⟩;rw[EV];have s3:=ag (o:=.lst ((last.map V.int).drop 1)) hl3
  have h3:upd H2 l3 (.lst ((last.map V.int).drop 1)) l3=some (.lst (last.tail.map V.int)):=by rw[ac,List.drop_one,List.map_tail]
  have hd3:=s3 _ _ hd2;have pd3:Paired (fun b (e:Int×Int)=>upd H2 l3 (.lst ((last.map V.int).drop 1)) b=some (.tup [.int e.1,.int e.2])) d2 ps2:=Paired.mapP pd2 fun b e y=>s3 _ _ y;have sH3:=sH2.trans s3;generalize upd H2 l3 (.lst ((last.map V.int).drop 1))=H3 at h3 hd3 pd3 sH3 ⊢;refine⟨l3,rfl,⟨_,aW.of h3⟩,fun q3 hq3=>?_⟩;refine rN (rest:=[some (.int one)]) (f:=V.int) (pr:=fun x=>(one,x)) (zs:=last.tail) hq3 h3 (by rw[Ol];omega) (fun i z HK Q' hz sK k'=>⟨_,rfl,_,rfl,two,fun t ht=>k' t ht⟩) (fun H4 s4 row4=>?_);obtain⟨d4,hd4,pd4⟩:=row4;have dl4:=Mo pd4;rw[Me,Ol]at dl4;refine⟨q,q3,_,_,rfl,rfl,s4 _ _ hd3,hd4,by rw[Me,Me];exact Nz (aw (by omega)),?_⟩;have row5:=Dh (s4 _ _ hd3) (Paired.mapP pd3 fun b e y=>s4 _ _ y) pd4;have sH5:ax H (upd H4 q (.lst (d2.map V.ref++d4.map V.ref))):=aR (sH3.trans s4) hq;generalize upd H4 q (.lst (d2.map V.ref++d4.map V.ref))=H5 at row5 sH5 ⊢;generalize e5:ps2++(last.tail.map fun x=>(one,x))=ps5 at row5;obtain⟨d5,hd5,pd5⟩:=row5;have dl5:=Mo pd5
  have pl5:ps5.length<=130:=by rw[<-e5,Mj,Me,Ol];omega
  refine⟨_,rfl,.inl ⟨rfl,_,aW.of hd5⟩,_,rfl,_,rfl,al,_,_,_,rfl,rfl,aW.of (sH5 _ _ hal),aL0,two,fun t6 ht6=>⟨q,_,_,rfl,rfl,(ag ht6) _ _ hd5,by rw[Me];exact aw (by omega),?_⟩⟩;have row6:=mF (a:=other) (b:=fS last) hd5 pd5 ht6;have sH6:ax H (upd (upd H5 t6 (.tup [.int other,.int (fS last)])) q (.lst (d5.map V.ref++[V.ref t6]))):=aR (sH5.trans (ag ht6)) hq;generalize upd (upd H5 t6 (.tup [.int other,.int (fS last)])) q (.lst (d5.map V.ref++[V.ref t6]))=H6 at row6 sH6 ⊢;generalize e6:ps5++[(other,fS last)]=ps6 at row6
  have pl6:ps6.length<=131:=by rw[<-e6,Mj,MU];omega
  refine⟨_,rfl,eG ⟨_,rfl,_,rfl,l,_,rfl,aW.of (sH6 _ _ hl),fun l7 hl7=>?_⟩⟩;rw[CJ];have s7:=ag (o:=.lst ((ai++[al]).map V.ref).dropLast) hl7
  have h7:upd H6 l7 (.lst ((ai++[al]).map V.ref).dropLast) l7=some (.lst (ai.map V.ref)):=by rw[ac,Mr,List.map_singleton,List.dropLast_concat]
  have row7:=row6.mono s7;have sH7:=sH6.trans s7;generalize upd H6 l7 (.lst ((ai++[al]).map V.ref).dropLast)=H7 at h7 row7 sH7 ⊢
  have q7:q≠l7:=fun z=>by
   obtain⟨ds,h,pp⟩:=id row6;rw[z]at h;rw[h]at hl7;cases hl7
  have tl:∀ i,((init.reverse.take i).flatMap fun r=>(r.tail++r.take 1).map fun x=>(other,x)).length<=64:=fun i=>by
   have key:∀ (rs:List (List Int)),(rs.flatMap fun r=>(r.tail++r.take 1).map fun x=>(other,x)).length=rs.flatten.length:=fun rs=>by
    induction rs with
    | nil=>rfl
    | cons r rs ih =>
     rw[NN,Mj,ih,MJ,Mj,Me,Mj,Ol,Mz]
     cases r with
     | nil=>rfl
     | cons b t=>simp
   rw[key];have:=Ng (fun z=>z.flatten.length) (List.take_append_drop i init.reverse);simp only[List.flatten_append,Mj]at this;have e2:init.reverse.flatten.length=init.flatten.length:=(NO init).flatten.length_eq;omega
  refine⟨l7,_,rfl,aW.of h7,GY (K:=K) (a:=l7) (xs:=ai.map V.ref) (fun i σ HH=>∃ v:Option V,σ=[some (.ref l),some (.int one),some (.int other),some (.ref q),some (.ref al),v]/\ax H HH/\HH l7=some (.lst (ai.map V.ref))/\aY HH q (ps6++((init.reverse.take i).flatMap fun r=>(r.tail++r.take 1).map fun x=>(other,x))))
   ⟨none,rfl,sH7,h7,by simpa using row7⟩ (fun i σ HH _ ⟨_,_,_,h,_⟩=>aW.of h) ?_ ?_⟩
  ·rintro i y σ HH hi ⟨v,rfl,t1,hx7,ds,hds,pds⟩
   rw[<-List.map_reverse]at hi;obtain⟨a,ha,rfl⟩:=bg hi
   have hil2:i<ai.length:=by have:=(List.getElem?_eq_some_iff.mp ha).1;simpa using this
   rw[List.getElem?_reverse hil2]at ha;obtain⟨r,hr0,hA⟩:=hai _ _ ha
   have hr1:init.reverse[i]? = some r:=by rw[List.getElem?_reverse (by omega),<-hil];exact hr0
   have en:(init.reverse.take (i+1)).flatMap (fun r=>(r.tail++r.take 1).map fun x=>(other,x))=(init.reverse.take i).flatMap (fun r=>(r.tail++r.take 1).map fun x=>(other,x))++((r.tail++r.take 1).map fun x=>(other,x)):=by
    rw[MG,hr1,ML,Oo,List.flatMap_singleton]
   have t1':=tl i;have t2':=tl (i+1);have dl:=Mo pds;rw[Mj]at dl;have aH:=t1 _ _ hA
   have r64:r.length<=64:=by
    have:=qe (MA hr0);omega
   refine⟨_,rfl,.inl ⟨rfl,_,aW.of hds⟩,_,rfl,_,rfl,eG ⟨a,_,rfl,aW.of aH,fun l8 hl8=>?_⟩⟩;rw[EV];have g8:=ag (o:=.lst ((r.map V.int).drop 1)) hl8;refine⟨_,rfl,eG ⟨_,rfl,a,_,rfl,aW.of (g8 _ _ aH),fun l9 hl9=>?_⟩⟩;rw[GQ];have g9:=ag (o:=.lst ((r.map V.int).take 1)) hl9;refine⟨l8,l9,_,_,rfl,rfl,g9 _ _ ac,ac,by rw[M7,Mz,Me];exact Nz (aw (by omega)),fun l10 hl10=>?_⟩;have g10:=ag (o:=.lst ((r.map V.int).drop 1++(r.map V.int).take 1)) hl10;have sK:=(g8.trans g9).trans g10
   have h10:upd (upd (upd HH l8 (.lst ((r.map V.int).drop 1))) l9 (.lst ((r.map V.int).take 1))) l10 (.lst ((r.map V.int).drop 1++(r.map V.int).take 1)) l10=some (.lst ((r.tail++r.take 1).map V.int)):=by rw[ac,Mr,List.drop_one,List.map_tail,Nu]
   generalize upd (upd (upd HH l8 (.lst ((r.map V.int).drop 1))) l9 (.lst ((r.map V.int).take 1))) l10 (.lst ((r.map V.int).drop 1++(r.map V.int).take 1))=H10 at h10 sK ⊢;refine⟨l10,rfl,⟨_,aW.of h10⟩,fun q11 hq11=>?_⟩;refine rN (rest:=[some (.int other)]) (f:=V.int) (pr:=fun x=>(other,x)) (zs:=r.tail++r.take 1) hq11 h10 (by rw[Mj,Ol,Mz];omega) (fun i z HK Q' hz sK k'=>⟨_,rfl,_,rfl,two,fun t ht=>k' t ht⟩) (fun H12 s12 row12=>?_);obtain⟨d12,hd12,pd12⟩:=row12;have dl12:=Mo pd12;rw[en,Mj]at t2';refine⟨q,q11,_,_,rfl,rfl,s12 _ _ (sK _ _ hds),hd12,by rw[Me,Me];exact Nz (aw (by omega)),?_⟩;refine⟨_,rfl,aR (t1.trans (sK.trans s12)) hq,by rw[af (ME q7)];exact s12 _ _ (sK _ _ hx7),?_⟩;rw[en,<-Nf];exact Dh (s12 _ _ (sK _ _ hds)) (Paired.mapP pds fun b e y=>s12 _ _ (sK _ _ y)) pd12
  ·rintro σ HH ⟨v,rfl,t1,hx7,ds,hds,pds⟩
   have t1':=tl (ai.map V.ref).length;have dl:=Mo pds;rw[Mj]at dl;rw[Me,hil,Nb (by rw[N5];exact Mn _)]at pds;refine⟨_,rfl,.inl ⟨rfl,_,aW.of hds⟩,_,rfl,_,rfl,two,fun t ht=>⟨q,_,_,rfl,rfl,(ag ht) _ _ hds,by rw[Me];exact aw (by omega),_,rfl,k q _ hq (aR (t1.trans (ag ht)) hq) ?_⟩⟩;have rowF:=mF (a:=one) (b:=other) hds pds ht;rw[<-e6,<-e5,<-e2,EK]at rowF;exact rowF
theorem yM (F:cG K "check_two" "check_two" ii f fd)(Cis_new:eR P w K mg base "is_new" 4 ["hall","guest"] (um c)) : aZ P w K mg base bV 5 f fd ["hall","one","other"] (iK c):=by
 refine F.ok qt (fun vs H Q E h=>?_) (fun cdv A outer s H vs Q E hr h=>?_)
 ·obtain⟨p,B,st,L,one,other,rfl,_⟩:=h
  rfl
 ·obtain⟨p,B,st,L,one,other,rfl,S,sm1,sm2,ci,hL,l1,l2,c1,c2,ne,k⟩:=h
  have two:(2:Nat)<=sizeLine:=by decide
  refine⟨_,ae (y7 (ix:=3) (so:=ak ii) (N:=ti) (N':=["guest","hall"]) (src:=[none,some 0]) rfl rfl yj rfl (F0 (bo (c9 (pv 1) (pv 2)))) (fun cl C s2 H2 ex=>⟨iX 0 (show (["guest","hall"]:List Str).Nodup by decide +kernel),dh,y9 Cis_new hr.m rfl vL (c9 (pv 1) (pv 0))⟩) qt.nd rfl rfl) (
   ae (a7 (aB cC (pv 1) (pv 2) (aN _)) (ah (AV)) (ay)) (
   ah (a7 (fH (eJ (be (xI rfl) (by rfl) T.all PyProof.Rows.boot_all (dB (pv 3))))) (ah (AV)) (ay)))),?_⟩
  refine⟨_,rfl,_,rfl,two,fun t ht=>?_⟩;have s1:=ag (o:=.tup [V.int one,V.int other]) ht;have hT:upd H t (.tup [V.int one,V.int other]) t=some (.tup [V.int one,V.int other]):=ac;generalize upd H t (.tup [V.int one,V.int other])=H1 at s1 hT ⊢;refine⟨t,rfl,⟨_,eZ.of hT⟩,fun q hq=>?_⟩;have c64:∀ g,(dG st.circ g).length<64:=fun g=>NI (ci.cl g) hL
  refine CQ (K:=K) (a:=t) (xs:=[V.int one,V.int other]) (fun i σ HK=>∃ v:Option V,σ=[v,some (.ref p)]/\ax H1 HK/\HK q=some (.lst ((List.replicate i true).map V.bl)))
   ⟨none,rfl,ag hq,ac⟩ (fun i σ HK _ ⟨_,_,s2,_⟩=>eZ.of (s2 _ _ hT)) ?_ ?_
  ·rintro i y σ HK hi ⟨v,rfl,t1,hq2⟩
   have hil:=(List.getElem?_eq_some_iff.mp hi).1
   obtain⟨g,eg,sg,lg,cg⟩:∃ g:Int,y=.int g/\bj g/\(look st.worn g).isSome=true/\dG st.circ g=[]:=by
    match i,hi with
    | 0,hi=>exact⟨one,(Mu hi).symm,sm1,l1,c1⟩
    | 1,hi=>exact⟨other,(Mu hi).symm,sm2,l2,c2⟩
   subst eg;refine gH ⟨_,rfl,_,rfl,p,B,st,g,rfl,S.mono (s1.trans t1),sg,c64 g,?_⟩;rw[Mi lg];intro H2 s2;rw[Mp cg];refine⟨_,s2 _ _ hq2,by rw[Me,List.length_replicate];exact aw (by simp at hil;omega),_,rfl,aR (t1.trans s2) hq,?_⟩;rw[ac,List.replicate_succ',Mr];rfl
  ·rintro σ HK ⟨v,rfl,t1,hq2⟩
   refine⟨_,rfl,_,rfl,rfl,_,rfl,?_⟩;rw[Mx (fun z=>ne (V.int.inj z))];refine aV ⟨_,rfl,q,_,rfl,aW.of hq2,_,rfl,?_⟩;exact aV (k HK (s1.trans t1))
theorem Ce (F:cG K "two_row" "two_row" pE f fd)(Ccheck_two:ar P w K mg base "check_two" 5 ["hall","one","other"] (iK c))(Crings_of:ar P w K mg base "rings_of" 6 ["hall"] (kh c))(Crings_by_two:ar P w K mg base "rings_by_two" 1 ["rings","one","other"] qx) : aZ P w K mg base bV 7 f fd ["hall","one","other"] (qK c):=by
 refine F.ok Cs (fun vs H Q E h=>?_) (fun cdv A outer s H vs Q E hr h=>?_)
 ·obtain⟨p,B,st,L,one,other,rfl,_⟩:=h
  rfl
 ·obtain⟨p,B,st,L,one,other,rfl,S,G,h64,smk,sm1,sm2,ci,hL,l1,l2,c1,c2,ne,k⟩:=h
  refine⟨_,ae (a6 (aO Ccheck_two hr.m rfl (zE (pv 0) (pv 1) (pv 2)))) (
   ah (au (aO Crings_by_two hr.m rfl (zE (aO Crings_of hr.m rfl (dB (pv 0))) (pv 1) (pv 2))))),?_⟩
  refine⟨_,rfl,_,rfl,_,rfl,p,B,st,L,one,other,rfl,S,sm1,sm2,ci,hL,l1,l2,c1,c2,ne,fun H1 s1=>?_⟩;have P:=dt G;obtain⟨rs1,rs2⟩:=dO P
  have fl64:(aQ st.worn).flatten.length<=64:=by
   obtain⟨w1,w2,w3,w4⟩:=P.wrong;obtain⟨a1,b1,_,_⟩:=du P.inj w3 w4 (aU st.worn) [] (fun x h=>h) (fun x h=>by cases h);have:=b7 a1 fun x hx=>(b1 x hx).2;have e:(aQ st.worn).flatten.length<=(aU st.worn).length:=this;omega
  refine⟨_,rfl,p,B,st,rfl,S.mono s1,G,h64,smk,fun lr as H2 hlr s2 h2 pa _=>⟨_,rfl,_,rfl,lr,_,one,other,rfl,⟨as,h2,pa⟩,by omega,fl64,fun r hr=>?_,fun l' H' hl' s' row=>k l' H' ((s1.trans s2).free hl') ((s1.trans s2).trans s') row⟩⟩;obtain⟨g,m,rfl,R,m2⟩:=P.ring2 hr;rw[b6];exact m2
theorem AF (F:cG K "home_row" "home_row" je f fd)(Ccheck_two:ar P w K mg base "check_two" 5 ["hall","one","other"] (iK c))(Crings_of:ar P w K mg base "rings_of" 6 ["hall"] (kh c))(Chub_of:ar P w K mg base "hub_of" 2 ["hall","ring"] (nO c))(Crings_by_hubs:ar P w K mg base "rings_by_hubs" 6 ["hall","rings"] (nK c))(Chubless_rings:ar P w K mg base "hubless_rings" 7 ["hall"] (rY c))(Cstuck_rings:ar P w K mg base "stuck_rings" 7 ["hall"] (wm c))(Crings_by_two:ar P w K mg base "rings_by_two" 1 ["rings","one","other"] qx)(Crings_by_one:ar P w K mg base "rings_by_one" 3 ["hall","rings","one"] (qw c)) : aZ P w K mg base bV 8 f fd ["hall","one","other"] (nN c):=by
 refine F.ok mI (fun vs H Q E h=>?_) (fun cdv A outer s H vs Q E hr h=>?_)
 ·obtain⟨p,B,st,L,one,other,rfl,_⟩:=h
  rfl
 ·obtain⟨p,B,st,L,one,other,rfl,S,G,h64,smk,sm1,sm2,ci,hL,l1,l2,c1,c2,ne,k⟩:=h
  have hu:=bR hr
  refine⟨_,ae (a6 (aO Ccheck_two hr.m rfl (zE (pv 0) (pv 1) (pv 2)))) (
   ae (bt 3 mI.nd (aO Crings_by_hubs hr.m rfl (c9 (pv 0) (df (so:=ak je) (N:=vi) (N':=["ring","hall"]) (src:=[none,some 0]) rfl rfl yj rfl (bi (aO Crings_of hr.m rfl (dB (pv 0)))) (fun cl C s2 H2 ex=>⟨iX 0 (show (["ring","hall"]:List Str).Nodup by decide +kernel),j5 (eI (y6 (aO Chub_of hr.m rfl (c9 (pv 1) (pv 0))))),pv 0⟩))))) (
   ae (bt 4 mI.nd (aO Chubless_rings hr.m rfl (dB (pv 0)))) (
   ae (a7 (AW (aO Cstuck_rings hr.m rfl (dB (pv 0))) (fun _=>rfl)) (ah (au (aP fE (pv 3) (aO Crings_by_two hr.m rfl (zE (pv 4) (pv 1) (pv 2)))))) (ay)) (
   ah (au (aP fE (pv 3) (aO Crings_by_one hr.m rfl (zE (pv 0) (pv 4) (pv 1))))))))),?_⟩
  refine⟨_,rfl,_,rfl,_,rfl,p,B,st,L,one,other,rfl,S,sm1,sm2,ci,hL,l1,l2,c1,c2,ne,fun H1 s1=>?_⟩;have P:=dt G;obtain⟨rs1,rs2⟩:=dO P;have f64:=P.flat64 h64;refine⟨_,rfl,_,rfl,p,B,st,rfl,S.mono s1,G,h64,smk,fun lr as H2 hlr s2 h2 pa _=>⟨lr,rfl,⟨_,aW.of h2⟩,fun q hq=>?_⟩⟩;have hpl:=Mo pa;have s02:=s1.trans s2;refine DI (rest:=[some (.ref p)]) (rs:=aQ st.worn) (f:=fun r=>!(fT st.circ r).isNone) hq h2 pa (by omega) (fun a r HK Q' hr sK hA k'=>?_) (fun bs H3 s3 hq3 pb _=>?_)
  ·refine⟨_,rfl,_,rfl,p,a,B,st,L,r,rfl,(S.mono s02).mono sK,hA,by have:=rs2 r hr;omega,ci,hL,fun H5 s5=>⟨_,rfl,?_⟩⟩
   cases e:fT st.circ r with
   | none =>
    have:=k' H5 s5;rw[e]at this;exact this
   | some g =>
    have:=k' H5 s5;rw[e]at this;exact this
  have s03:=s02.trans s3;refine⟨p,q,B,st,bs,L,cV st,rfl,S.mono s03,G,h64,smk,ci,hL,hq3,pb,NU,fun r hr=>(dL.mp hr).2,fun lh H4 hlh s4 row4=>?_⟩;have s04:=s03.trans s4;refine⟨_,rfl,p,B,st,L,rfl,S.mono s04,G,h64,smk,ci,hL,fun lb ab H5 hlb s5 h5 p5 _=>?_⟩;have s05:=s04.trans s5;have abl:ab.length=(bP st).length:=Mo p5;have p5':Paired (fun a (r:List Int)=>H5 a=some (.lst (r.map V.int))) ab (bP st):=p5;refine⟨_,rfl,p,B,st,L,rfl,S.mono s05,G,h64,smk,ci,hL,fun l3 a3 H6 hl3 s6 h6 p6 _=>?_⟩;have a3l:a3.length=(m8 st).length:=Mo p6;have s06:=s05.trans s6;have h56:=s6 _ _ h5;have p56:Paired (fun a (r:List Int)=>H6 a=some (.lst (r.map V.int))) ab (bP st):=Paired.mapP p5' fun a r e=>s6 _ _ e;have bsub:(bP st).Sublist (aQ st.worn):=NU;have bl:=bsub.length_le;have bf:=dU bsub;obtain⟨hds,hhd,hpd⟩:=id row4;have hdl:=Mo hpd;have mh:=Ai P;have hfl:=dU (rs:=cV st) (qs:=aQ st.worn) NU;have hdl2:hds.length=(wJ st).length:=hdl
  have fin:∀ (lt:Addr)(H7:Hp),ax H6 H7->aY H7 lt (tL st one other)->∃ ts:List Addr,H7 lt=some (.lst (ts.map V.ref))/\(hds.map V.ref).length+(ts.map V.ref).length<=sizeLine/\∀ q9,H7 q9=none->Q (.ref q9) (upd H7 q9 (.lst (hds.map V.ref++ts.map V.ref))):=fun lt H7 s7 row7=>by
   obtain⟨ts,hts,pts⟩:=row7;have tl:=Mo pts;have ml:=Ah P one other;refine⟨ts,hts,?_,fun q9 hq9=>?_⟩
   ·rw[Me,Me]
    refine Nz (aw ?_);split at ml<;>omega
   ·have g9:=ag (o:=.lst (hds.map V.ref++ts.map V.ref)) hq9
    have s49:=(s5.trans s6).trans s7;refine k q9 _ ((s06.trans s7).free hq9) ((s06.trans s7).trans g9) ⟨hds++ts,by rw[ac,Mr],?_⟩;exact aJ (Paired.mapP hpd fun a e y=>g9 _ _ (s49 _ _ y)) (Paired.mapP pts fun a e y=>g9 _ _ y)
  by_cases ht:m8 st=[]
  ·rw[ht]at a3l
   have ea:a3=[]:=List.eq_nil_of_length_eq_zero a3l;refine⟨false,.inl ⟨_,aW.of h6,by rw[ea];rfl⟩,aV ⟨_,rfl,_,rfl,_,rfl,_,rfl,p,lb,B,st,ab,one,bP st,rfl,S.mono s06,G,h64,h56,p56,bsub,fun r hr=>sf ht (bL.mp hr).1,fun lt H7 hlt s7 row7=>?_⟩⟩;obtain⟨ts,hts,f1,f2⟩:=fin lt H7 s7 (by unfold tL;rw[Mi ht];exact row7);exact⟨lh,lt,_,_,rfl,rfl,((s5.trans s6).trans s7) _ _ hhd,hts,f1,f2⟩
  ·have na:a3≠[]:=fun z=>ht (List.eq_nil_of_length_eq_zero (by rw[<-a3l,z];rfl))
   refine⟨true,.inl ⟨_,aW.of h6,by simp[na]⟩,bA ⟨_,rfl,_,rfl,_,rfl,_,rfl,lb,bP st,one,other,rfl,⟨ab,h56,p56⟩,by omega,by omega,fun r hr=>P.len2 (bL.mp hr).1,fun lt H7 hlt s7 row7=>?_⟩⟩;obtain⟨ts,hts,f1,f2⟩:=fin lt H7 s7 (by unfold tL;rw[Mg ht];exact row7);exact⟨lh,lt,_,_,rfl,rfl,((s5.trans s6).trans s7) _ _ hhd,hts,f1,f2⟩
theorem vC (F:cG K "_law_cell_at" "_law_cell_at" iS f fd) : aZ P w K mg base bV 1 f fd ["_law_script","_law_k"] (rX K):=by
 refine F.ok vY (fun vs H Q E h=>?_) (fun cdv A outer s H vs Q E hr h=>?_)
 ·obtain⟨a,ns,k,rfl,_⟩:=h
  rfl
 ·obtain⟨a,ns,i,rfl,hS,hi,k⟩:=h
  refine⟨_,ae (a7 (aB vH (pv 1) (be bB (by rfl) T.len Nm (ao (pv 0) aD)) (aN _)) (ah (au (bv cQ (pv 0) (pv 1) (fun _ _=>rfl)))) ay) (ah (au am)),?_⟩;refine⟨_,rfl,_,rfl,a,_,rfl,.inl hS,_,_,rfl,rfl,_,rfl,?_⟩;unfold de at k;rw[Me]
  by_cases hc:i<(ns.length:Int)
  ·rw[Mi hc]at k
   rw[Mp hc];refine bA ⟨_,rfl,_,rfl,a,_,_,_,rfl,rfl,hS,?_,k⟩;have e:i=((i.toNat:Nat):Int):=(On hi).symm
   have hl:i.toNat<ns.length:=by omega
   rw[e];refine fz ?_;rw[List.getElem?_map,List.getD_eq_getElem?_getD,Int.toNat_natCast,List.getElem?_eq_getElem hl];rfl
  ·rw[Mg hc]at k
   rw[Mx hc];exact aV k
theorem yX (F:cG K "_law_whole" "_law_whole" kH f fd) : aZ P w K mg base bV 1 f fd ["_law_found"] uz:=by
 refine F.ok zh (fun vs H Q E h=>?_) (fun cdv A outer s H vs Q E hr h=>?_)
 ·obtain⟨i,rfl,_⟩:=h
  rfl
 ·obtain⟨i,rfl,k⟩:=h
  refine⟨_,ah (au (vM (be lR (by rfl) T.isinstance NL (ao (pv 0) (ao (qj (v:=.ty "int") (by rfl) T.int PyProof.Rows.boot_int rfl) aD))) (vP (FW (be lR (by rfl) T.isinstance NL (ao (pv 0) (ao (qj (v:=.ty "bool") (by rfl) T.bool PyProof.Rows.boot_bool rfl) aD))))))),?_⟩;refine⟨_,rfl,_,_,_,true,rfl,kZ.int i,rfl,_,rfl,bA ?_⟩;exact⟨_,rfl,_,_,_,false,rfl,kZ.int i,rfl,_,rfl,k⟩
theorem AM (F:cG K "_law_size" "_law_size" m6 f fd) : aZ P w K mg base bV 1 f fd ["_law_cell"] wj:=by
 refine F.ok A9 (fun vs H Q E h=>?_) (fun cdv A outer s H vs Q E hr h=>?_)
 ·obtain⟨c,rfl,_⟩:=h
  rfl
 ·obtain⟨c,rfl,k⟩:=h
  refine⟨_,ae (a7 (aB vH (pv 0) am (aN _)) (ah (au (vQ pG (pv 0)))) ay) (ah (au (pv 0))),?_⟩;refine⟨_,rfl,_,_,rfl,rfl,_,rfl,?_⟩;unfold iB at k
  by_cases hc:c<0
  ·rw[Mi hc]at k
   rw[Mp hc];exact bA ⟨_,rfl,_,rfl,k⟩
  ·rw[Mg hc]at k
   rw[Mx hc];exact aV ⟨_,rfl,k⟩
theorem yQ (F:cG K "_law_draws" "_law_draws" ky f fd)(fW:ar P w K mg base "_law_size" 1 ["_law_cell"] wj) : aZ P w K mg base bV 2 f fd ["_law_cell","_law_many","_law_base"] qz:=by
 refine F.ok bT (fun vs H Q E h=>?_) (fun cdv A outer s H vs Q E hr h=>?_)
 ·obtain⟨c,m,b,rfl,_⟩:=h
  rfl
 ·obtain⟨c,m,b,rfl,⟨m0,m1⟩,⟨b0,b1⟩,k⟩:=h
  refine⟨_,ae (dN (i:=3) bT.nd rfl (Or.inl rfl) (aO fW hr rfl (ao (pv 0) aD)))
   (ae (dN (i:=4) bT.nd rfl (Or.inl rfl) (c6 aD))
   (ae (a7 (aB J9 (pv 3) (aP FN am am) (aN _))
    (ae (dN (i:=3) bT.nd rfl (Or.inl rfl) (aP FO (pv 3) (aP FN am am)))
    (ae (dN (i:=5) bT.nd rfl (Or.inl rfl) (aP bK (pv 3) (aP e8 (pv 1) am)))
    (ae (dN (i:=3) bT.nd rfl (Or.inl rfl) (aP eU (pv 3) (aP e8 (pv 1) am)))
    (ae (cL M9 rfl (nF rfl T.range (ao (pv 5) aD)) (hX (i:=6) bT.nd rfl (Or.inl rfl))
     (ae (a6 (eB MM MS MT bM (pv 4) (ao (aP bK (pv 3) (pv 2)) aD)))
     (ah (dN (i:=3) bT.nd rfl (Or.inl rfl) (aP eU (pv 3) (pv 2))))))
    (ah (au (pv 4)))))))
    ay)
   (ae (dN (i:=7) bT.nd rfl (Or.inl rfl) (aP e8 (aP bK (pv 3) am) am))
   (ae (cL M9 rfl (nF rfl T.range (ao (aP bK (pv 3) (aP e8 (pv 1) am)) aD)) (hX (i:=6) bT.nd rfl (Or.inl rfl))
     (ae (dN (i:=7) bT.nd rfl (Or.inl rfl) (aP bK (aP vI (pv 7) am) am))
     (ah (a6 (eB MM MS MT bM (pv 4) (ao (aP bK (aP eU (aP bK (aP vI (pv 7) am) am) am) (pv 2)) aD))))))
   (ah (au (pv 4))))))),?_⟩
  refine⟨_,rfl,_,rfl,by show 0<=sizeLine;exact MD _,fun l hl=>?_⟩
  have big:(10:Int) ^ (18:Int).toNat=1000000000000000000:=by decide
  have room:∀ ds:List Int,(ds.length:Int)<=1000->(ds.map V.int).length<sizeLine:=fun ds h=>by rw[Me];exact aw (by omega)
  have app:∀ (ds:List Int)(z:Int),upd (upd H l (.lst (ds.map V.int))) l (.lst (ds.map V.int++[V.int z]))=upd H l (.lst ((ds++[z]).map V.int)):=fun ds z=>by rw[fR,Mr];rfl
  have inb:∀ (ds:List Int)(z:Int),(∀ d∈ds,0<=d/\d<b)->∀ d∈ds++[z%b],0<=d/\d<b:=fun ds z h d hd=>by
   rcases Ml.mp hd with hd | hd
   ·exact h d hd
   ·rw[Mv.mp hd];exact⟨No _ (by omega),Np _ b0⟩
  refine⟨_,rfl,_,_,rfl,rfl,⟨by decide,by decide,by decide⟩,_,_,rfl,rfl,_,rfl,?_⟩;refine z8 (fun _=>?_) (fun _=>?_)
  ·refine⟨_,rfl,_,_,rfl,rfl,⟨by decide,by decide,by decide⟩,_,_,rfl,rfl,?_⟩
   refine⟨_,rfl,_,rfl,_,_,rfl,rfl,_,_,rfl,rfl,by show (0:Int)<m+1;omega,?_⟩;refine⟨_,rfl,_,rfl,_,_,rfl,rfl,_,_,rfl,rfl,⟨by show (0:Int)<m+1;omega,by show m+1<1073741824;omega⟩,?_⟩;have cb:=Np (iB c-(10:Int) ^ (18:Int).toNat) (show 0<m+1 by omega);have cn:=No (iB c-(10:Int) ^ (18:Int).toNat) (show m+1≠0 by omega)
   refine⟨_,rfl,_,rfl,by omega,by omega,nh (n:=((iB c-(10:Int) ^ (18:Int).toNat)%(m+1)).toNat) (fun i σ H2=>∃ (z:Int)(v:Option V)(ds:List Int),σ=[some (.int c),some (.int m),some (.int b),some (.int z),some (.ref l),some (.int ((iB c-(10:Int) ^ (18:Int).toNat)%(m+1))),v,none]/\H2=upd H l (.lst (ds.map V.int))/\ds.length=i/\∀ d∈ds,0<=d/\d<b)
    ⟨_,none,[],rfl,rfl,rfl,fun _ z=>nomatch z⟩ ?_ ?_⟩
   ·rintro i σ H2 hi ⟨z,v,ds,rfl,rfl,hlen,hds⟩
    refine⟨_,rfl,.inl ⟨rfl,_,aW.of ac⟩,_,rfl,_,rfl,_,_,rfl,rfl,b0,l,_,_,rfl,rfl,ac,room ds (by omega),?_⟩;refine⟨_,rfl,_,rfl,_,_,rfl,rfl,⟨b0,b1⟩,?_⟩;exact⟨_,_,ds++[z%b],rfl,app ds _,by rw[Mj,hlen];rfl,inb ds z hds⟩
   ·rintro σ H2 ⟨z,v,ds,rfl,rfl,hlen,hds⟩
    exact⟨_,rfl,k l ds hl hds (by omega)⟩
  ·refine⟨_,rfl,_,_,rfl,rfl,by show (0:Int)<2147483629;decide,_,_,rfl,rfl,?_⟩
   have cb:=Np (iB c) (show 0<m+1 by omega);have cn:=No (iB c) (show m+1≠0 by omega);refine⟨_,rfl,_,rfl,_,_,rfl,rfl,_,_,rfl,rfl,by show (0:Int)<m+1;omega,?_⟩
   refine⟨_,rfl,by omega,by omega,nh (n:=(iB c%(m+1)).toNat) (fun i σ H2=>∃ (z:Int)(v:Option V)(ds:List Int),σ=[some (.int c),some (.int m),some (.int b),some (.int (iB c)),some (.ref l),none,v,some (.int z)]/\H2=upd H l (.lst (ds.map V.int))/\ds.length=i/\∀ d∈ds,0<=d/\d<b)
    ⟨_,none,[],rfl,rfl,rfl,fun _ z=>nomatch z⟩ ?_ ?_⟩
   ·rintro i σ H2 hi ⟨z,v,ds,rfl,rfl,hlen,hds⟩
    refine⟨_,rfl,_,_,rfl,rfl,.inr ⟨by decide,by decide⟩,_,_,rfl,rfl,by show (0:Int)<2147483647;decide,?_⟩;refine⟨_,rfl,.inl ⟨rfl,_,aW.of ac⟩,_,rfl,_,_,rfl,rfl,.inr ⟨by decide,by decide⟩,_,_,rfl,rfl,by show (0:Int)<998244353;decide,_,_,rfl,rfl,⟨by decide,by decide⟩,_,rfl,_,_,rfl,rfl,b0,l,_,_,rfl,rfl,ac,room ds (by omega),?_⟩;exact⟨_,_,ds++[_],rfl,app ds _,by rw[Mj,hlen];rfl,inb ds _ hds⟩
   ·rintro σ H2 ⟨z,v,ds,rfl,rfl,hlen,hds⟩
    exact⟨_,rfl,k l ds hl hds (by omega)⟩
theorem qh (F:cG K "_law_draws_from" "_law_draws_from" fP f fd)(ff:ar P w K mg base "_law_draws" 2 ["_law_cell","_law_many","_law_base"] qz) : aZ P w K mg base bV 3 f fd ["_law_script","_law_start","_law_most","_law_base"] (zq K):=by
 refine F.ok dH (fun vs H Q E h=>?_) (fun cdv A outer s H vs Q E hr h=>?_)
 ·obtain⟨a,ns,st,m,b,rfl,_⟩:=h
  rfl
 ·obtain⟨a,ns,st,m,b,rfl,hS,⟨s0,s1⟩,⟨m0,m1⟩,⟨b0,b1⟩,k⟩:=h
  refine⟨_,ae (dN (i:=4) dH.nd rfl (Or.inl rfl) (c6 aD))
   (ae (cL M9 rfl (bi (bI b8 (pv 0) (bS (pv 1)) (bS am))) (hX (i:=5) dH.nd rfl (Or.inl rfl))
    (ah (cL M9 rfl (bi (aO ff hr rfl (ao (pv 5) (ao am (ao (pv 3) aD))))) (hX (i:=6) dH.nd rfl (Or.inl rfl))
     (ah (a7 (aB vH (be bB (by rfl) T.len Nm (ao (pv 4) aD)) (pv 2) (aN _))
      (ah (a6 (eB MM MS MT bM (pv 4) (ao (pv 6) aD)))) ay)))))
   (ah (au (pv 4)))),?_⟩
  refine⟨by show 0<=sizeLine;exact MD _,fun l hl=>?_⟩;have hS':aW K (upd H l (.lst [])) a (ns.map V.int):=(ag hl).seq hS;refine⟨_,rfl,_,rfl,_,rfl,_,rfl,a,_,rfl,hS',fun q hq=>?_⟩
  have hlq:l≠q:=fun e=>by rw[<-e,ac]at hq;cases hq
  have hHq:H q=none:=by rw[af (ME hlq)]at hq;exact hq
  obtain⟨zs,hzs⟩:∃ zs:List Int,gR (ns.map V.int) (some st) (some 63)=zs.map V.int:=⟨(ns.drop (HT.sIx ns.length 0 (some st))).take (HT.sIx ns.length ns.length (some 63)-HT.sIx ns.length 0 (some st)),by unfold gR;rw[Me,Nu,List.map_drop]⟩;rw[hzs]
  refine⟨q,rfl,⟨_,aW.of ac⟩,a5 (K:=K) (a:=q) (xs:=zs.map V.int) (fun i σ H2=>∃ (v u:Option V)(ds:List Int),σ=[some (.ref a),some (.int st),some (.int m),some (.int b),some (.ref l),v,u]/\ax H H2/\H2 q=some (.lst (zs.map V.int))/\H2 l=some (.lst (ds.map V.int))/\(∀ d∈ds,0<=d/\d<b)/\(ds.length:Int)<=m)
   ⟨none,none,[],rfl,aR (ag hl) hHq,ac,by rw[af hlq,ac];rfl,(fun _ z=>nomatch z),by simpa using m0⟩ (fun i σ H2 _ ⟨_,_,_,_,_,h,_⟩=>aW.of h) ?_ ?_⟩
  ·rintro i y σ H2 hi ⟨v,u,ds,rfl,s2,hq2,hl2,hds,hlen⟩
   obtain⟨z,_,rfl⟩:=bg hi;refine⟨_,rfl,_,rfl,z,24,b,rfl,⟨by decide,by decide⟩,⟨b0,b1⟩,fun r es hr2 hes hel=>?_⟩;have hrq:q≠r:=aj hq2 hr2;have hrl:l≠r:=aj hl2 hr2
   refine⟨r,rfl,⟨_,aW.of ac⟩,a5 (K:=K) (a:=r) (xs:=es.map V.int) (fun i σ H3=>∃ (u:Option V)(ds:List Int),σ=[some (.ref a),some (.int st),some (.int m),some (.int b),some (.ref l),some (.int z),u]/\ax H H3/\H3 q=some (.lst (zs.map V.int))/\H3 r=some (.lst (es.map V.int))/\H3 l=some (.lst (ds.map V.int))/\(∀ d∈ds,0<=d/\d<b)/\(ds.length:Int)<=m)
    ⟨u,ds,rfl,aR s2 (s2.free hr2),by rw[af hrq];exact hq2,ac,by rw[af hrl];exact hl2,hds,hlen⟩ (fun i σ H2 _ ⟨_,_,_,_,_,h,_⟩=>aW.of h) ?_ ?_⟩
   ·rintro i y σ H3 hi ⟨u,ds,rfl,s3,hq3,hr3,hl3,hds,hlen⟩
    obtain⟨d,hd,rfl⟩:=bg hi;refine⟨_,rfl,l,_,rfl,.inl (aW.of hl3),_,rfl,_,_,rfl,rfl,_,rfl,?_⟩;rw[Me];refine z8 (fun hc=>?_) (fun _=>?_)
    ·have hc:=Nl hc
     refine⟨_,rfl,.inl ⟨rfl,_,aW.of hl3⟩,_,rfl,l,_,_,rfl,rfl,hl3,by rw[Me];exact aw (by omega),?_⟩;refine⟨_,ds++[d],rfl,aR s3 hl,by rw[af (ME hlq)];exact hq3,by rw[af (ME hrl)];exact hr3,by rw[ac,Mr];rfl,fun x hx=>?_,by rw[Mj];show ((ds.length+1:Nat):Int)<=m;omega⟩;rcases Ml.mp hx with hx | hx
     ·exact hds x hx
     ·rw[Mv.mp hx];exact hes d (MA hd)
    ·exact⟨_,ds,rfl,s3,hq3,hr3,hl3,hds,hlen⟩
   ·rintro σ H3 ⟨u,ds,rfl,s3,hq3,hr3,hl3,hds,hlen⟩
    exact⟨_,_,ds,rfl,s3,hq3,hl3,hds,hlen⟩
  ·rintro σ H2 ⟨v,u,ds,rfl,s2,hq2,hl2,hds,hlen⟩
   exact⟨_,rfl,k l H2 ds hl s2 hl2 hds hlen⟩
theorem yS (F:cG K "_law_guest" "_law_guest" kA f fd)(fW:ar P w K mg base "_law_size" 1 ["_law_cell"] wj) : aZ P w K mg base bV 2 f fd ["_law_k","_law_cell"] kf:=by
 refine F.ok hZ (fun vs H Q E h=>?_) (fun cdv A outer s H vs Q E hr h=>?_)
 ·obtain⟨k,c,rfl,_⟩:=h
  rfl
 ·obtain⟨i,c,rfl,⟨i0,i1⟩,k⟩:=h
  refine⟨_,ae (dN (i:=2) hZ.nd rfl (Or.inl rfl) (aO fW hr rfl (ao (pv 1) aD)))
   (ae (dN (i:=3) hZ.nd rfl (Or.inl rfl) (aP e8 am (aP bK (aP vI (pv 2) am) am)))
   (ae (dN (i:=4) hZ.nd rfl (Or.inl rfl) (aP bK (aP e8 (aP vI (pv 0) (pv 3)) (aP FM (pv 2) am)) am))
   (ae (a7 (aB cC (aP bK (pv 2) am) am (aN _)) (ah (au (aP e8 (pv 4) am))) ay)
   (ah (au (pv 4)))))),?_⟩
  refine⟨_,rfl,_,rfl,?_⟩;refine⟨_,rfl,_,_,rfl,rfl,.inr ⟨by decide,by decide⟩,_,_,rfl,rfl,by show (0:Int)<2147483646;decide,_,_,rfl,rfl,?_⟩;refine⟨_,rfl,_,rfl,_,_,rfl,rfl,.inl ⟨by show (-(2 ^ 64):Int)<i;omega,by show i<(2 ^ 64:Int);omega⟩,_,rfl,_,_,rfl,rfl,⟨by decide,by decide⟩,_,_,rfl,rfl,_,_,rfl,rfl,by show (0:Int)<2147483647;decide,?_⟩;refine⟨_,rfl,_,_,rfl,rfl,by show (0:Int)<5;decide,rfl,_,rfl,?_⟩;unfold d7 at k;dsimp only at k
  by_cases hc:iB c%5=4
  ·rw[Mi hc]at k
   rw[Mp (show V.int (iB c%5)=V.int 4 by rw[hc])];exact bA ⟨_,rfl,_,_,rfl,rfl,k⟩
  ·rw[Mg hc]at k
   rw[Mx (show ¬ V.int (iB c%5)=V.int 4 from fun z=>hc (by injection z))];exact aV ⟨_,rfl,k⟩
theorem Cb (F:cG K "_law_key" "_law_key" pC f fd) : aZ P w K mg base bV 1 f fd ["_law_one","_law_other"] we:=by
 refine F.ok Cp (fun vs H Q E h=>?_) (fun cdv A outer s H vs Q E hr h=>?_)
 ·obtain⟨a,b,rfl,_⟩:=h
  rfl
 ·obtain⟨a,b,rfl,k⟩:=h
  refine⟨_,ae (a7 (aB vH (pv 1) (pv 0) (aN _)) (ah (au (bo (c9 (pv 1) (pv 0))))) (ay)) (
   ah (au (bo (c9 (pv 0) (pv 1))))),?_⟩
  refine⟨_,rfl,_,rfl,_,_,rfl,rfl,_,rfl,?_⟩;unfold bx at k
  by_cases hc:b<a
  ·rw[Mi hc]at k
   rw[Mp hc];exact bA ⟨_,rfl,_,rfl,by show 2<=sizeLine;decide,k⟩
  ·rw[Mg hc]at k
   rw[Mx hc];exact aV ⟨_,rfl,_,rfl,by show 2<=sizeLine;decide,k⟩
theorem Ca (F:cG K "_law_due" "_law_due" pA f fd)(cx:ar P w K mg base "_law_key" 1 ["_law_one","_law_other"] we) : aZ P w K mg base bV 2 f fd ["_law_worn","_law_met","_law_deed_here"] Dk:=by
 refine F.ok vZ (fun vs H Q E h=>?_) (fun cdv A outer s H vs Q E hr h=>?_)
 ·obtain⟨w,m,t,wl,ml,d,rfl,_⟩:=h
  rfl
 ·obtain⟨w,m,t,wl,ml,d,rfl,hw,hm,ht0,k⟩:=h
  have hu:=bR hr
  have ht:H t=some (.tup (d6 d)):=by rw[<-pU];exact ht0
  have gw:∀ (H2:Hp)(x:Int),ax H H2->cu H2 w (.int x) ((look wl x).map V.int):=fun H2 x s2=>by rw[<-cR];exact cu.k (k:=Sum.inl x) (s2 _ _ hw)
  have two:(2:Nat)<=sizeLine:=by decide
  refine⟨_,ae (cL M9 rfl (F0 (bI Jm (pv 2) (bS (am)) cm)) (iX 3 vZ.nd) (ah (a7 (PW.pt (ph (aB iE (bv bF (pv 2) (am) (fun _ _=>rfl)) (bh) (aN _)) (nJ (eI (jD hu (pv 3) (pv 0)))))) (ah (au (bo (c9 (bh) (pv 3))))) (ay)))) (
   ae (a7 (PW.pt (ph (aB cC (bv bF (pv 2) (am) (fun _ _=>rfl)) (bh) (aN _)) (nJ (eI (jX hu (bv bF (pv 2) (am) (fun _ _=>rfl)) (pv 0)))))) (ah (au (bo (c9 (bh) (fG))))) (ay)) (
   ae (a7 (PW.pt (ph (aB cC (bv bF (pv 2) (am) (fun _ _=>rfl)) (bh) (aN _)) (nJ (aB iE (hW hu (pv 0) (bv bF (pv 2) (am) (fun _ _=>rfl)) (fun _ _=>rfl)) (bv bF (pv 2) (am) (fun _ _=>rfl)) (aN _))))) (ah (au (bo (c9 (bh) (fG))))) (ay)) (
   ae (a7 (PW.pt (ph (aB cC (bv bF (pv 2) (am) (fun _ _=>rfl)) (bh) (aN _)) (nJ (aB cC (bv bF (pv 2) (am) (fun _ _=>rfl)) (bv bF (pv 2) (am) (fun _ _=>rfl)) (aN _))))) (ah (au (bo (c9 (bh) (fG))))) (ay)) (
   ae (a7 (PW.pt (ph (aB cC (bv bF (pv 2) (am) (fun _ _=>rfl)) (bh) (aN _)) (nJ (eI (jX hu (aO cx hr.m rfl (c9 (bv bF (pv 2) (am) (fun _ _=>rfl)) (bv bF (pv 2) (am) (fun _ _=>rfl)))) (pv 1)))))) (ah (au (bo (c9 (bh) (fG))))) (ay)) (
   ah (au (bo (c9 (bh) (fG))))))))),?_⟩
  refine⟨_,rfl,_,rfl,t,_,rfl,eZ.of ht,GP d,fun q hq=>?_⟩;have s1:ax H (upd H q (.tup (gR (d6 d) (some 1) none))):=ag hq
  have hq1:upd H q (.tup (gR (d6 d) (some 1) none)) q=some (.tup ((names d).map V.int)):=by rw[ac,EW]
  generalize upd H q (.tup (gR (d6 d) (some 1) none))=H1 at s1 hq1
  refine⟨q,rfl,⟨_,eZ.of hq1⟩,CQ (K:=K) (a:=q) (xs:=(names d).map V.int) (fun i σ H2=>∃ v:Option V,σ=[some (.ref w),some (.ref m),some (.ref t),v]/\H2=H1/\(word d≠"come"->∀ y∈(names d).take i,(look wl y).isSome=true))
   ⟨none,rfl,rfl,fun _ y hy=>by simp at hy⟩ (fun i σ H2 _ ⟨_,_,e,_⟩=>by rw[e];exact eZ.of hq1) ?_ ?_⟩
  ·rintro i y σ H2 hi ⟨v,rfl,rfl,hp⟩
   obtain⟨x,hx,rfl⟩:=bg hi;refine⟨_,rfl,t,_,_,_,rfl,rfl,eZ.of (s1 _ _ ht),fz (j:=0) rfl,rfl,_,rfl,?_⟩
   have nxt:(word d≠"come"->(look wl x).isSome=true)->(word d≠"come"->∀ y∈(names d).take (i+1),(look wl y).isSome=true):=fun h hc y hy=>by
    rw[se hx]at hy;rcases Ml.mp hy with z | z
    ·exact hp hc y z
    ·rw[Mv.mp z];exact h hc
   by_cases hc:word d="come"
   ·rw[Mp (by rw[hc])]
    exact aV (aV ⟨_,rfl,rfl,nxt fun z=>absurd hc z⟩)
   ·rw[Mx (fun z=>hc (V.str.inj z))]
    refine bA ⟨_,rfl,_,rfl,w,_,rfl,gw _ x s1,_,rfl,?_⟩
    cases e:look wl x with
    | none =>
     refine bA ⟨_,rfl,two,fun r hr2=>?_⟩;refine k r _ (s1.free hr2) (s1.trans (ag hr2)) ?_;rw[ac,Fo hc (hp hc) hx e];rfl
    | some z=>exact aV ⟨_,rfl,rfl,nxt fun _=>by rw[e];rfl⟩
  ·rintro σ H2 ⟨v,rfl,rfl,hp⟩
   have fin:∀ (o:EO)(H3:Hp)(r:Addr),cv wl (k7 ml) d=o->ax H H3->H3 r=none->Q (.ref r) (upd H3 r (.tup (IY o))):=fun o H3 r e s3 h3=>k r _ (s3.free h3) (s3.trans (ag h3)) (by rw[ac,e]);rw[Me,MI]at hp;have T0:eZ K H2 t (d6 d):=eZ.of (s1 _ _ ht)
   cases d with
   | come g =>
    refine⟨_,rfl,t,_,_,_,rfl,rfl,T0,rfl,rfl,_,rfl,?_⟩;rw[show decide (V.str (word (.come g))=V.str "come")=true from cc];refine bA ⟨_,rfl,t,_,_,_,rfl,rfl,T0,rfl,_,rfl,w,_,rfl,gw _ g s1,_,rfl,?_⟩
    cases e:look wl g with
    | some z=>exact bA ⟨two,fun r h3=>fin .already _ r (by simp[cv,e]) s1 h3⟩
    | none =>
     refine aV ⟨_,rfl,t,_,_,_,rfl,rfl,T0,rfl,rfl,_,rfl,?_⟩;rw[show decide (V.str (word (.come g))=V.str "go")=false from cg];refine aV (aV ⟨_,rfl,t,_,_,_,rfl,rfl,T0,rfl,rfl,_,rfl,?_⟩);rw[show decide (V.str (word (.come g))=V.str "exchange")=false from ce];refine aV (aV ⟨_,rfl,t,_,_,_,rfl,rfl,T0,rfl,rfl,_,rfl,?_⟩);rw[show decide (V.str (word (.come g))=V.str "exchange")=false from ce];exact aV (aV ⟨two,fun r h3=>fin .done _ r (by simp[cv,e]) s1 h3⟩)
   | go g =>
    have hg:=hp (by show ("go" : Str)≠"come";decide +kernel) g (by simp[names]);obtain⟨z,e⟩:=MY.mp hg;refine⟨_,rfl,t,_,_,_,rfl,rfl,T0,rfl,rfl,_,rfl,?_⟩;rw[show decide (V.str (word (.go g))=V.str "come")=false from gc];refine aV (aV ⟨_,rfl,t,_,_,_,rfl,rfl,T0,rfl,rfl,_,rfl,?_⟩);rw[show decide (V.str (word (.go g))=V.str "go")=true from gg];refine bA ⟨_,rfl,_,rfl,t,_,_,_,rfl,rfl,T0,rfl,w,_,rfl,(by have:=gw H2 g s1;rw[e]at this;exact this),_,rfl,t,_,_,_,rfl,rfl,T0,rfl,rfl,_,rfl,?_⟩
    by_cases hz:z=g
    ·rw[Mp (by rw[hz])]
     refine aV ⟨_,rfl,t,_,_,_,rfl,rfl,T0,rfl,rfl,_,rfl,?_⟩;rw[show decide (V.str (word (.go g))=V.str "exchange")=false from ge];refine aV (aV ⟨_,rfl,t,_,_,_,rfl,rfl,T0,rfl,rfl,_,rfl,?_⟩);rw[show decide (V.str (word (.go g))=V.str "exchange")=false from ge];exact aV (aV ⟨two,fun r h3=>fin .done _ r (by simp[cv,e,hz]) s1 h3⟩)
    ·rw[Mx (fun q=>hz (V.int.inj q))]
     exact bA ⟨two,fun r h3=>fin .masked _ r (by simp[cv,e,hz]) s1 h3⟩
   | exch a b =>
    have ha:=hp (by show ("exchange" : Str)≠"come";decide +kernel) a (by simp[names]);have hb:=hp (by show ("exchange" : Str)≠"come";decide +kernel) b (by simp[names]);obtain⟨za,ea⟩:=MY.mp ha;obtain⟨zb,eb⟩:=MY.mp hb;refine⟨_,rfl,t,_,_,_,rfl,rfl,T0,rfl,rfl,_,rfl,?_⟩;rw[show decide (V.str (word (.exch a b))=V.str "come")=false from ec];refine aV (aV ⟨_,rfl,t,_,_,_,rfl,rfl,T0,rfl,rfl,_,rfl,?_⟩);rw[show decide (V.str (word (.exch a b))=V.str "go")=false from eg];refine aV (aV ⟨_,rfl,t,_,_,_,rfl,rfl,T0,rfl,rfl,_,rfl,?_⟩);rw[show decide (V.str (word (.exch a b))=V.str "exchange")=true from ee];refine bA ⟨_,rfl,t,_,_,_,rfl,rfl,T0,rfl,_,rfl,t,_,_,_,rfl,rfl,T0,rfl,rfl,_,rfl,?_⟩
    by_cases hab:a=b
    ·rw[Mp (by rw[hab])]
     exact bA ⟨two,fun r h3=>fin .same _ r (by simp[cv,ea,eb,hab]) s1 h3⟩
    ·rw[Mx (fun q=>hab (V.int.inj q))]
     refine aV ⟨_,rfl,t,_,_,_,rfl,rfl,T0,rfl,rfl,_,rfl,?_⟩;rw[show decide (V.str (word (.exch a b))=V.str "exchange")=true from ee];refine bA ⟨_,rfl,t,_,_,_,rfl,rfl,T0,rfl,_,rfl,t,_,_,_,rfl,rfl,T0,rfl,a,b,rfl,fun kt hk=>?_⟩;have s2:=s1.trans (ag (o:=.tup [.int (bx a b).1,.int (bx a b).2]) hk);refine⟨_,rfl,m,_,rfl,cu.t (k:=[Sum.inl (bx a b).1,Sum.inl (bx a b).2]) (s2 _ _ hm) ac,_,rfl,?_⟩;rw[ui]
     by_cases hmt:bx a b∈ml
     ·rw[Mp hmt]
      exact bA ⟨two,fun r h3=>fin .met _ r (by simp[cv,ea,eb,hab,k7,hmt]) s2 h3⟩
     ·rw[Mx hmt]
      exact aV ⟨two,fun r h3=>fin .done _ r (by simp[cv,ea,eb,hab,k7,hmt]) s2 h3⟩
theorem yN (F:cG K "_law_after" "_law_after" km f fd)(cx:ar P w K mg base "_law_key" 1 ["_law_one","_law_other"] we) : aZ P w K mg base bV 2 f fd ["_law_worn","_law_met","_law_deed_here"] qv:=by
 refine F.ok qu (fun vs H Q E h=>?_) (fun cdv A outer s H vs Q E hr h=>?_)
 ·obtain⟨w,m,t,wl,ml,d,rfl,_⟩:=h
  rfl
 ·obtain⟨w,m,t,wl,ml,d,rfl,hw,hm,ht0,l1,l2,hj,k⟩:=h
  have hu:=bR hr
  have ht:H t=some (.tup (d6 d)):=by rw[<-pU];exact ht0
  have T0:eZ K H t (d6 d):=eZ.of ht;have nwt:t≠w:=bE ht hw (by intro z;cases z);have nwm:m≠w:=bE hm hw (by intro z;cases z);have ntm:t≠m:=bE ht hm (by intro z;cases z)
  have sz:∀ v:List (Int×Int),v.length<=2000->(dk v).length<sizeLine:=fun v h=>by rw[yx];exact NI h (by decide)
  refine⟨_,ah (a7 (aB cC (bv bF (pv 2) (am) (fun _ _=>rfl)) (bh) (aN _)) (ah (gE hu (pv 0) (bv bF (pv 2) (am) (fun _ _=>rfl)) (bv bF (pv 2) (am) (fun _ _=>rfl)) rfl)) (ah (a7 (aB cC (bv bF (pv 2) (am) (fun _ _=>rfl)) (bh) (aN _)) (ah (a6 (vO (pv 0) (bv bF (pv 2) (am) (fun _ _=>rfl)) ⟨rfl,rfl,rfl,rfl⟩))) (ae (bt 3 qu.nd (hW hu (pv 0) (bv bF (pv 2) (am) (fun _ _=>rfl)) (fun _ _=>rfl))) (
   ae (gE hu (pv 0) (bv bF (pv 2) (am) (fun _ _=>rfl)) (hW hu (pv 0) (bv bF (pv 2) (am) (fun _ _=>rfl)) (fun _ _=>rfl)) rfl) (
   ae (gE hu (pv 0) (bv bF (pv 2) (am) (fun _ _=>rfl)) (pv 3) rfl) (
   ah (gE hu (pv 1) (aO cx hr.m rfl (c9 (bv bF (pv 2) (am) (fun _ _=>rfl)) (bv bF (pv 2) (am) (fun _ _=>rfl)))) (d9) rfl)))))))),?_⟩
  cases d with
  | come g =>
   refine⟨_,rfl,t,_,_,_,rfl,rfl,T0,rfl,rfl,_,rfl,?_⟩;rw[show decide (V.str (word (.come g))=V.str "come")=true from cc];refine bA ⟨_,rfl,t,_,_,_,rfl,rfl,T0,rfl,_,rfl,_,rfl,t,_,_,_,rfl,rfl,T0,rfl,w,_,rfl,lA.k (k:=Sum.inl g) hw (sz _ (by omega)),?_⟩;rw[i9]
   exact k _ ac (by rw[af nwm];exact hm) fun b o e h1 _=>by rw[af h1];exact e
  | go g =>
   refine⟨_,rfl,t,_,_,_,rfl,rfl,T0,rfl,rfl,_,rfl,?_⟩;rw[show decide (V.str (word (.go g))=V.str "come")=false from gc];refine aV ⟨_,rfl,t,_,_,_,rfl,rfl,T0,rfl,rfl,_,rfl,?_⟩;rw[show decide (V.str (word (.go g))=V.str "go")=true from gg]
   obtain⟨z,e⟩:∃ z,look wl g=some z:=by
    cases e:look wl g with
    | none=>simp[cv,e]at hj
    | some z=>exact⟨z,rfl⟩
   refine bA ⟨_,rfl,w,rfl,.inl ⟨_,.inl hw⟩,_,rfl,t,_,_,_,rfl,rfl,T0,rfl,_,Sum.inl g,_,hw,rfl,by rw[cR,e];rfl,?_⟩;rw[uW]
   exact k _ ac (by rw[af nwm];exact hm) fun b o e h1 _=>by rw[af h1];exact e
  | exch a b =>
   refine⟨_,rfl,t,_,_,_,rfl,rfl,T0,rfl,rfl,_,rfl,?_⟩;rw[show decide (V.str (word (.exch a b))=V.str "come")=false from ec];refine aV ⟨_,rfl,t,_,_,_,rfl,rfl,T0,rfl,rfl,_,rfl,?_⟩;rw[show decide (V.str (word (.exch a b))=V.str "go")=false from eg]
   obtain⟨za,ea⟩:∃ z,look wl a=some z:=by
    cases e:look wl a with
    | none=>simp[cv,e]at hj
    | some z=>exact⟨z,rfl⟩
   obtain⟨zb,eb⟩:∃ z,look wl b=some z:=by
    cases e:look wl b with
    | none=>simp[cv,ea,e]at hj
    | some z=>exact⟨z,rfl⟩
   have ga:cu H w (.int a) (some (V.int za)):=by have:=cu.k (k:=Sum.inl a) hw;rw[cR,ea]at this;exact this
   have gb:cu H w (.int b) (some (V.int zb)):=by have:=cu.k (k:=Sum.inl b) hw;rw[cR,eb]at this;exact this
   refine aV ⟨_,rfl,_,rfl,t,_,_,_,rfl,rfl,T0,rfl,w,_,rfl,ga,?_⟩;refine⟨_,rfl,_,rfl,t,_,_,_,rfl,rfl,T0,rfl,w,_,rfl,gb,_,rfl,_,rfl,t,_,_,_,rfl,rfl,T0,rfl,w,_,rfl,lA.k (k:=Sum.inl a) hw (sz _ (by omega)),?_⟩;rw[i9];have lp:=nu wl a zb;have T1:eZ K (upd H w (.dK (dk (put wl a zb)))) t (d6 (.exch a b)):=eZ.of (by rw[af nwt];exact ht);refine⟨_,rfl,_,rfl,_,rfl,t,_,_,_,rfl,rfl,T1,rfl,w,_,rfl,lA.k (k:=Sum.inl b) ac (sz _ (by omega)),?_⟩;rw[i9,fR];have T2:eZ K (upd H w (.dK (dk (put (put wl a zb) b za)))) t (d6 (.exch a b)):=eZ.of (by rw[af nwt];exact ht);refine⟨_,rfl,_,rfl,t,_,_,_,rfl,rfl,T2,rfl,_,rfl,t,_,_,_,rfl,rfl,T2,rfl,a,b,rfl,fun kt hk=>?_⟩;have hkm:m≠kt:=aj (by rw[af nwm];exact hm) hk;have hkw:w≠kt:=aj ac hk;refine⟨m,_,rfl,lA.t (k:=[Sum.inl (bx a b).1,Sum.inl (bx a b).2]) (by rw[af hkm,af nwm];exact hm) ac (by unfold rq;rw[Me];exact NI l2 (by decide)),?_⟩;rw[C6]
   have wa:wr wl a=za:=by unfold wr;rw[ea];rfl
   have wb:wr wl b=zb:=by unfold wr;rw[eb];rfl
   refine k _ ?_ ac fun x o e h1 h2=>?_
   ·rw[af (ME nwm),af hkw,ac]
    show some (HO.dK (dk (put (put wl a zb) b za)))=some (HO.dK (dk (put (put wl a (wr wl b)) b (wr wl a))))
    rw[wa,wb]
   ·have e':upd H w (.dK (dk (put (put wl a zb) b za))) x=some o:=by rw[af h1];exact e
    rw[af h2,af (aj e' hk)];exact e'
theorem AG (F:cG K "_law_deed" "_law_deed" mU f fd)(bG:ar P w K mg base "_law_guest" 2 ["_law_k","_law_cell"] kf) : aZ P w K mg base bV 3 f fd ["_law_drawn","_law_many","_law_cell"] ul:=by
 refine F.ok tD (fun vs H Q E h=>?_) (fun cdv A outer s H vs Q E hr h=>?_)
 ·obtain⟨dr,m,n,rfl,_⟩:=h
  rfl
 ·obtain⟨dr,m,n,rfl,⟨d0,d1⟩,⟨m0,m1⟩,k⟩:=h
  refine⟨_,ae (bt 3 tD.nd (aO bG hr.m rfl (c9 (aP bK (aP eU (pv 0) (am)) (pv 1)) (pv 2)))) (
   ae (a7 (aB cC (aP bK (pv 0) (am)) (am) (aN _)) (ah (au (bo (c9 (bh) (pv 3))))) (ay)) (
   ae (a7 (aB cC (aP bK (pv 0) (am)) (am) (aN _)) (ah (au (bo (c9 (bh) (pv 3))))) (ay)) (
   ah (au (bo (zE (bh) (pv 3) (aO bG hr.m rfl (c9 (aP bK (aP eU (pv 0) (aP vI (am) (pv 1))) (pv 1)) (pv 2))))))))),?_⟩
  have em:∀ z:Int,0<=z%m/\z%m<m:=fun z=>⟨No _ (by omega),Np _ (by omega)⟩;have a0:=em (dr/8);refine⟨_,rfl,_,_,rfl,rfl,⟨by decide,by decide⟩,_,rfl,_,_,rfl,rfl,by show (0:Int)<m;omega,_,rfl,_,_,rfl,⟨a0.1,by omega⟩,?_⟩;have g0:d7 (dr/8%m) n∈bc 40 n:=BH ⟨a0.1,by omega⟩;refine⟨_,rfl,_,_,rfl,rfl,by show (0:Int)<8;decide,rfl,_,rfl,?_⟩;refine z8 (fun _=>⟨_,rfl,by show 2<=sizeLine;decide,fun t ht=>k t (.come (d7 (dr/8%m) n)) ht fun g hg=>by simp[names]at hg;rw[hg];exact g0⟩) (fun _=>?_);refine⟨_,rfl,_,_,rfl,rfl,by show (0:Int)<8;decide,rfl,_,rfl,?_⟩;refine z8 (fun _=>⟨_,rfl,by show 2<=sizeLine;decide,fun t ht=>k t (.go (d7 (dr/8%m) n)) ht fun g hg=>by simp[names]at hg;rw[hg];exact g0⟩) (fun _=>?_);have a1:=em (dr/(8*m));have g1:d7 (dr/(8*m)%m) n∈bc 40 n:=BH ⟨a1.1,by omega⟩;refine⟨_,rfl,_,rfl,_,rfl,_,_,rfl,rfl,.inl ⟨by decide,by decide⟩,_,_,rfl,rfl,⟨by show (0:Int)<8*m;omega,by show 8*m<1073741824;omega⟩,_,rfl,_,_,rfl,rfl,by show (0:Int)<m;omega,_,rfl,_,_,rfl,⟨a1.1,by omega⟩,by show 3<=sizeLine;decide,fun t ht=>?_⟩
  exact k t (.exch (d7 (dr/8%m) n) (d7 (dr/(8*m)%m) n)) ht fun g hg=>by
   simp[names]at hg;rcases hg with rfl | rfl
   ·exact g0
   ·exact g1
theorem yO (F:cG K "_law_crowd" "_law_crowd" ku f fd) : aZ P w K mg base bV 1 f fd ["_law_cell"] uk:=by
 refine F.ok zg (fun vs H Q E h=>?_) (fun cdv A outer s H vs Q E hr h=>?_)
 ·obtain⟨n,rfl,_⟩:=h
  rfl
 ·obtain⟨n,rfl,k⟩:=h
  refine⟨_,ae (a7 (aB cC (aP bK (aP eU (pv 0) (am)) (am)) (am) (aN _)) (ah (au (aP e8 (am) (aP bK (aP eU (pv 0) (am)) (am))))) (ay)) (
   ah (au (aP e8 (am) (aP bK (pv 0) (am))))),?_⟩
  refine⟨_,rfl,_,_,rfl,rfl,⟨by decide,by decide⟩,_,_,rfl,rfl,by show (0:Int)<8;decide,rfl,_,rfl,?_⟩;refine z8 (fun _=>?_) (fun _=>?_)
  ·refine⟨_,rfl,_,_,rfl,rfl,⟨by decide,by decide⟩,_,_,rfl,rfl,by show (0:Int)<28;decide,_,_,rfl,rfl,k _ ?_⟩
   have:=Np (n/1408) (show (0:Int)<28 by decide);have:=No (n/1408) (show (28:Int)≠0 by decide);omega
  ·refine⟨_,rfl,_,_,rfl,rfl,by show (0:Int)<11;decide,_,_,rfl,rfl,k _ ?_⟩
   have:=Np n (show (0:Int)<11 by decide);have:=No n (show (11:Int)≠0 by decide);omega
theorem yP (F:cG K "_law_deeds" "_law_deeds" fO f fd)(bp:ar P w K mg base "_law_cell_at" 1 ["_law_script","_law_k"] (rX K))(k8:ar P w K mg base "_law_crowd" 1 ["_law_cell"] uk)(bG:ar P w K mg base "_law_guest" 2 ["_law_k","_law_cell"] kf)(oP:ar P w K mg base "_law_deed" 3 ["_law_drawn","_law_many","_law_cell"] ul)(fV:ar P w K mg base "_law_draws_from" 3 ["_law_script","_law_start","_law_most","_law_base"] (zq K)) : aZ P w K mg base bV 4 f fd ["_law_script"] (qy K):=by
 refine F.ok fL (fun vs H Q E h=>?_) (fun cdv A outer s H vs Q E hr h=>?_)
 ·obtain⟨a,ns,rfl,_⟩:=h
  rfl
 ·obtain⟨a,ns,rfl,hS,k⟩:=h
  refine⟨_,ae (bt 1 fL.nd (aO bp hr.m rfl (c9 (pv 0) (am)))) (
   ae (bt 2 fL.nd (aO k8 hr.m rfl (dB (aO bp hr.m rfl (c9 (pv 0) (am)))))) (
   ae (bt 3 fL.nd (aP bK (aP eU (aO bp hr.m rfl (c9 (pv 0) (am))) (am)) (am))) (
   ae (y7 (ix:=4) (so:=ak fO) (N:=lY) (N':=["_law_k","_law_first","_law_cell"]) (src:=[none,some 3,some 1]) rfl rfl yj rfl (nF (by rfl) T.range (dB (pv 2))) (fun cl C s2 H2 ex=>⟨iX 0 (show (["_law_k","_law_first","_law_cell"]:List Str).Nodup by decide +kernel),j5 (PW.pt (jE (aB Ib (pv 1) (am) (aN _)) (j6 (aB cC (aP bK (pv 0) (am)) (am) (aN _))))),bo (c9 (bh) (aO bG hr.m rfl (c9 (pv 0) (pv 2))))⟩) fL.nd rfl rfl) (
   ah (au (aP fE (pv 4) (df (so:=ak fO) (N:=lY) (N':=["_law_drawn","_law_many","_law_cell"]) (src:=[none,some 2,some 1]) rfl rfl yj rfl (bi (aO fV hr.m rfl (ao (pv 0) (ao (am) (ao (am) (ao (am) aD)))))) (fun cl C s2 H2 ex=>⟨iX 0 (show (["_law_drawn","_law_many","_law_cell"]:List Str).Nodup by decide +kernel),dh,aO oP hr.m rfl (zE (pv 0) (pv 1) (pv 2))⟩)))))))),?_⟩
  refine⟨_,rfl,a,ns,1,rfl,hS,by decide,?_⟩;generalize hcn:de ns 1=cn at k ⊢;refine⟨_,rfl,a,ns,0,rfl,hS,by decide,_,rfl,fun m ⟨m0,m1⟩=>?_⟩;refine⟨_,rfl,a,ns,0,rfl,hS,by decide,_,_,rfl,rfl,⟨by decide,by decide⟩,_,_,rfl,rfl,by show (0:Int)<16;decide,?_⟩;refine⟨_,rfl,m,rfl,by omega,by omega,fun l hl=>?_⟩
  refine nh (n:=m.toNat) (fun i σ H2=>∃ (v:Option V)(ds:List aX),σ=[v,some (.int (de ns 0/11%16)),some (.int cn)]/\ax H H2/\bZ H2 l ds/\(∀ d∈ds,∀ g∈names d,g∈bc 40 cn)/\ds.length<=i/\ds.filter lV=[])
   ⟨none,[],rfl,ag hl,⟨[],ac,.nil⟩,(fun d hd=>nomatch hd),Mn _,rfl⟩ ?_ ?_
  ·rintro i σ H2 hi ⟨v,ds,rfl,s2,⟨as,hl2,hp2⟩,hn,hlen,hex⟩
   have hal:=Mo hp2
   have app:∀ t,H2 t=none->∃ (v:Option V)(ds:List aX),([some (.int (0+(i:Int))),some (.int (de ns 0/11%16)),some (.int cn)]:St)=[v,some (.int (de ns 0/11%16)),some (.int cn)]/\ax H (upd (upd H2 t (ca (.come (d7 (0+(i:Int)) cn)))) l (.lst (as.map V.ref++[.ref t])))/\bZ (upd (upd H2 t (ca (.come (d7 (0+(i:Int)) cn)))) l (.lst (as.map V.ref++[.ref t]))) l ds/\(∀ d∈ds,∀ g∈names d,g∈bc 40 cn)/\ds.length<=i+1/\ds.filter lV=[]:=fun t ht=>by
    refine⟨_,ds++[.come (d7 (0+(i:Int)) cn)],rfl,aR (s2.trans (ag ht)) hl,uS hl2 hp2 ht _,fun d hd g hg=>?_,by rw[Mj];show ds.length+1<=i+1;omega,by rw[M5,hex];rfl⟩;rcases Ml.mp hd with z | z
    ·exact hn d z g hg
    ·rw[Mv.mp z]at hg
     simp[names]at hg;rw[hg];exact BH ⟨by omega,by omega⟩
   refine pF ⟨_,rfl,_,_,rfl,rfl,_,rfl,z8 (fun _=>bA ?_) (fun _=>⟨_,rfl,_,_,rfl,rfl,by show (0:Int)<2;decide,rfl,_,rfl,z8 (fun _=>?_) (fun _=>?_)⟩)⟩
   ·refine⟨_,rfl,_,rfl,_,_,rfl,⟨by omega,by omega⟩,by show 2<=sizeLine;decide,fun t ht=>⟨_,by rw[af (aj hl2 ht)];exact hl2,by rw[Me];exact aw (by omega),?_⟩⟩
    exact app t ht
   ·refine⟨_,rfl,_,rfl,_,_,rfl,⟨by omega,by omega⟩,by show 2<=sizeLine;decide,fun t ht=>⟨_,by rw[af (aj hl2 ht)];exact hl2,by rw[Me];exact aw (by omega),?_⟩⟩
    exact app t ht
   ·exact⟨_,ds,rfl,s2,⟨as,hl2,hp2⟩,hn,by omega,hex⟩
  ·rintro σ H2 ⟨v,ds,rfl,s2,d2,hn,hlen,hex⟩
   refine⟨_,rfl,_,rfl,a,ns,2,48,12800,rfl,s2.seq hS,⟨by decide,by decide⟩,⟨by decide,by decide⟩,⟨by decide,by decide⟩,fun q H3 es hq s3 hq3 hes hel=>?_⟩;refine⟨q,rfl,⟨_,aW.of hq3⟩,fun l2 hl2=>?_⟩;have d3:=cJ (cJ d2 s3) (ag (o:=.lst []) hl2);have nq:q≠l2:=aj hq3 hl2
   refine a5 (K:=K) (a:=q) (xs:=es.map V.int) (fun i σ H4=>∃ (v:Option V)(fs:List aX),σ=[v,some (.int m),some (.int cn)]/\ax H3 H4/\bZ H4 l2 fs/\(∀ d∈fs,∀ g∈names d,g∈bc 40 cn)/\fs.length=i)
    ⟨none,[],rfl,ag hl2,⟨[],ac,.nil⟩,(fun d hd=>nomatch hd),rfl⟩ (fun i σ H4 _ ⟨_,_,_,s4,_⟩=>aW.of (s4 _ _ hq3)) ?_ ?_
   ·rintro i y σ H4 hi ⟨v,fs,rfl,s4,⟨as,hl4,hp4⟩,hn4,hlen4⟩
    obtain⟨dr,hdr,rfl⟩:=bg hi;have hil:i<es.length:=(List.getElem?_eq_some_iff.mp hdr).1;have hb:=hes dr (MA hdr);have hal:=Mo hp4;refine gH ⟨_,rfl,_,rfl,_,rfl,dr,m,cn,rfl,⟨hb.1,by omega⟩,⟨m0,m1⟩,fun t d ht hnd=>⟨_,by rw[af (aj hl4 ht)];exact hl4,by rw[Me];exact aw (by omega),?_⟩⟩;refine⟨_,fs++[d],rfl,aR (s4.trans (ag ht)) hl2,uS hl4 hp4 ht d,fun d' hd' g hg=>?_,by rw[Mj];show fs.length+1=i+1;omega⟩;rcases Ml.mp hd' with z | z
    ·exact hn4 d' z g hg
    ·rw[Mv.mp z]at hg;exact hnd g hg
   ·rintro σ H4 ⟨v,fs,rfl,s4,⟨as4,hl4,hp4⟩,hn4,hlen4⟩
    rw[Me]at hlen4;obtain⟨as2,hl2',hp2⟩:=cJ (cJ d2 s3) s4;have l1:=Mo hp2;have l3:=Mo hp4;refine⟨l,l2,_,_,rfl,rfl,hl2',hl4,by rw[Me,Me];exact Nz (aw (by omega)),fun p hp=>?_⟩;have s24:=(s2.trans s3).trans s4;refine k p _ (ds++fs) (s24.free hp) (s24.trans (ag hp)) ⟨as2++as4,by rw[ac,Mr],?_⟩ (fun d hd g hg=>?_) (by rw[Mj];omega) (by rw[M5,hex,List.nil_append];exact MZ (NE _ _) (by omega))
    ·exact aJ (Paired.mapP hp2 fun b y e=>(ag hp) _ _ e) (Paired.mapP hp4 fun b y e=>(ag hp) _ _ e)
    ·rcases Ml.mp hd with z | z
     ·exact hn d z g hg
     ·exact hn4 d z g hg
theorem vD (F:cG K "_law_evening" "_law_evening" iT f fd)(k9:ar P w K mg base "_law_deeds" 4 ["_law_script"] (qy K))(qS:ar P w K mg base "_law_due" 2 ["_law_worn","_law_met","_law_deed_here"] Dk)(fc:ar P w K mg base "_law_after" 2 ["_law_worn","_law_met","_law_deed_here"] qv) : aZ P w K mg base bV 6 f fd ["_law_script"] (ka K):=by
 refine F.ok dP (fun vs H Q E h=>?_) (fun cdv A outer s H vs Q E hr h=>?_)
 ·obtain⟨a,ns,rfl,_⟩:=h
  rfl
 ·obtain⟨a,ns,rfl,hS,k⟩:=h
  have hu:=bR hr;have nil0:(0:Nat)<=sizeLine:=MD _
  have three:(3:Nat)<=sizeLine:=by decide
  refine⟨_,ae (bt 1 dP.nd iF) (
   ae (bt 2 dP.nd AU) (
   ae (bt 3 dP.nd (c6 aD)) (
   ae (cL M9 rfl (bi (aO k9 hr.m rfl (dB (pv 0)))) (iX 4 dP.nd) (ah (a7 (aB cC (bv bF (aO qS hr.m rfl (zE (pv 1) (pv 2) (pv 4))) (am) (fun _ _=>rfl)) (bh) (aN _)) (ae (a6 (aO fc hr.m rfl (zE (pv 1) (pv 2) (pv 4)))) (
   ah (a6 (eB MM MS MT bM (pv 3) (dB (pv 4)))))) (ay)))) (
   ah (au (bo (zE (pv 1) (pv 2) (pv 3)))))))),?_⟩
  intro w hw;have sA:=ag (o:=.dK []) hw;have hw2:upd H w (.dK []) w=some (.dK (dk [])):=ac;generalize upd H w (.dK [])=H2 at hw2 sA ⊢;intro m hm;have sB:=ag (o:=.dT []) hm;have hm0:H m=none:=sA.free hm;have hm3:upd H2 m (.dT []) m=some (.dT (rq [])):=ac;have hw3:=sB _ _ hw2;generalize upd H2 m (.dT [])=H3 at hm3 hw3 sB ⊢;refine⟨nil0,fun ls hls=>?_⟩;have sC:=ag (o:=.lst []) hls;have s4:=(sA.trans sB).trans sC;have hs0:H ls=none:=(sA.trans sB).free hls;have M4:yc H (upd H3 ls (.lst [])) w m ls ⟨[],[],[],[]⟩ []:=⟨sC _ _ hw3,sC _ _ hm3,⟨[],ac,.nil⟩,hw,hm0,hs0⟩;generalize upd H3 ls (.lst [])=H4 at M4 s4 ⊢;refine⟨_,rfl,a,ns,rfl,s4.seq hS,fun lq H6 ds hlq s6 dlq hds hdl hxl=>?_⟩;have M6:=M4.on s6;have S6:=s4.trans s6;generalize hcn:de ns 1=cn at hds k;have L40:(bc 40 cn).length=40:=rm 40 cn;obtain⟨qs,hq6,hqp6⟩:=id dlq;have hql:=Mo hqp6
  refine⟨lq,rfl,⟨_,aW.of hq6⟩,a5 (K:=K) (a:=lq) (xs:=qs.map V.ref) (fun i σ HH=>∃ (es:List aX)(v4:Option V),σ=[some (.ref a),some (.ref w),some (.ref m),some (.ref ls),v4]/\ax H HH/\yc H HH w m ls (az es) (fm es)/\bW es/\es.Sublist (ds.take i) /\
    HH lq=some (.lst (qs.map V.ref))/\Paired (fun a x=>HH a=some (ca x)) qs ds/\lq≠ls)
   ⟨[],none,rfl,S6,M6,zX,List.nil_sublist _,hq6,hqp6,?_⟩ (fun i σ HH _ ⟨_,_,_,_,_,_,_,h,_⟩=>aW.of h) ?_ ?_⟩
  ·intro z;obtain⟨as,h,_⟩:=M4.hs;rw[z,h]at hlq;cases hlq
  ·rintro i y σ HH hi ⟨es,v4,rfl,S,M,dn,sub,hq,hqp,lqs⟩
   obtain⟨t,ht,rfl⟩:=bg hi;have hil:i<qs.length:=(List.getElem?_eq_some_iff.mp ht).1;obtain⟨d,hd,hT⟩:=paired_get hqp ht;have nmD:=hds d (MA hd);have smD:∀ g∈names d,g∈bc 40 cn/\bj g:=fun g hg=>⟨nmD g hg,db (nmD g hg)⟩
   have nmE:∀ e∈es,∀ g∈names e,g∈bc 40 cn/\bj g:=fun e he g hg=>by have:=hds e (Na (sub.mem he)) g hg;exact⟨this,db this⟩
   have ev:=iG dn nmE es.length;rw[MI]at ev;have esl:=sub.length_le;rw[Mz]at esl;have ln:=rD ev.good ev.of;have lm:=ev.ml;have lf:=NE lV es;refine⟨_,rfl,_,rfl,_,rfl,w,m,t,(az es).worn,fm es,d,rfl,M.hw,M.hm,hT,fun r H1 hr1 s1 hrt=>?_⟩;rw[u9 ev.al]at hrt;refine⟨r,_,_,_,rfl,rfl,eZ.of hrt,fz (j:=0) (Lk _),rfl,_,rfl,?_⟩;rw[Eh];have M1:=M.on s1;have hT1:=s1 _ _ hT;have hq1:=s1 _ _ hq;have hqp1:Paired (fun a x=>H1 a=some (ca x)) qs ds:=Paired.mapP hqp fun b y e=>s1 _ _ e
   have sub1:(es++[d]).Sublist (ds.take (i+1)):=by rw[MG,hd,ML];exact sub.append (List.Sublist.refl _)
   have sub0:es.Sublist (ds.take (i+1)):=by rw[MG];exact sub.trans (List.sublist_append_left _ _)
   by_cases hj:ba (az es) d=.done
   ·rw[Mp hj]
    obtain⟨as,hl,hp⟩:=id M1.hs;have hal:=Mo hp;rw[py]at hal;refine bA ⟨_,rfl,_,rfl,_,rfl,w,m,t,(az es).worn,fm es,d,rfl,M1.hw,M1.hm,hT1,by omega,by omega,(u9 ev.al d).trans hj,fun H3 h1 h2 k3=>?_⟩;obtain⟨M4,hl1⟩:=M1.done hj h1 h2 k3 hl hp hT1;rw[dM hj,o8 hj]at M4;refine⟨_,rfl,.inl ⟨rfl,_,aW.of hl1⟩,_,rfl,ls,_,_,rfl,rfl,hl1,by rw[Me];exact aw (by omega),?_⟩
    have kp:∀ b o,H1 b=some o->b≠w->b≠m->b≠ls->(upd H3 ls (.lst (as.map V.ref++[.ref t]))) b=some o:=fun b o e n1 n2 n3=>by rw[af n3];exact k3 b o e n1 n2
    refine⟨_,_,rfl,fun b o e=>kp b o (s1 _ _ (S b o e)) (aj e M.w0) (aj e M.m0) (aj e M.s0),M4,cj dn hj,sub1,kp lq _ hq1 (bE hq1 M1.hw (by intro z;cases z)) (bE hq1 M1.hm (by intro z;cases z)) lqs,Paired.mapP hqp1 fun b y e=>?_,lqs⟩;obtain⟨xs,ex⟩:=eO y;rw[ex]at e ⊢;exact kp b _ e (bE e M1.hw (by intro z;cases z)) (bE e M1.hm (by intro z;cases z)) (bE e hl (by intro z;cases z))
   ·rw[Mx hj]
    exact aV ⟨_,_,rfl,S.trans s1,M1,dn,sub0,hq1,hqp1,lqs⟩
  ·rintro σ HH ⟨es,v4,rfl,S,M,dn,sub,hq,hqp,lqs⟩
   have sub2:=sub.trans (List.take_sublist _ _);refine⟨_,rfl,_,rfl,_,rfl,three,fun t ht=>k t w m ls _ es (S.trans (ag ht)) ac (M.on (ag ht)) dn (fun e he g hg=>hds e (sub2.mem he) g hg) (MZ sub2.length_le hdl) (MZ (sub2.filter lV).length_le hxl)⟩
theorem D9 (F:cG K "_law_do" "_law_do" sd f fd)(lM:aA P w K mg base (ju P w) c.C "come" 2 ["self","guest"] (zp c))(qU:aA P w K mg base (ju P w) c.C "go" 4 ["self","guest"] (Hz c))(cz:aA P w K mg base (ju P w) c.C "exchange" 4 ["self","one","other"] (v8 c)) : aZ P w K mg base (ju P w) 5 f fd ["_law_hall","_law_deed_here"] (Hy c):=by
 refine F.okX Ez (fun vs H Q E h=>?_) (fun cdv A outer s H vs Q E hr h=>?_)
 ·obtain⟨p,t,B,st,d,rfl,_⟩:=h
  rfl
 ·obtain⟨p,t,B,st,d,rfl,ht0,S,ft,hg,sm,k⟩:=h
  have ht:H t=some (.tup (d6 d)):=by rw[<-pU];exact ht0
  have T0:eZ K H t (d6 d):=eZ.of ht
  refine⟨_,ae (a7 (aB cC (bv bF (pv 1) (am) (fun _ _=>rfl)) (bh) (aN _)) (ah (au (dq lM (pv 0) U.cl hr.m gC (dB (bv bF (pv 1) (am) (fun _ _=>rfl)))))) (ay)) (
   ae (a7 (aB cC (bv bF (pv 1) (am) (fun _ _=>rfl)) (bh) (aN _)) (ah (au (dq qU (pv 0) U.cl hr.m gC (dB (bv bF (pv 1) (am) (fun _ _=>rfl)))))) (ay)) (
   ah (au (dq cz (pv 0) U.cl hr.m gC (c9 (bv bF (pv 1) (am) (fun _ _=>rfl)) (bv bF (pv 1) (am) (fun _ _=>rfl))))))),?_⟩
  have n1:=u6 B (m:="come") (by decide +kernel) (by decide +kernel) (by decide +kernel) (by decide +kernel);have n2:=u6 B (m:="go") (by decide +kernel) (by decide +kernel) (by decide +kernel) (by decide +kernel);have n3:=u6 B (m:="exchange") (by decide +kernel) (by decide +kernel) (by decide +kernel) (by decide +kernel)
  cases d with
  | come g =>
   refine⟨_,rfl,t,_,_,_,rfl,rfl,T0,rfl,rfl,_,rfl,?_⟩;rw[show decide (V.str (word (.come g))=V.str "come")=true from cc];exact bA ⟨_,rfl,p,B.dx,_,rfl,S.ob,n1,_,rfl,t,_,_,_,rfl,rfl,T0,rfl,p,B,st,g,rfl,S,ft,sm g (by simp[names]),k⟩
  | go g =>
   refine⟨_,rfl,t,_,_,_,rfl,rfl,T0,rfl,rfl,_,rfl,?_⟩;rw[show decide (V.str (word (.go g))=V.str "come")=false from gc];refine aV ⟨_,rfl,t,_,_,_,rfl,rfl,T0,rfl,rfl,_,rfl,?_⟩;rw[show decide (V.str (word (.go g))=V.str "go")=true from gg];exact bA ⟨_,rfl,p,B.dx,_,rfl,S.ob,n2,_,rfl,t,_,_,_,rfl,rfl,T0,rfl,p,B,st,g,rfl,S,ft,sm g (by simp[names]),(fun m hm=>⟨hg.sm g m hm,fun e=>by rw[e]at hm;rw[(hg.wh g g).mp hm];rfl⟩),k⟩
  | exch a b =>
   refine⟨_,rfl,t,_,_,_,rfl,rfl,T0,rfl,rfl,_,rfl,?_⟩;rw[show decide (V.str (word (.exch a b))=V.str "come")=false from ec];refine aV ⟨_,rfl,t,_,_,_,rfl,rfl,T0,rfl,rfl,_,rfl,?_⟩;rw[show decide (V.str (word (.exch a b))=V.str "go")=false from eg];exact aV ⟨_,rfl,p,B.dx,_,rfl,S.ob,n3,_,rfl,t,_,_,_,rfl,rfl,T0,rfl,_,rfl,t,_,_,_,rfl,rfl,T0,rfl,p,B,st,a,b,rfl,S,ft,sm a (by simp[names]),sm b (by simp[names]),k⟩
theorem vE (F:cG K "_law_hall_of" "_law_hall_of" iU f fd)(MH:Kw P w K mg base c)(uC:eR P w K mg base "_law_do" 5 ["_law_hall","_law_deed_here"] (Hy c)) : aZ P w K mg base bV 7 f fd ["_law_story"] (nL c):=by
 refine F.ok iJ (fun vs H Q E h=>?_) (fun cdv A outer s H vs Q E hr h=>?_)
 ·obtain⟨l,ds,L,rfl,_⟩:=h
  rfl
 ·obtain⟨l,ds,L,rfl,dl,hdn,hdl,hL,hnm,k⟩:=h
  have hu:=bR hr
  refine⟨_,ae (bt 1 iJ.nd (Ic MH U hr.m rfl)) (
   ae (cL M9 rfl (bi (pv 0)) (iX 2 iJ.nd) (ah (a6 (y9 uC hr.m rfl vL (c9 (pv 1) (pv 2)))))) (
   ah (au (pv 1)))),?_⟩
  intro x dx nx ndx nex;refine⟨x,dx,rfl,ac,fun B H1 S1 kp fr=>⟨rfl,?_⟩⟩
  have s0:ax H (upd (upd H dx (.own x)) x (.ins c.C dx [])):=fun b o e=>by rw[af (aj e nx),af (aj e ndx)];exact e
  have E1:Ev c H H1 x B ⟨[],[],[],[]⟩:=⟨fun b o e=>kp b o (s0 b o e) (aj e nx),S1,o5,fun b hb=>s0.free (fr b hb)⟩;obtain⟨qs,hq,hqp⟩:=id dl
  refine⟨_,rfl,l,rfl,⟨_,aW.of (E1.same _ _ hq)⟩,a5 (K:=K) (a:=l) (xs:=qs.map V.ref) (fun i σ HH=>∃ (B:HA)(v:Option V),σ=[some (.ref l),some (.ref x),v]/\Ev c H HH x B (az (ds.take i))/\Of L (az (ds.take i))/\Sz i (az (ds.take i)))
   ⟨B,none,rfl,E1,of_empty,LU⟩ (fun i σ HH _ ⟨_,_,_,E,_⟩=>aW.of (E.same _ _ hq)) ?_ ?_⟩
  ·rintro i y σ HH hi ⟨B,v,rfl,E,o,z⟩
   obtain⟨t,ht,rfl⟩:=bg hi;obtain⟨d,hd,hT0⟩:=paired_get hqp ht;have hT:=E.same _ _ hT0;have hj:=hdn i d hd;have hil:=(List.getElem?_eq_some_iff.mp hd).1;have ft:=GX E.good o hL z (by omega);have nm:=hnm d (MA hd);refine⟨_,rfl,_,rfl,x,t,B,_,d,rfl,hT,E.hall,ft,E.good,fun g hg=>(nm g hg).2,?_⟩;unfold wD;rw[Mi hj];intro H2 mv
   have en:cO (az (ds.take i)) d=az (ds.take (i+1)):=by unfold cO;rw[Mi hj,MG,hd,ML,iw]
   have g2:=qZ E.good (d:=d) (fun g hg=>(nm g hg).2);have o2:=Da E.good o (fun g hg=>(nm g hg).1);have z2:=Dm z d
   have mv2:uN c.C HH x B (cO (az (ds.take i)) d) H2:=by unfold cO;rw[Mi hj];exact mv
   obtain⟨B',E2,_⟩:=E.moved mv2 g2;rw[en]at E2 o2 z2;exact⟨B',_,rfl,E2,o2,z2⟩
  ·rintro σ HH ⟨B,v,rfl,E,o,z⟩
   have el:=Mo hqp;rw[Me,el,MI]at E;exact⟨_,rfl,k x B HH nx E⟩
theorem AJ (F:cG K "_law_pair" "_law_pair" mY f fd)(iZ:ar P w K mg base "_law_whole" 1 ["_law_found"] uz) : aZ P w K mg base bV 2 f fd ["_law_found"] ut:=by
 refine F.ok A6 (fun vs H Q E h=>?_) (fun cdv A outer s H vs Q E hr h=>?_)
 ·obtain⟨a,p,rfl,_⟩:=h
  rfl
 ·obtain⟨a,p,rfl,hp,k⟩:=h
  refine⟨_,ae (a7 (jE (fH (eJ (be lR (by rfl) T.isinstance NL (ao (pv 0) (ao (qj (v:=.ty "tuple") (by rfl) T.tuple PyProof.Rows.boot_tuple rfl) aD))))) (j6 (aB iE (be bB (by rfl) T.len Nm (ao (pv 0) aD)) am (aN _)))).pt (ah (au d9)) ay)
   (ah (au (vM (aO iZ hr rfl (ao (bv bF (pv 0) am (fun _ _=>rfl)) aD)) (vP (aO iZ hr rfl (ao (bv bF (pv 0) am (fun _ _=>rfl)) aD)))))),?_⟩
  refine⟨_,rfl,_,_,_,true,rfl,kZ.tup hp,rfl,_,rfl,aV ?_⟩;refine⟨_,rfl,a,_,rfl,.inr (eZ.of hp),rfl,_,rfl,aV ?_⟩;refine⟨_,rfl,a,_,_,_,rfl,rfl,eZ.of hp,rfl,_,rfl,_,rfl,bA ?_⟩;exact⟨_,rfl,a,_,_,_,rfl,rfl,eZ.of hp,rfl,_,rfl,k⟩
theorem Cd (F:cG K "_law_row" "_law_row" kF f fd)(oS:ar P w K mg base "_law_pair" 2 ["_law_found"] ut) : aZ P w K mg base bV 3 f fd ["_law_found"] zy:=by
 refine F.ok Cr (fun vs H Q E h=>?_) (fun cdv A outer s H vs Q E hr h=>?_)
 ·obtain⟨l,ps,rfl,_⟩:=h
  rfl
 ·obtain⟨l,ps,rfl,⟨as,hl,hp⟩,hlen,k⟩:=h
  refine⟨_,ae (a7 (fH (eJ (be lR (by rfl) T.isinstance NL (ao (pv 0) (ao (qj (v:=.ty "list") (by rfl) T.list NC rfl) aD))))) (ah (au d9)) ay)
   (ah (au (be (xI rfl) (by rfl) T.all PyProof.Rows.boot_all (ao (df (so:=ak kF) (N:=xZ) (N':=["_law_pair_here"]) (src:=[none]) rfl rfl ⟨rfl,by decide +kernel,by decide +kernel,by decide +kernel,by decide +kernel,rfl,by decide +kernel⟩ rfl (bi (pv 0))
    (fun cl C s2 H2 ex=>⟨hX (i:=0) (show (["_law_pair_here"]:List Str).Nodup by decide +kernel) rfl (Or.inl rfl),dh,aO oS hr rfl (ao (pv 0) aD)⟩)) aD)))),?_⟩
  refine⟨_,rfl,_,_,_,true,rfl,kZ.lst hl,rfl,_,rfl,aV ?_⟩;refine⟨_,rfl,l,rfl,⟨_,aW.of hl⟩,fun q hq=>?_⟩;have hlq:l≠q:=aj hl hq
  refine a5 (K:=K) (a:=l) (xs:=as.map V.ref) (fun i σ H2=>∃ (v:Option V),σ=[v]/\ax H H2/\H2 q=some (.lst ((List.replicate i true).map V.bl)))
   ⟨none,rfl,ag hq,ac⟩ (fun i σ H2 _ ⟨_,_,s2,_⟩=>aW.of (s2 _ _ hl)) ?_ ?_
  ·rintro i y σ H2 hi ⟨v,rfl,s2,hq2⟩
   have hil:i<as.length:=by have:=(List.getElem?_eq_some_iff.mp hi).1;simpa using this
   obtain⟨a,ha,rfl⟩:=bg hi;obtain⟨p,_,hpa⟩:=paired_get hp ha;have hpl:=Mo hp;refine gH ⟨_,rfl,a,p,rfl,s2 _ _ hpa,_,hq2,by rw[Me,List.length_replicate];exact aw (by omega),?_⟩;exact⟨_,rfl,aR s2 hq,by rw[ac,List.replicate_succ',Mr];rfl⟩
  ·rintro σ H2 ⟨v,rfl,s2,hq2⟩
   refine⟨q,List.replicate as.length true,rfl,aW.of (by rw[hq2,Me]),?_⟩;rw[show (List.replicate as.length true).all id=true by simp];exact k H2 s2
theorem yU (F:cG K "_law_paper" "_law_paper" kD f fd) : aZ P w K mg base bV 1 f fd ["_law_row_here","_law_worn"] uu:=by
 refine F.ok h8 (fun vs H Q E h=>?_) (fun cdv A outer s H vs Q E hr h=>?_)
 ·obtain⟨l,d,ps,w,rfl,_⟩:=h
  rfl
 ·obtain⟨l,d,ps,w0,rfl,⟨as,hl,hp⟩,hlen,hd,hwl,k⟩:=h
  have hu:=bR hr
  have wrI:∀ (w:List (Int×Int))(g:Int),((dI (dk w) (Sum.inl g:cf)).getD (.int g))=.int (wr w g):=fun w g=>by
   rw[cR];unfold wr;cases look w g<;>rfl
  refine⟨_,ae (cL M9 rfl (bi (pv 0)) (rO rfl (cD (hX (i:=2) h8.nd rfl (Or.inl rfl)) (cD (hX (i:=3) h8.nd rfl (Or.inl rfl)) nE))) (ae (dN (i:=4) h8.nd rfl (Or.inl rfl) (qk hu (pv 1) (pv 2) (pv 2) ⟨rfl,rfl,rfl,rfl⟩)) (ae (gE hu (pv 1) (pv 2) (qk hu (pv 1) (pv 3) (pv 3) ⟨rfl,rfl,rfl,rfl⟩) rfl) (ah (gE hu (pv 1) (pv 3) (pv 4) rfl))))) (ah (au (pv 1))),?_⟩;have hld:l≠d:=bE hl hd (by intro z;cases z)
  refine⟨_,rfl,l,rfl,⟨_,aW.of hl⟩,a5 (K:=K) (a:=l) (xs:=as.map V.ref) (fun i σ H2=>∃ (v1 v2 v3:Option V),σ=[some (.ref l),some (.ref d),v1,v2,v3]/\H2=upd H d (.dK (dk (cZ w0 (ps.take i)))))
   ⟨none,none,none,rfl,by funext b;by_cases hb:b=d;subst hb;rw[ac,hd];rfl;rw[af hb]⟩ (fun i σ H2 _ ⟨_,_,_,_,h⟩=>aW.of (by rw[h,af hld];exact hl)) ?_ ?_⟩
  ·rintro i y σ H2 hi ⟨v1,v2,v3,rfl,rfl⟩
   have hil:i<as.length:=by have:=(List.getElem?_eq_some_iff.mp hi).1;simpa using this
   obtain⟨a,ha,rfl⟩:=bg hi;obtain⟨p,hpi,hpa⟩:=paired_get hp ha;have had:a≠d:=bE hpa hd (by intro z;cases z);have hpl:=Mo hp;have lw:=xS (ps.take i) w0;rw[Mz]at lw;generalize hw:cZ w0 (ps.take i)=w at lw
   have nxt:cZ w0 (ps.take (i+1))=oO w p:=by rw[se hpi];unfold cZ at hw ⊢;rw[M0,hw];rfl
   have sz:∀ v:List (Int×Int),v.length<=w.length+1->(dk v).length<sizeLine:=fun v h=>by rw[yx];exact MR (show v.length<5000 by omega) (by decide)
   refine⟨a,_,rfl,eZ.of (by rw[af had];exact hpa),rfl,_,_,rfl,_,_,rfl,rfl,?_⟩;refine⟨_,rfl,d,rfl,.inl ⟨_,.inl ac⟩,_,rfl,_,rfl,_,cu.k (k:=Sum.inl p.1) ac,?_⟩;refine⟨_,rfl,d,rfl,.inl ⟨_,.inl ac⟩,_,rfl,_,rfl,_,cu.k (k:=Sum.inl p.2) ac,_,rfl,_,rfl,d,_,rfl,lA.k (k:=Sum.inl p.1) ac (sz w (by omega)),?_⟩;refine⟨_,rfl,_,rfl,_,rfl,d,_,rfl,lA.k (k:=Sum.inl p.2) ac ?_,?_⟩
   ·rw[wrI,i9]
    exact sz _ (by have:=nu w p.1 (wr w p.2);omega)
   ·refine⟨_,_,_,rfl,?_⟩
    rw[nxt,wrI,wrI,i9,i9,fR,fR];rfl
  ·rintro σ H2 ⟨v1,v2,v3,rfl,rfl⟩
   refine⟨_,rfl,?_⟩
   have e:ps.take (as.map V.ref).length=ps:=by rw[Me,Mo hp,MI]
   rw[e];exact k
theorem yY (F:cG K "_law_wrong" "_law_wrong" io f fd) : aZ P w K mg base bV 1 f fd ["_law_worn"] uB:=by
 refine F.ok zi (fun vs H Q E h=>?_) (fun cdv A outer s H vs Q E hr h=>?_)
 ·obtain⟨d,w,rfl,_⟩:=h
  rfl
 ·obtain⟨d,w,rfl,hd,h64,k⟩:=h
  have hu:=bR hr
  refine⟨_,ah (au (df (so:=ak io) (N:=tj) (N':=["_law_guest_here","_law_worn"]) (src:=[none,some 0]) rfl rfl ⟨rfl,by decide +kernel,by decide +kernel,by decide +kernel,by decide +kernel,rfl,by decide +kernel⟩ rfl
    (bi (be (dS rfl) (by rfl) T.sorted Nw (ao (pv 0) aD)))
    (fun cl C s2 H2 ex=>⟨hX (i:=0) (show (["_law_guest_here","_law_worn"]:List Str).Nodup by decide +kernel) rfl (Or.inl rfl),j5 (aB iE (hW hu (pv 1) (pv 0) (fun _ _=>rfl)) (pv 0) (aN _)),pv 0⟩))),?_⟩
  have hkl:(aq w).length<64:=by unfold aq;rw[Me];exact h64
  refine⟨_,rfl,d,_,aq w,rfl,hd,CT w,hkl,fun q hq=>?_⟩;have hqd:d≠q:=aj hd hq;refine⟨q,rfl,⟨_,aW.of ac⟩,fun r hr0=>?_⟩;have hrq:q≠r:=aj ac hr0;have hrd:d≠r:=aj (show upd H q (.lst ((bn (aq w)).map V.int)) d=some (.dK (dk w)) by rw[af hqd];exact hd) hr0
  have hHr:H r=none:=by rw[af (ME hrq)]at hr0;exact hr0
  generalize hks:bn (aq w)=ks at *
  have hsl:ks.length<64:=by rw[<-hks,ir];exact hkl
  refine a5 (K:=K) (a:=q) (xs:=ks.map V.int) (fun i σ H2=>∃ (v:Option V),σ=[v,some (.ref d)]/\ax H H2/\H2 q=some (.lst (ks.map V.int))/\H2 r=some (.lst (((ks.take i).filter fun g=>decide (wr w g≠g)).map V.int)))
   ⟨none,rfl,aR (ag hq) hHr,by rw[af hrq,ac],ac⟩ (fun i σ H2 _ ⟨_,_,_,h,_⟩=>aW.of h) ?_ ?_
  ·rintro i y σ H2 hi ⟨v,rfl,s2,hq2,hr2⟩
   obtain⟨g,hg,rfl⟩:=bg hi;have hil:=(List.getElem?_eq_some_iff.mp hg).1
   have hgk:g∈aq w:=by rw[<-f6,hks];exact MA hg
   obtain⟨m,hm⟩:=MY.mp (bd.mpr hgk)
   have hwr:wr w g=m:=by unfold wr;rw[hm];rfl
   have hval:dI (dk w) (Sum.inl g:cf)=some (.int m):=by rw[cR,hm];rfl
   have gt:cu H2 d (.int g) (some (.int m)):=by rw[<-hval];exact cu.k (k:=Sum.inl g) (s2 _ _ hd)
   refine pF ⟨_,rfl,_,rfl,d,_,rfl,gt,_,rfl,rfl,_,rfl,?_⟩
   have nxt:((ks.take (i+1)).filter fun g=>decide (wr w g≠g)).map V.int=((ks.take i).filter fun g=>decide (wr w g≠g)).map V.int++(if wr w g≠g then [V.int g] else []):=by
    rw[se hg,M5,Mr]
    congr 1
    by_cases hne:wr w g≠g<;>simp[hne]
   by_cases hne:wr w g≠g
   ·rw[show (!decide (V.int m=V.int g))=true by rw[Mx (fun z=>hne (by rw[hwr];injection z))];rfl]
    have hfl:(((ks.take i).filter fun g=>decide (wr w g≠g)).map V.int).length<=i:=by
     rw[Me];exact MZ (NE _ _) (by rw[Mz];omega)
    refine bA ⟨_,rfl,_,hr2,aw (by omega),?_⟩;refine⟨_,rfl,aR s2 hHr,by rw[af hrq];exact hq2,?_⟩;rw[ac,nxt,Mi hne]
   ·have hne':wr w g=g:=by simpa using hne
    rw[show (!decide (V.int m=V.int g))=false by rw[Mp (by rw[<-hwr,hne'])];rfl];refine aV ⟨_,rfl,s2,hq2,?_⟩;rw[nxt,Mg hne,NQ];exact hr2
  ·rintro σ H2 ⟨v,rfl,s2,hq2,hr2⟩
   refine k r H2 hHr s2 ?_;rw[Me,MI]at hr2;unfold aU;rw[hks];exact hr2
theorem yR (F:cG K "_law_fresh" "_law_fresh" kz f fd)(cx:ar P w K mg base "_law_key" 1 ["_law_one","_law_other"] we) : aZ P w K mg base bV 2 f fd ["_law_row_here","_law_worn","_law_met"] qB:=by
 refine F.ok fM (fun vs H Q E h=>?_) (fun cdv A outer s H vs Q E hr h=>?_)
 ·obtain⟨l,w,m,W,ml,ps,rfl,_⟩:=h
  rfl
 ·obtain⟨l,w,m,W,ml,ps,rfl,row,hw,hm,hlen,k⟩:=h
  have hu:=bR hr
  refine⟨_,ae (bt 3 fM.nd AU) (
   ae (cL M9 rfl (bi (pv 0)) (rO rfl (cD (iX 4 fM.nd) (cD (iX 5 fM.nd) nE))) (ae (bt 6 fM.nd (aO cx hr.m rfl (c9 (pv 4) (pv 5)))) (
   ae (a7 (PW.pt (jE (aB cC (pv 4) (pv 5) (aN _)) (jE (eI (jD hu (pv 4) (pv 1))) (jE (eI (jD hu (pv 5) (pv 1))) (jE (eI (jX hu (pv 6) (pv 2))) (j6 (eI (jX hu (pv 6) (pv 3))))))))) (ah (au (d9))) (ay)) (
   ah (gE hu (pv 3) (pv 6) (d9) rfl))))) (
   ah (au (d9)))),?_⟩
  obtain⟨as,hl,hp⟩:=id row;have hpl:=Mo hp;intro sn hsn;have sA:=ag (o:=.dT []) hsn;have hs1:upd H sn (.dT []) sn=some (.dT (rq [])):=ac;generalize upd H sn (.dT [])=H1 at sA hs1 ⊢;have bad:¬ lL W ml ps->∀ HH,ax H HH->Q (.bl false) HH:=fun nf HH s=>k false HH s ⟨fun z=>(by cases z),fun z=>absurd z nf⟩
  refine⟨_,rfl,l,rfl,⟨_,aW.of (sA _ _ hl)⟩,a5 (K:=K) (a:=l) (xs:=as.map V.ref) (fun i σ HH=>∃ v1 v2 v3:Option V,σ=[some (.ref l),some (.ref w),some (.ref m),some (.ref sn),v1,v2,v3]/\ax H HH/\HH sn=some (.dT (rq ((ps.map hU).take i)))/\lL W ml (ps.take i))
   ⟨none,none,none,rfl,sA,hs1,⟨fun p hp=>(by simp at hp),(by simp)⟩⟩ (fun i σ HH _ ⟨_,_,_,_,s2,_⟩=>aW.of (s2 _ _ hl)) ?_ ?_⟩
  ·rintro i y σ HH hi ⟨v1,v2,v3,rfl,t1,hs2,fr⟩
   obtain⟨b,hb,rfl⟩:=bg hi;have hil:i<as.length:=(List.getElem?_eq_some_iff.mp hb).1;obtain⟨p,hp0,hB⟩:=paired_get hp hb;have pm:=MA hp0
   have hkr:(ps.map hU)[i]? = some (hU p):=by rw[List.getElem?_map,hp0];rfl
   have lk:((ps.map hU).take i).length<=1000:=by rw[Mz,Me];omega
   refine⟨b,_,rfl,eZ.of (t1 _ _ hB),rfl,_,_,rfl,_,_,rfl,rfl,?_⟩;refine⟨_,rfl,_,rfl,p.1,p.2,rfl,fun kt hkt=>?_⟩;have sk:=ag (o:=.tup [.int (bx p.1 p.2).1,.int (bx p.1 p.2).2]) hkt;have hkt2:upd HH kt (.tup [.int (bx p.1 p.2).1,.int (bx p.1 p.2).2]) kt=some (.tup (([Sum.inl (bx p.1 p.2).1,Sum.inl (bx p.1 p.2).2]:List cf).map kV)):=ac;have hs3:=sk _ _ hs2;generalize upd HH kt (.tup [.int (bx p.1 p.2).1,.int (bx p.1 p.2).2])=H3 at sk hkt2 hs3 ⊢;have t3:=t1.trans sk
   have gD:∀ g,cu H3 w (.int g) ((look W g).map V.int):=fun g=>by have:=cu.k (k:=Sum.inl g) (t3 _ _ hw);rw[cR]at this;exact this
   refine⟨_,rfl,_,rfl,rfl,_,rfl,?_⟩
   by_cases f1:p.1=p.2
   ·rw[Mp (Ng V.int f1)]
    exact bA (bad (fun fr=>(fr.1 p pm).1 f1) _ t3)
   rw[Mx (fun z=>f1 (V.int.inj z))];refine aV ⟨_,rfl,_,rfl,w,_,rfl,gD p.1,_,rfl,?_⟩;rw[Oh]
   cases f2:(look W p.1).isSome with
   | false=>exact bA (bad (fun fr=>by have:=bd.mpr (fr.1 p pm).2.1;rw[f2]at this;cases this) _ t3)
   | true =>
   refine aV ⟨_,rfl,_,rfl,w,_,rfl,gD p.2,_,rfl,?_⟩;rw[Oh]
   cases f3:(look W p.2).isSome with
   | false=>exact bA (bad (fun fr=>by have:=bd.mpr (fr.1 p pm).2.2.1;rw[f3]at this;cases this) _ t3)
   | true =>
   refine aV ⟨_,rfl,_,rfl,m,_,rfl,cu.t (t3 _ _ hm) hkt2,_,rfl,?_⟩;rw[ui ml (bx p.1 p.2)]
   by_cases f4:bx p.1 p.2∈ml
   ·rw[Mp f4]
    exact bA (bad (fun fr=>(fr.1 p pm).2.2.2 f4) _ t3)
   rw[Mx f4];refine aV ⟨_,rfl,_,rfl,sn,_,rfl,cu.t hs3 hkt2,_,rfl,?_⟩;rw[ui _ (bx p.1 p.2)]
   by_cases nin:bx p.1 p.2∈(ps.map hU).take i
   ·rw[Mp nin]
    exact bA (bad (fun fr=>l6 fr.2 hkr nin) _ t3)
   rw[Mx nin];refine aV ⟨_,rfl,_,rfl,sn,_,rfl,lA.t hs3 hkt2 (by unfold rq;rw[Me];exact aw lk),?_⟩;refine⟨_,_,_,rfl,aR t3 hsn,?_,?_⟩
   ·rw[ac,C6,MG,hkr,ML]
    unfold pQ;rw[Mg nin];rfl
   ·refine⟨fun q hq=>?_,?_⟩
    ·rw[MG,hp0,ML]at hq
     rcases Ml.mp hq with z | z
     ·exact fr.1 q z
     ·rw[Mv.mp z]
      exact⟨f1,bd.mp f2,bd.mp f3,f4⟩
    ·rw[Nu,MG,hkr,ML]
     have:=fr.2;rw[Nu]at this;refine MW.mpr ⟨this,by simp,fun a ha b hb e=>?_⟩;rw[Mv.mp hb]at e;exact nin (by rw[<-show a=bx p.1 p.2 from e];exact ha)
  ·rintro σ HH ⟨v1,v2,v3,rfl,t1,hs2,fr⟩
   rw[Me,hpl,MI]at fr;exact k true HH t1 ⟨fun _=>fr,fun _=>rfl⟩
theorem AH (F:cG K "_law_home" "_law_home" mV f fd)(lj:ar P w K mg base "_law_fresh" 2 ["_law_row_here","_law_worn","_law_met"] qB)(ly:ar P w K mg base "_law_wrong" 1 ["_law_worn"] uB)(lu:ar P w K mg base "_law_paper" 1 ["_law_row_here","_law_worn"] uu) : aZ P w K mg base bV 3 f fd ["_law_row_here","_law_worn","_law_met"] qE:=by
 refine F.ok A5 (fun vs H Q E h=>?_) (fun cdv A outer s H vs Q E hr h=>?_)
 ·obtain⟨l,w,m,W,ml,ps,rfl,_⟩:=h
  rfl
 ·obtain⟨l,w,m,W,ml,ps,rfl,row,hw,hm,hlen,h64,P,k⟩:=h
  refine⟨_,ah (au ((vM (aO lj hr.m rfl (zE (pv 0) (pv 1) (pv 2))) (vP (nA (Cf 1 (Fl hr (by decide))) (aO ly hr.m rfl (dB (aO lu hr.m rfl (c9 (pv 0) (dC jP (by rfl) T.dict PyProof.Rows.boot_dict (dB (pv 1))))))) (c6 aD) (aN _)))))),?_⟩;have nil0:(0:Nat)<=sizeLine:=MD _;refine⟨_,rfl,_,rfl,_,rfl,l,w,m,W,ml,ps,rfl,row,hw,hm,hlen,fun b H1 s1 hb=>⟨_,rfl,?_⟩⟩
  cases b with
  | false =>
   rw[Mg Mt];exact k false H1 s1 ⟨fun z=>(by cases z),fun z=>(by have:=hb.mpr z.1;cases this)⟩
  | true =>
   rw[Mi rfl];have fr:=hb.mp rfl;refine⟨_,rfl,_,rfl,w,_,rfl,s1 _ _ hw,fun ld hld=>?_⟩;have s2:=ag (o:=.dK (dk W)) hld;refine⟨l,ld,_,W,rfl,(row.mono s1).mono s2,hlen,ac,by omega,?_⟩;rw[fR];have s3:=ag (o:=.dK (dk (cZ W ps))) hld;refine⟨ld,cZ W ps,rfl,ac,NI (Ei P.nd fun p hp=>⟨(fr.1 p hp).2.1,(fr.1 p hp).2.2.1⟩) h64,fun l9 K1 hl9 v1 h9=>⟨nil0,fun l10 hl10=>?_⟩⟩;have v2:=ag (o:=.lst []) hl10;refine⟨l9,l10,_,_,rfl,rfl,ja (aW.of (v2 _ _ h9)),ja (ns:=[]) (aW.of ac),fun b hb=>?_⟩;rw[show (if false=true then !b else b)=b from rfl];exact k b _ (((s1.trans s3).trans v1).trans v2) ⟨fun z=>⟨fr,md.mp (hb.mp z)⟩,fun z=>hb.mpr (md.mpr z.2)⟩
theorem Cc (F:cG K "_law_new" "_law_new" pD f fd)(bG:ar P w K mg base "_law_guest" 2 ["_law_k","_law_cell"] kf) : aZ P w K mg base bV 3 f fd ["_law_k","_law_cell"] wg:=by
 refine F.ok Cq (fun vs H Q E h=>?_) (fun cdv A outer s H vs Q E hr h=>?_)
 ·obtain⟨j,n,rfl,_⟩:=h
  rfl
 ·obtain⟨j,n,rfl,⟨j0,j1⟩,k⟩:=h
  refine⟨_,ah (au (aO bG hr.m rfl (c9 (aP e8 (am) (pv 0)) (pv 1)))),?_⟩;exact⟨_,rfl,_,_,rfl,rfl,_,rfl,_,_,rfl,⟨by omega,by omega⟩,k⟩
theorem AL (F:cG K "_law_says" "_law_says" m5 f fd) : aZ P w K mg base bV 1 f fd ["_law_found","_law_due_here"] zz:=by
 refine F.ok A8 (fun vs H Q E h=>?_) (fun cdv A outer s H vs Q E hr h=>?_)
 ·obtain⟨x,y,rfl,_⟩:=h
  rfl
 ·obtain⟨x,y,rfl,k⟩:=h
  refine⟨_,ah (au (vM (be lR (by rfl) T.isinstance NL (ao (pv 0) (ao (qj (v:=.ty "bool") (by rfl) T.bool PyProof.Rows.boot_bool rfl) aD))) (vP (nA cC (pv 0) (pv 1) (aN _))))),?_⟩;refine⟨_,rfl,_,_,_,true,rfl,kZ.bl x,rfl,_,rfl,bA ?_⟩;exact⟨_,rfl,_,rfl,rfl,k⟩
theorem xa (F:cG K "_law_stands" "_law_stands" jr f fd)(dy:aA P w K mg base bV c.C "guests" 1 ["self"] (mJ c.C))(jN:aA P w K mg base bV c.C "story" 1 ["self"] (uw c.C))(ji:aA P w K mg base bV c.C "moment" 1 ["self"] (qG c.C))(jM:aA P w K mg base bV c.C "pairs" 2 ["self"] (qC c.C))(dz:aA P w K mg base bV c.C "inside" 1 ["self","guest"] (mL c.C))(a9:aA P w K mg base (ju P w) c.C "wears" 3 ["self","guest"] (jd c))(jj:aA P w K mg base (ju P w) c.C "wearer" 3 ["self","mask"] (qL c)) : aZ P w K mg base bV 4 f fd ["_law_hall","_law_worn","_law_met","_law_story"] (qJ c):=by
 refine F.ok oK (fun vs H Q E h=>?_) (fun cdv A outer s H vs Q E hr h=>?_)
 ·obtain⟨p,w,m,ls,B,st,ml,L,rfl,_⟩:=h
  rfl
 ·obtain⟨p,w,m,ls,B,st,ml,L,rfl,S,wB,hw,hm,hs,G,al,ci,mo,hL,hml,hwl,sm,k⟩:=h
  have hu:=bR hr
  refine⟨_,ae (a7 (PW.pt (jE (aB (vJ 1 (Fl hr (by decide))) (f7 dy (pv 0) U.cl hr.m cP) (be (dS rfl) (by rfl) T.sorted Nw (dB (pv 1))) (aN _)) (j6 (aB (vJ 1 (Fl hr (by decide))) (f7 jN (pv 0) U.cl hr.m cP) (pv 3) (aN _))))) (ah (au (d9))) (ay)) (
   ae (a7 (PW.pt (jE (aB iE (f7 ji (pv 0) U.cl hr.m cP) (be bB (by rfl) T.len Nm (dB (pv 3))) (aN _)) (j6 (aB (vJ 1 (Fl hr (by decide))) (f7 jM (pv 0) U.cl hr.m cP) (be (yi rfl) (by rfl) T.sorted Nw (dB (pv 2))) (aN _))))) (ah (au (d9))) (ay)) (
   ae (Dc (cL M9 rfl (Hr (pv 1)) (iX 4 oK.nd) (ae (a7 (aB Ee (dq dz (pv 0) U.cl hr.m cP (dB (pv 4))) (d9) (aN _)) (ah (au (d9))) (ay)) (
   ah (a7 (PW.pt (jE (aB iE (dq a9 (pv 0) U.cl hr.m vL (dB (pv 4))) (hW hu (pv 1) (pv 4) (fun _ _=>rfl)) (aN _)) (j6 (aB iE (dq jj (pv 0) U.cl hr.m vL (dB (hW hu (pv 1) (pv 4) (fun _ _=>rfl)))) (pv 4) (aN _))))) (ah (au (d9))) (ay)))))) (
   ah (au (d9))))),?_⟩
  have nos:∀ (B:HA)(m:Str),¬ m="worn"->¬ m="holders"->¬ m="circles"->¬ m="deeds"->(aS B).lookup m=none:=fun B m h1 h2 h3 h4=>u6 B h1 h2 h3 h4;have nG:∀ B:HA,(aS B).lookup ("guests" : Str)=none:=fun B=>pX B (by decide +kernel);have nM:∀ B:HA,(aS B).lookup ("moment" : Str)=none:=fun B=>pX B (by decide +kernel);have nI:∀ B:HA,(aS B).lookup ("inside" : Str)=none:=fun B=>pX B (by decide +kernel);have nS:∀ B:HA,(aS B).lookup ("story" : Str)=none:=fun B=>pX B (by decide +kernel);have nW:∀ B:HA,(aS B).lookup ("wears" : Str)=none:=fun B=>pX B (by decide +kernel);have nR:∀ B:HA,(aS B).lookup ("wearer" : Str)=none:=fun B=>pX B (by decide +kernel);have nT:∀ B:HA,(aS B).lookup ("met" : Str)=none:=fun B=>pX B (by decide +kernel);have nP:∀ B:HA,(aS B).lookup ("pairs" : Str)=none:=fun B=>pX B (by decide +kernel);have nQ:∀ B:HA,(aS B).lookup ("partners" : Str)=none:=fun B=>pX B (by decide +kernel)
  have two:(2:Nat)<=sizeLine:=by decide
  have nil0:(0:Nat)<=sizeLine:=MD _
  have dkk:∀ wl:List (Int×Int),(dk wl).map (·.1)=(aq wl).map Sum.inl:=fun wl=>by unfold dk aq;rw[M8,M8];rfl
  have szl:(aq st.worn).length<64:=by unfold aq;rw[Me];omega
  refine⟨_,rfl,p,B.dx,_,rfl,S.ob,nG B,p,B,_,rfl,S,hwl,fun l1 hl1=>?_⟩;have s1:=ag (o:=.lst ((bn (aq st.worn)).map V.int)) hl1;have h1:upd H l1 (.lst ((bn (aq st.worn)).map V.int)) l1=some (.lst ((bn (aq st.worn)).map V.int)):=ac;generalize upd H l1 (.lst ((bn (aq st.worn)).map V.int))=H1 at s1 h1 ⊢;refine⟨_,rfl,w,_,aq st.worn,rfl,s1 _ _ hw,dkk _,szl,fun l2 hl2=>?_⟩;have s2:=ag (o:=.lst ((bn (aq st.worn)).map V.int)) hl2;refine⟨l1,l2,_,_,rfl,rfl,ja (aW.of (s2 _ _ h1)),ja (aW.of ac),fun b hb=>⟨_,rfl,?_⟩⟩;rw[show (if true=true then !b else b)=false by rw[hb.mpr rfl];rfl];have S02:=s1.trans s2;generalize upd H1 l2 (.lst ((bn (aq st.worn)).map V.int))=H2 at S02 ⊢;have hS2:=S.mono S02;refine aV ⟨_,rfl,p,B.dx,_,rfl,hS2.ob,nS B,p,B,_,rfl,hS2,fun l3 H3 hl3 s3 d3=>⟨_,rfl,l3,ls,_,_,rfl,rfl,AY d3,AY (cJ hs (S02.trans s3)),fun b hb=>⟨_,rfl,?_⟩⟩⟩;rw[show (if true=true then !b else b)=false by rw[hb.mpr rfl];rfl];have S03:=S02.trans s3;have hS3:=S.mono S03;obtain⟨as,hls3,hp3⟩:=cJ hs S03;refine aV ⟨_,rfl,p,B.dx,_,rfl,hS3.ob,nM B,p,B,_,rfl,hS3,_,rfl,ls,_,rfl,.inl (aW.of hls3),rfl,_,rfl,?_⟩;rw[Me,Mo hp3,Mp rfl]
  have pl:(fF st.circ).length<=1000:=by
   have nd1:(fF st.circ).Nodup:=(qi ci).imp fun {a b} z e=>by rw[e,Qs.ltP_irr]at z;cases z
   have:=((List.perm_ext_iff_of_nodup nd1 mo.nd).mpr fun x=>x8 ci al mo x).length_eq;omega
  refine aV ⟨_,rfl,p,B.dx,_,rfl,hS3.ob,nP B,p,B,st,L,rfl,hS3,ci,hL,pl,fun l4 H4 hl4 s4 r4=>⟨_,rfl,m,ml,rfl,(S03.trans s4) _ _ hm,mo.nd,hml,fun l5 qs H5 hl5 s5 r5 pm so=>⟨l4,l5,_,_,rfl,rfl,rP (r4.mono s5),rP r5,fun b hb=>⟨_,rfl,?_⟩⟩⟩⟩;rw[show (if true=true then !b else b)=false by rw[hb.mpr (by rw[FQ ci al mo pm so])];rfl];have S05:=(S03.trans s4).trans s5;refine aV ⟨_,rfl,w,_,rfl,S05 _ _ hw,fun o=>?_⟩
  have kp:∀ x u,H5 x=some u->x≠w->(upd H5 w (.frz o (.dK (dk st.worn)))) x=some u:=fun x u e n=>by rw[af n];exact e
  have hw6:(upd H5 w (.frz o (.dK (dk st.worn)))) w=some (.frz o (.dK (dk st.worn))):=ac;have S6:aM c.C (upd H5 w (.frz o (.dK (dk st.worn)))) p B st:=(S.mono S05).kept (fp:=[w]) (fun b u e n=>kp b u e (fun z=>n (by rw[z];exact Mm))) (fun z=>by have ob:=(S.mono S05).ob;rw[Mv.mp z,S05 _ _ hw]at ob;cases ob) (fun b hb z=>wB (by rw[<-Mv.mp z];exact hb)) (fun b xs e z=>by rw[Mv.mp z,S05 _ _ hw]at e;cases e);generalize upd H5 w (.frz o (.dK (dk st.worn)))=H6 at kp hw6 S6 ⊢
  refine Fc (d:=w) (o:=o) (kvs:=dk st.worn) (fun i σ HH=>HH=H6/\∃ v:Option V,σ=[some (.ref p),some (.ref w),some (.ref m),some (.ref ls),v])
   ⟨rfl,none,rfl⟩ (fun i σ HH _ ⟨e,_⟩=>by rw[e];exact hw6) ?_ ?_
  ·rintro i y σ HH hi ⟨rfl,v,rfl⟩
   obtain⟨q,hq,rfl⟩:=bg hi;have hmem:=MA hq;have lk:look st.worn q.1=some q.2:=sZ G.wn hmem;have lh:=(G.wh q.1 q.2).mp lk;have sg:bj q.1:=sm _ (List.mem_map_of_mem (f:=(·.1)) hmem);have sq:bj q.2:=sm _ (G.ow _ _ lk);have dg:cu HH w (.int q.1) (some (.int q.2)):=.inl ⟨dk st.worn,Sum.inl q.1,.inr ⟨o,hw6⟩,rfl,by rw[cR,lk];rfl⟩;refine⟨_,rfl,p,B.dx,_,rfl,S6.ob,nI B,_,rfl,p,B,st,q.1,rfl,S6,_,_,rfl,rfl,_,rfl,?_⟩;rw[lk];refine aV ⟨_,rfl,p,B.dx,_,rfl,S6.ob,nW B,_,rfl,p,B,st,q.1,rfl,S6,sg,?_⟩;rw[lk];refine⟨_,rfl,_,rfl,w,_,rfl,dg,rfl,_,rfl,?_⟩;rw[Mp rfl];refine aV ⟨_,rfl,p,B.dx,_,rfl,S6.ob,nR B,_,rfl,_,rfl,w,_,rfl,dg,p,B,st,q.2,rfl,S6,sq,?_⟩;rw[lh];refine⟨_,rfl,rfl,_,rfl,?_⟩;rw[show (!decide (V.int q.1=kV (Sum.inl q.1,V.int q.2).1))=false by show (!decide (V.int q.1=V.int q.1))=false;simp];exact aV ⟨rfl,_,rfl⟩
  ·rintro σ HH ⟨rfl,v,rfl⟩
   refine⟨w,o,_,hw6,fun o' u' z=>?_,k _ fun x u e=>?_⟩
   ·have z:H w=some (.frz o' u'):=z
    rw[hw]at z;cases z
   ·by_cases hx:x=w
    ·rw[hx,ac]
     rw[hx,hw]at e;exact e
    ·rw[af hx]
     exact kp x u (S05 _ _ e) hx
theorem AI (F:cG K "_law_more" "_law_more" mX f fd)(fc:ar P w K mg base "_law_after" 2 ["_law_worn","_law_met","_law_deed_here"] qv) : aZ P w K mg base bV 3 f fd ["_law_state","_law_deeds_here"] wf:=by
 refine F.ok gM (fun vs H Q E h=>?_) (fun cdv A outer s H vs Q E hr h=>?_)
 ·obtain⟨t,ld,w,m,ls,H0,es,ds,L,rfl,_⟩:=h
  rfl
 ·obtain⟨t,ld,w,m,ls,H0,es,ds,L,rfl,ht,M,dl,nl,dn,hL,nm,len,k⟩:=h
  have hu:=bR hr
  refine⟨_,ae (F6 (pv 0) (rO rfl (cD (iX 2 gM.nd) (cD (iX 3 gM.nd) (cD (iX 4 gM.nd) nE))))) (
   ae (cL M9 rfl (bi (pv 1)) (iX 5 gM.nd) (ae (a6 (aO fc hr.m rfl (zE (pv 2) (pv 3) (pv 5)))) (
   ah (a6 (eB MM MS MT bM (pv 4) (dB (pv 5))))))) (
   ah (au (pv 0)))),?_⟩
  refine⟨_,rfl,t,_,rfl,eZ.of ht,rfl,_,_,rfl,_,_,rfl,_,_,rfl,rfl,?_⟩;obtain⟨qs,hq,hqp⟩:=dl;have hql:=Mo hqp;have pre:=iG dn nm
  have tk:∀ i,(es++ds).take (es.length+i)=es++ds.take i:=fun i=>by rw[List.take_append,Nb (by omega),Nat.add_sub_cancel_left]
  rw[Mj]at len
  refine⟨_,rfl,ld,rfl,⟨_,aW.of hq⟩,a5 (K:=K) (a:=ld) (xs:=qs.map V.ref) (fun i σ HH=>∃ v:Option V,σ=[some (.ref t),some (.ref ld),some (.ref w),some (.ref m),some (.ref ls),v]/\yc H0 HH w m ls (az (es++ds.take i)) (fm (es++ds.take i))/\(∀ b o,H b=some o->b≠w->b≠m->b≠ls->HH b=some o))
   ⟨none,rfl,by simpa using M,fun b o e _ _ _=>e⟩ (fun i σ HH _ ⟨_,_,_,kp⟩=>aW.of (kp _ _ hq (bE hq M.hw (by intro z;cases z)) (bE hq M.hm (by intro z;cases z)) nl)) ?_ ?_⟩
  ·rintro i y σ HH hi ⟨v,rfl,M1,kp⟩
   obtain⟨b,hb,rfl⟩:=bg hi;obtain⟨d,hd,hT0⟩:=paired_get hqp hb;have hil:i<ds.length:=(List.getElem?_eq_some_iff.mp hd).1;obtain⟨xs,ex⟩:=eO d;obtain⟨as0,hl0,_⟩:=M.hs
   have hT:HH b=some (ca d):=by
    rw[ex]at hT0 ⊢;exact kp _ _ hT0 (bE hT0 M.hw (by intro z;cases z)) (bE hT0 M.hm (by intro z;cases z)) (bE hT0 hl0 (by intro z;cases z))
   have hj:ba (az (es++ds.take i)) d=.done:=by
    have:=dn (es.length+i) d (by rw[List.getElem?_append_right (by omega),Nat.add_sub_cancel_left];exact hd);rw[tk]at this;exact this
   have P:=pre (es.length+i);rw[tk]at P
   have tn:es++ds.take (i+1)=(es++ds.take i)++[d]:=by rw[MG,hd,ML,Nf]
   have lno:=rD P.good P.of;have pm:=P.ml;have pf:=NE lV (es++ds.take i);rw[Mj,Mz]at pf;obtain⟨as,hl,hp⟩:=id M1.hs;have hal:=Mo hp;rw[py,Mj,Mz]at hal;refine⟨_,rfl,_,rfl,_,rfl,w,m,b,(az (es++ds.take i)).worn,fm (es++ds.take i),d,rfl,M1.hw,M1.hm,hT,by omega,by omega,(u9 P.al d).trans hj,fun H3 h1 h2 k3=>?_⟩;obtain⟨M4,hl1⟩:=M1.done hj h1 h2 k3 hl hp hT;rw[dM hj,o8 hj,<-tn]at M4;refine⟨_,rfl,.inl ⟨rfl,_,aW.of hl1⟩,_,rfl,ls,_,_,rfl,rfl,hl1,by rw[Me];exact aw (by omega),?_⟩;exact⟨_,rfl,M4,fun y o e n1 n2 n3=>by rw[af n3];exact k3 y o (kp y o e n1 n2 n3) n1 n2⟩
  ·rintro σ HH ⟨v,rfl,M1,kp⟩
   rw[Me,hql,MI]at M1;exact⟨_,rfl,k HH M1 kp⟩
theorem yV (F:cG K "_law_ready" "_law_ready" kE f fd)(bp:ar P w K mg base "_law_cell_at" 1 ["_law_script","_law_k"] (rX K))(dw:ar P w K mg base "_law_new" 3 ["_law_k","_law_cell"] wg)(jf:ar P w K mg base "_law_evening" 6 ["_law_script"] (ka K))(oR:ar P w K mg base "_law_more" 3 ["_law_state","_law_deeds_here"] wf) : aZ P w K mg base bV 7 f fd ["_law_script"] (uv K):=by
 refine F.ok ic (fun vs H Q E h=>?_) (fun cdv A outer s H vs Q E hr h=>?_)
 ·obtain⟨a,ns,rfl,_⟩:=h
  rfl
 ·obtain⟨a,ns,rfl,hS,k⟩:=h
  have hu:=bR hr
  have two:(2:Nat)<=sizeLine:=by decide
  refine⟨_,ae (bt 1 ic.nd (aO bp hr.m rfl (c9 (pv 0) (am)))) (
   ae (bt 2 ic.nd (c6 (c9 (bo (c9 (bh) (aO dw hr.m rfl (c9 (am) (pv 1))))) (bo (c9 (bh) (aO dw hr.m rfl (c9 (am) (pv 1)))))))) (
   ae (a7 (aB cC (aP bK (aO bp hr.m rfl (c9 (pv 0) (am))) (am)) (am) (aN _)) (ah (bt 2 ic.nd (aP fE (pv 2) (c6 (c9 (bo (c9 (bh) (aO dw hr.m rfl (c9 (am) (pv 1))))) (bo (c9 (bh) (aO dw hr.m rfl (c9 (am) (pv 1)))))))))) (ay)) (
   ah (au (aO oR hr.m rfl (c9 (aO jf hr.m rfl (dB (pv 0))) (pv 2))))))),?_⟩
  refine⟨_,rfl,a,ns,1,rfl,hS,by decide,?_⟩;generalize hcn:de ns 1=cn at k ⊢
  have z01:(0:Int)<=0/\(0:Int)<=1000:=by decide
  have z11:(0:Int)<=1/\(1:Int)<=1000:=by decide
  have fin:∀ (ld:Addr)(H1:Hp)(ds:List aX),ax H H1->bZ H1 ld ds->H ld=none->(∀ es,bW es->(∀ d∈es,∀ g∈names d,g∈bc 40 cn)->es.length<=88->(es.filter lV).length<=48->Ky cn (es++ds)) ->
    ∀ (X:XK)(t w m ls:Addr)(H2:Hp)(es:List aX),ax H1 H2->H2 t=some (.tup [.ref w,.ref m,.ref ls])->yc H1 H2 w m ls (az es) (fm es)->bW es->(∀ d∈es,∀ g∈names d,g∈bc 40 (de ns 1))->es.length<=88->(es.filter lV).length<=48->wf [.ref t,.ref ld] H2 Q X:=fun ld H1 ds s1 dl l0 hR X t w m ls H2 es s2 ht M dn nm el ex=>by
   rw[hcn]at nm;have R:=hR es dn nm el ex
   have nl:ld≠ls:=fun z=>by obtain⟨as,h,_⟩:=dl;rw[z]at h;rw[M.s0]at h;cases h
   have rl:=R.len;refine⟨t,ld,w,m,ls,H1,es,ds,bc 62 cn,rfl,ht,M,cJ dl s2,nl,R.dn,by rw[rm];decide,R.nm,by omega,fun H3 M3 kp=>?_⟩;have M3':yc H H3 w m ls (az (es++ds)) (fm (es++ds)):=⟨M3.hw,M3.hm,M3.hs,s1.free M.w0,s1.free M.m0,s1.free M.s0⟩
   have ht3:H3 t=some (.tup [.ref w,.ref m,.ref ls]):=by
    obtain⟨as,hl,_⟩:=M.hs;exact kp _ _ ht (bE ht M.hw (by intro z;cases z)) (bE ht M.hm (by intro z;cases z)) (bE ht hl (by intro z;cases z))
   exact k t w m ls H3 (es++ds) (fun b o e=>kp b o ((s1.trans s2) b o e) (aj (s1 b o e) M.w0) (aj (s1 b o e) M.m0) (aj (s1 b o e) M.s0)) ht3 M3' R
  refine⟨_,rfl,_,_,rfl,z01,two,fun t1 h1=>⟨_,rfl,_,_,rfl,z11,two,fun t2 h2=>⟨two,fun ld hld=>?_⟩⟩⟩;have s1:=ag (o:=ca (.come (d7 (60+0) cn))) h1;have s2:=ag (o:=ca (.come (d7 (60+1) cn))) h2;have s3:=ag (o:=.lst [.ref t1,.ref t2]) hld;have sA:=(s1.trans s2).trans s3;have ld0:H ld=none:=(s1.trans s2).free hld
  have dA:bZ (upd (upd (upd H t1 (ca (.come (d7 (60+0) cn)))) t2 (ca (.come (d7 (60+1) cn)))) ld (.lst [.ref t1,.ref t2])) ld [.come (d7 60 cn),.come (d7 61 cn)] :=
   ⟨[t1,t2],ac,.cons (s3 _ _ (s2 _ _ ac)) (.cons (s3 _ _ ac) .nil)⟩
  obtain⟨H1,eH1⟩:∃ H1,H1=upd (upd (upd H t1 (ca (.come (d7 (60+0) cn)))) t2 (ca (.come (d7 (60+1) cn)))) ld (.lst [.ref t1,.ref t2]):=⟨_,rfl⟩
  show jA 2 (.ref ld) _ (upd (upd (upd H t1 (ca (.come (d7 (60+0) cn)))) t2 (ca (.come (d7 (60+1) cn)))) ld (.lst [.ref t1,.ref t2])) _
  rw[<-eH1]at dA ⊢
  have sA:ax H H1:=by rw[eH1];exact sA
  refine⟨_,rfl,a,ns,0,rfl,sA.seq hS,by decide,_,_,rfl,rfl,by show (0:Int)<3;decide,rfl,_,rfl,z8 (fun _=>?_) (fun _=>?_)⟩
  ·refine⟨_,rfl,_,rfl,_,_,rfl,z01,two,fun t3 h3=>⟨_,rfl,_,_,rfl,z01,two,fun t4 h4=>⟨two,fun l2 hl2=>?_⟩⟩⟩
   have u1:=ag (o:=ca (.go (d7 (60+0) cn))) h3;have u2:=ag (o:=ca (.come (d7 (60+0) cn))) h4;have u3:=ag (o:=.lst [.ref t3,.ref t4]) hl2;obtain⟨as,hl,hp⟩:=id dA;have uA:=(u1.trans u2).trans u3;have hal:=Mo hp;refine⟨ld,l2,_,_,rfl,rfl,uA _ _ hl,ac,by rw[Me,hal];show 4<=sizeLine;decide,fun lp hlp=>?_⟩;have u4:=ag (o:=.lst (as.map V.ref++[.ref t3,.ref t4])) hlp;have sB:=(sA.trans uA).trans u4;refine⟨_,rfl,a,ns,rfl,sB.seq hS,fun t w m ls H2 es s2 ht M dn nm el ex=>⟨_,rfl,fin lp _ [.come (d7 60 cn),.come (d7 61 cn),.go (d7 60 cn),.come (d7 60 cn)] sB ⟨as++[t3,t4],by rw[ac,Mr];rfl,?_⟩ ((sA.trans uA).free hlp) (fun es dn nm el ex=>(Gh dn nm el ex).2) E0 t w m ls H2 es s2 ht M dn nm el ex⟩⟩;exact aJ (Paired.mapP hp fun b y e=>u4 _ _ (uA _ _ e)) (.cons (u4 _ _ (u3 _ _ (u2 _ _ ac))) (.cons (u4 _ _ (u3 _ _ ac)) .nil))
  ·exact⟨_,rfl,a,ns,rfl,sA.seq hS,fun t w m ls H2 es s2 ht M dn nm el ex=>⟨_,rfl,fin ld H1 _ sA dA ld0 (fun es dn nm el ex=>(Gh dn nm el ex).1) E0 t w m ls H2 es s2 ht M dn nm el ex⟩⟩
theorem tV (F:cG K "_law_plan_for" "_law_plan_for" gY f fd)(Chome_row:ar P w K mg base "home_row" 8 ["hall","one","other"] (nN c))(Ctwo_row:ar P w K mg base "two_row" 7 ["hall","one","other"] (qK c)) : aZ P w K mg base bV 9 f fd ["_law_hall","_law_kind","_law_one","_law_other"] (nV c):=by
 refine F.ok t9 (fun vs H Q E h=>?_) (fun cdv A outer s H vs Q E hr h=>?_)
 ·obtain⟨p,B,es,L,one,other,kd,rfl,_⟩:=h
  rfl
 ·obtain⟨p,B,es,L,one,other,kd,rfl,S,P,h64,smk,hL,N,k⟩:=h
  have hu:=bR hr
  refine⟨_,ae (a7 (aB cC (pv 1) (am) (aN _)) (ah (au (aO Chome_row hr.m rfl (zE (pv 0) (pv 2) (pv 3))))) (ay)) (
   ah (au (aO Ctwo_row hr.m rfl (zE (pv 0) (pv 2) (pv 3))))),?_⟩
  have li:∀ g,look (az es).worn g=some g->(look (az es).worn g).isSome=true:=fun g e=>by rw[e];rfl
  have fin:∀ (l:Addr)(H1:Hp)(ps:List (Int×Int)),H l=none->ax H H1->aY H1 l ps->Gd es ps->Q (.ref l) H1:=k;refine⟨_,rfl,rfl,_,rfl,?_⟩
  by_cases h0:kd=0
  ·rw[Mp (Ng V.int h0)]
   exact bA ⟨_,rfl,_,rfl,_,rfl,p,B,_,L,one,other,rfl,S,P.good,h64,smk,N.s1,N.s2,P.ci,hL,li _ N.la,li _ N.lb,N.c1,N.c2,N.ne,fun l H1 hl s1 row=>fin l H1 _ hl s1 row (II P h64 N.ne N.la N.lb N.c1 N.c2)⟩
  ·rw[Mx (fun z=>h0 (V.int.inj z))]
   exact aV ⟨_,rfl,_,rfl,_,rfl,p,B,_,L,one,other,rfl,S,P.good,h64,smk,N.s1,N.s2,P.ci,hL,li _ N.la,li _ N.lb,N.c1,N.c2,N.ne,fun l H1 hl s1 row=>fin l H1 _ hl s1 row (IJ P h64 N.ne N.la N.lb N.c1 N.c2)⟩
theorem w9 (F:cG K "_law_shaken" "_law_shaken" gG f fd)(bG:ar P w K mg base "_law_guest" 2 ["_law_k","_law_cell"] kf) : aZ P w K mg base bV 3 f fd ["_law_row_here","_law_cell","_law_names"] qI:=by
 refine F.ok jm (fun vs H Q E h=>?_) (fun cdv A outer s H vs Q E hr h=>?_)
 ·obtain⟨l,ps,d,cn,rfl,_⟩:=h
  rfl
 ·obtain⟨l,ps,d,cn,rfl,row,len,d0,k⟩:=h
  have hu:=bR hr
  have two:(2:Nat)<=sizeLine:=by decide
  have one:(1:Nat)<=sizeLine:=by decide
  refine⟨_,ae (bt 3 jm.nd (aP bK (aP eU (pv 1) (am)) (aP e8 (be bB (by rfl) T.len Nm (dB (pv 0))) (am)))) (
   ae (bt 4 jm.nd (Ci rfl (bI b8 (pv 0) (bS (pv 3)) (bS (aP e8 (pv 3) (am)))) (by rfl) T.list (by rfl) T.reversed)) (
   ae (a7 (aB cC (aP bK (pv 1) (am)) (am) (aN _)) (ah (au (aP fE (bI b8 (pv 0) cm (bS (pv 3))) (bI b8 (pv 0) (bS (aP e8 (pv 3) (am))) cm)))) (ay)) (
   ae (a7 (aB cC (aP bK (pv 1) (am)) (am) (aN _)) (ah (au (aP fE (aP fE (bI b8 (pv 0) cm (bS (pv 3))) (pv 4)) (bI b8 (pv 0) (bS (aP e8 (pv 3) (am))) cm)))) (ay)) (
   ae (a7 (aB cC (aP bK (pv 1) (am)) (am) (aN _)) (ah (au (df (so:=ak gG) (N:=qg) (N':=["_law_pair_here"]) (src:=[none]) rfl rfl yj rfl (bi (pv 0)) (fun cl C s2 H2 ex=>⟨iX 0 (show (["_law_pair_here"]:List Str).Nodup by decide +kernel),dh,bo (c9 (bv (CS K) (pv 0) (am) (fun _ _=>rfl)) (bv (CS K) (pv 0) (am) (fun _ _=>rfl)))⟩)))) (ay)) (
   ae (a7 (aB cC (aP bK (pv 1) (am)) (am) (aN _)) (ah (au (aP fE (aP fE (bI b8 (pv 0) cm (bS (pv 3))) (c6 (dB (bo (c9 (aO bG hr.m rfl (c9 (aP bK (aP eU (pv 1) (am)) (am)) (pv 2))) (aO bG hr.m rfl (c9 (aP bK (aP eU (pv 1) (am)) (am)) (pv 2)))))))) (bI b8 (pv 0) (bS (pv 3)) cm)))) (ay)) (
   ae (a7 (aB cC (aP bK (pv 1) (am)) (am) (aN _)) (ah (au (c6 aD))) (ay)) (
   ah (au (dC dR (by rfl) T.list NC (dB (pv 0))))))))))),?_⟩
  obtain⟨as,hl,hp⟩:=id row;have al:=Mo hp;refine⟨_,rfl,_,_,rfl,rfl,⟨by decide,by decide⟩,_,rfl,l,_,rfl,.inl (aW.of hl),_,_,rfl,rfl,_,_,rfl,rfl,by show (0:Int)<_;omega,?_⟩;rw[Me,al];obtain⟨pn,epc⟩:∃ pn:Nat,(pn:Int)=d/6%((ps.length:Int)+1):=⟨(d/6%((ps.length:Int)+1)).toNat,On (No _ (by omega))⟩
  have plt:pn<=ps.length:=by have:=Np (d/6) (show (0:Int)<(ps.length:Int)+1 by omega);omega
  refine LQ (show V.int (d/6%((ps.length:Int)+1))=V.int (pn:Int) by rw[epc]) ?_;clear epc;have inT:∀ (L:List Int)(qs:List (Int×Int)),GJ L ps->(∀ z∈qs,z∈ps)->GJ L qs:=fun L qs h hz p hp=>h p (hz p hp);refine⟨_,rfl,_,rfl,(pn:Int),rfl,_,rfl,_,_,rfl,rfl,((pn+2:Nat):Int),rfl,?_⟩;refine Gn pn 2 row fun q1 H1 rs hq1 s1 r1 in1 l1=>?_;obtain⟨as1,h1,p1⟩:=id r1;refine⟨q1,_,rfl,aW.of h1,fun q2 hq2=>?_⟩;have g2:=ag (o:=.lst (as1.map V.ref).reverse) hq2;have r2:aY (upd H1 q2 (.lst (as1.map V.ref).reverse)) q2 rs.reverse:=⟨as1.reverse,by rw[ac,List.map_reverse],Paired.mapP (mx p1) fun b e z=>g2 _ _ z⟩;have s2:=s1.trans g2;have row2:=row.mono s2
  have l2:rs.reverse.length<=2:=by rw[N5];exact l1
  have in2:∀ z∈rs.reverse,z∈ps:=fun z hz=>in1 z (NV.mp hz);generalize upd H1 q2 (.lst (as1.map V.ref).reverse)=H2 at s2 r2 row2 ⊢;generalize rs.reverse=sp at r2 l2 in2;clear r1 h1 p1 g2 hq2 in1 l1;have kR:∀ {m:Int},d%6=m\/¬ d%6=m:=fun {m}=>Classical.em _;refine⟨_,rfl,_,_,rfl,rfl,by show (0:Int)<6;decide,rfl,_,rfl,?_⟩
  by_cases c1:d%6=1
  ·rw[Mp (Ng V.int c1)]
   refine bA ⟨_,rfl,eG ⟨_,rfl,(pn:Int),rfl,?_⟩⟩;refine qp pn row2 fun p1 G1 hp1 g1 r3=>?_;refine⟨_,rfl,_,rfl,_,_,rfl,rfl,((pn+1:Nat):Int),rfl,eG ?_⟩;refine mD (pn+1) (row2.mono g1) fun p3 G4 hp3 g4 r4=>?_;refine j8 (r3.mono g4) r4 (by rw[Mz,M7];omega) fun p5 G5 hp5 g5 r5=>?_;have sF:=((s2.trans g1).trans g4).trans g5
   exact k p5 G5 _ (((s2.trans g1).trans g4).free hp5) sF r5 (by rw[Mj,Mz,M7];omega) fun L h1 _=>inT L _ h1 fun z hz=>by
    rcases Ml.mp hz with y | y
    ·exact Na y
    ·exact Oj y
  rw[Mx (fun z=>c1 (V.int.inj z))];refine aV ⟨_,rfl,_,_,rfl,rfl,by show (0:Int)<6;decide,rfl,_,rfl,?_⟩
  by_cases c2:d%6=2
  ·rw[Mp (Ng V.int c2)]
   refine bA ⟨_,rfl,eG ⟨_,rfl,(pn:Int),rfl,?_⟩⟩;refine qp pn row2 fun p1 G1 hp1 g1 r3=>?_;refine⟨_,rfl,?_⟩;refine j8 r3 (r2.mono g1) (by rw[Mz];omega) fun p2 G2 hp2 gg2 r6=>?_;refine⟨_,rfl,_,rfl,_,_,rfl,rfl,((pn+2:Nat):Int),rfl,eG ?_⟩;refine mD (pn+2) (row2.mono (g1.trans gg2)) fun p3 G4 hp3 g4 r4=>?_;refine j8 (r6.mono g4) r4 (by rw[Mj,Mz,M7];omega) fun p5 G5 hp5 g5 r5=>?_;have sE:=((s2.trans g1).trans gg2).trans g4
   exact k p5 G5 _ (sE.free hp5) (sE.trans g5) r5 (by rw[Mj,Mj,Mz,M7];omega) fun L h1 _=>inT L _ h1 fun z hz=>by
    rcases Ml.mp hz with y | y
    ·rcases Ml.mp y with x | x
     ·exact Na x
     ·exact in2 z x
    ·exact Oj y
  rw[Mx (fun z=>c2 (V.int.inj z))];refine aV ⟨_,rfl,_,_,rfl,rfl,by show (0:Int)<6;decide,rfl,_,rfl,?_⟩
  by_cases c3:d%6=3
  ·rw[Mp (Ng V.int c3)]
   obtain⟨as2,hl2,hp2⟩:=id row2;refine bA ⟨_,rfl,l,rfl,⟨_,aW.of hl2⟩,fun q hq=>Cz (K:=K) (rest:=[]) hq row2 (by omega) fun HK sK rK=>?_⟩
   exact k q HK _ (s2.free hq) (s2.trans sK) rK (by rw[Me];omega) fun L h1 _ p hp=>by
    obtain⟨e,he,rfl⟩:=MF.mp hp;exact⟨(h1 e he).2,(h1 e he).1⟩
  rw[Mx (fun z=>c3 (V.int.inj z))];refine aV ⟨_,rfl,_,_,rfl,rfl,by show (0:Int)<6;decide,rfl,_,rfl,?_⟩
  by_cases c4:d%6=4
  ·rw[Mp (Ng V.int c4)]
   refine bA ⟨_,rfl,eG ⟨_,rfl,(pn:Int),rfl,?_⟩⟩;refine qp pn row2 fun p1 G1 hp1 g1 r3=>?_;have bq:∀ m:Int,0<=m%15/\m%15<15:=fun m=>⟨No _ (by decide),Np _ (by decide)⟩;refine⟨_,rfl,_,_,rfl,rfl,⟨by decide,by decide⟩,_,_,rfl,rfl,by show (0:Int)<15;decide,_,rfl,_,_,rfl,⟨(bq _).1,Int.le_trans (Int.le_of_lt (bq _).2) (by decide)⟩,_,rfl,_,_,rfl,rfl,⟨by decide,by decide⟩,_,_,rfl,rfl,by show (0:Int)<15;decide,_,rfl,_,_,rfl,⟨(bq _).1,Int.le_trans (Int.le_of_lt (bq _).2) (by decide)⟩,two,fun t ht=>⟨one,fun ll hll=>?_⟩⟩;obtain⟨e1,he1⟩:∃ e1,e1=d7 (d/7%15) cn:=⟨_,rfl⟩;obtain⟨e2,he2⟩:∃ e2,e2=d7 (d/11%15) cn:=⟨_,rfl⟩;rw[<-he1,<-he2]at hll ⊢;have gt:=ag (o:=.tup [V.int e1,V.int e2]) ht;have htt:upd G1 t (.tup [V.int e1,V.int e2]) t=some (.tup [V.int e1,V.int e2]):=ac;generalize upd G1 t (.tup [V.int e1,V.int e2])=G1' at gt htt hll ⊢;have gl:=ag (o:=.lst [V.ref t]) hll;have rl:aY (upd G1' ll (.lst [V.ref t])) ll [(e1,e2)]:=⟨[t],ac,.cons (gl _ _ htt) .nil⟩;have gg:=gt.trans gl;generalize upd G1' ll (.lst [V.ref t])=G2 at rl gg ⊢;refine j8 (r3.mono gg) rl (by rw[MU,Mz];omega) fun p2 G3 hp2 g3 r6=>?_;refine⟨_,rfl,_,rfl,(pn:Int),rfl,eG ?_⟩;refine mD pn (row2.mono ((g1.trans gg).trans g3)) fun p3 G4 hp3 g4 r4=>?_;refine j8 (r6.mono g4) r4 (by rw[Mj,MU,Mz,M7];omega) fun p5 G5 hp5 g5 r5=>?_;have sE:=(((s2.trans g1).trans gg).trans g3).trans g4;refine k p5 G5 _ (sE.free hp5) (sE.trans g5) r5 (by rw[Mj,Mj,MU,Mz,M7];omega) fun L h1 h2 z hz=>?_
   rcases Ml.mp hz with y | y
   ·rcases Ml.mp y with x | x
    ·exact h1 z (Na x)
    ·rw[Mv.mp x,he1,he2]
     exact⟨h2 _ (bq _),h2 _ (bq _)⟩
   ·exact h1 z (Oj y)
  rw[Mx (fun z=>c4 (V.int.inj z))];refine aV ⟨_,rfl,_,_,rfl,rfl,by show (0:Int)<6;decide,rfl,_,rfl,?_⟩
  by_cases c5:d%6=5
  ·rw[Mp (Ng V.int c5)]
   exact bA ⟨MD _,fun q hq=>k q _ [] (s2.free hq) (s2.trans (ag hq)) ⟨[],ac,.nil⟩ (MD _) fun L _ _ p hp=>(by cases hp)⟩
  rw[Mx (fun z=>c5 (V.int.inj z))];obtain⟨as2,hl2,hp2⟩:=id row2;refine aV ⟨_,rfl,l,_,rfl,.inl (aW.of hl2),fun q hq=>?_⟩;have gq:=ag (o:=.lst (as2.map V.ref)) hq;exact k q _ ps (s2.free hq) (s2.trans gq) ⟨as2,ac,Paired.mapP hp2 fun b e z=>gq _ _ z⟩ (by omega) fun L h1 _=>h1
theorem yT (F:cG K "_law_keeps" "_law_keeps" kC f fd)(bQ:aA P w K mg base bV ck "state" 1 ["self"] (nU ck))(jO:aA P w K mg base bV ck "due" 2 ["self"] (zu ck))(jk:aA P w K mg base bV ck "left" 3 ["self"] (uo ck))(eY:aA P w K mg base bV ck "broken_at" 1 ["self"] (zr ck)) : aZ P w K mg base bV 4 f fd ["_law_keeper","_law_plan"] (ur ck):=by
 refine F.ok cF (fun vs H Q E h=>?_) (fun cdv A outer s H vs Q E hr h=>?_)
 ·obtain⟨k,D,s,v,rfl,_⟩:=h
  rfl
 ·obtain⟨k,D,s,v,rfl,S,hb,hd,hv,q⟩:=h
  have hu:=bR hr
  refine⟨_,ae (bt 2 cF.nd (bh)) (
   ae (bt 3 cF.nd (fG)) (
   ae (bt 4 cF.nd (am)) (
   ae (a7 (eI (y6 (pv 1))) (ae (bt 2 cF.nd (bh)) (
   ah (bt 4 cF.nd (be bB (by rfl) T.len Nm (dB (pv 1)))))) (ay)) (
   ae (a7 (aB Ib (pv 4) (am) (aN _)) (ae (bt 2 cF.nd (bh)) (
   ah (bt 3 cF.nd (bv cQ (pv 1) (am) (fun _ _=>rfl))))) (ay)) (
   ae (a7 (PW.pt (jE (aB iE (f7 bQ (pv 0) UO.k.cl hr.m cP) (pv 2) (aN _)) (jE (aB (IX 1 (Fl hr (by decide))) (f7 jO (pv 0) UO.k.cl hr.m cP) (pv 3) (aN _)) (j6 (aB iE (f7 jk (pv 0) UO.k.cl hr.m cP) (pv 4) (aN _)))))) (ah (au (d9))) (ay)) (
   ah (au (vN (y4 (f7 eY (pv 0) UO.k.cl hr.m cP)))))))))),?_⟩
  obtain⟨pl,dn,br⟩:=s;have hb:br=none:=hb;have hd:dn=0:=hd;subst hb hd;have kn:∀ {h p d b:V}(m:Str),(¬ m="hall"/\¬ m="plan"/\¬ m="danced"/\¬ m="breaking")->(ug h p d b).lookup m=none:=fun m z=>qa z
  apply zk (fun σ HH=>HH=H/\∃ dv:V,σ=[some (.ref k),some v,some (.str (hG.word ⟨pl,0,none⟩)),some dv,some (.int ((hG.rest ⟨pl,0,none⟩).length:Int))]/\GI H (hG.due ⟨pl,0,none⟩) dv)
  ·intro rest
   cases pl with
   | none =>
    rw[show v=.non from hv];refine⟨_,rfl,_,rfl,aV ?_⟩;refine⟨_,rfl,_,_,rfl,rfl,_,rfl,aV ?_⟩;exact rest _ _ ⟨rfl,.non,by rw[show v=.non from hv];rfl,rfl⟩
   | some ps =>
    obtain⟨l,rfl,row⟩:=hv;obtain⟨as,h1,h2⟩:=id row;have al:=Mo h2;refine⟨_,rfl,_,rfl,bA ?_⟩;refine⟨_,rfl,l,_,rfl,.inl (aW.of h1),?_⟩;refine⟨_,rfl,_,_,rfl,rfl,_,rfl,?_⟩;rw[Me,al]
    cases ps with
    | nil =>
     refine aV ?_;exact rest _ _ ⟨rfl,.non,rfl,rfl⟩
    | cons p ps =>
     rw[Mp (show (((p::ps).length:Nat):Int)>0 by rw[MX];omega)];obtain⟨b,hb,hB⟩:=mr h2 (show (p::ps)[0]? = some p from rfl);refine bA ⟨_,rfl,l,_,0,_,rfl,rfl,aW.of h1,fz (j:=0) (by rw[List.getElem?_map,hb];rfl),?_⟩;exact rest _ _ ⟨rfl,.ref b,rfl,b,rfl,hB⟩
  rintro σ HH ⟨rfl,dv,rfl,hdv⟩;refine⟨_,rfl,k,D.dx,_,rfl,S.ob,qa (by decide +kernel),k,D,_,rfl,S,_,rfl,rfl,_,rfl,?_⟩;rw[Mp rfl];refine aV ⟨_,rfl,k,D.dx,_,rfl,S.ob,qa (by decide +kernel),k,D,_,rfl,S,E4 fun w hw=>?_⟩;have fin:∀ H0,ax HH H0->Q (.bl true) H0:=q;refine⟨_,rfl,IF hw hdv ⟨_,rfl,aV ?_⟩⟩;refine⟨_,rfl,k,D.dx,_,rfl,S.ob,qa (by decide +kernel),k,D,_,rfl,S,fun H2 s2=>⟨_,rfl,rfl,_,rfl,?_⟩⟩;rw[Mp rfl];have S2:=S.mono s2;exact aV ⟨_,rfl,k,D.dx,_,rfl,S2.ob,qa (by decide +kernel),k,D,_,rfl,S2,fin H2 s2⟩
theorem yW (F:cG K "_law_taken" "_law_taken" kG f fd)(iA:aA P w K mg base (ju P w) ck "stand" 7 ["self","row"] (qD c ck co)) : aZ P w K mg base bV 8 f fd ["_law_keeper","_law_row_here"] (ux c ck):=by
 refine F.ok j9 (fun vs H Q E h=>?_) (fun cdv A outer s H vs Q E hr h=>?_)
 ·obtain⟨k,r,D,s,B,es,ps,L,rfl,_⟩:=h
  rfl
 ·obtain⟨k,r,D,s,B,es,ps,L,rfl,I,row,ok,len,q1,q2⟩:=h
  have hu:=bR hr
  refine⟨_,ae (bt 2 j9.nd (d9)) (
   ae (Ht rfl rfl (fun pins E=>ah (a6 (Jb iA (pv 0) UO.k.cl hr.m IZ (dB (pv 1))))) (Ho rfl UO.m (fun ea oe=>ah (bt 2 j9.nd (d9))) FX)) (
   ah (au (pv 2)))),?_⟩
  refine⟨_,rfl,k,D.dx,_,rfl,I.kp.ob,qa (by decide +kernel),_,rfl,k,r,D,s,B,es,ps,L,rfl,I,row,ok,len,fun hs pl H1 hpl K1 kp tr=>?_,fun hs H1 s1=>?_⟩
  ·exact⟨_,rfl,q1 hs pl H1 hpl K1 kp tr⟩
  ·exact⟨_,UO.x,bA ⟨_,rfl,q2 hs H1 s1⟩⟩
theorem rL (F:cG K "_law_with_quad" "_law_with_quad" gz f fd)(gO:ar P w K mg base "_law_four_calm" 2 ["_law_worn","_law_met","_law_row_here"] uj)(oU:ar P w K mg base "_law_quad" 1 ["_law_a","_law_b","_law_c","_law_d"] zw) : aZ P w K mg base bV 3 f fd ["_law_worn","_law_met","_law_row_here","_law_place"] uy:=by
 refine F.ok gi (fun vs H Q E h=>?_) (fun cdv A outer s H vs Q E hr h=>?_)
 ·obtain⟨w,m,l,W,ml,ps,pc,rfl,_⟩:=h
  rfl
 ·obtain⟨w,m,l,W,ml,ps,pc,rfl,hw,nd,hm,row,h64,len,k⟩:=h
  have hu:=bR hr
  refine⟨_,ae (bt 4 gi.nd (aO gO hr.m rfl (zE (pv 0) (pv 1) (pv 2)))) (
   ae (a7 (aB vH (be bB (by rfl) T.len Nm (dB (pv 4))) (am) (aN _)) (ah (au (pv 2))) (ay)) (
   ae (bt 3 gi.nd (aP bK (pv 3) (aP e8 (be bB (by rfl) T.len Nm (dB (pv 2))) (am)))) (
   ah (au (aP fE (aP fE (bI b8 (pv 2) cm (bS (pv 3))) (aO oU hr.m rfl (ao (bv cQ (pv 4) (am) (fun _ _=>rfl)) (ao (bv cQ (pv 4) (am) (fun _ _=>rfl)) (ao (bv cQ (pv 4) (am) (fun _ _=>rfl)) (ao (bv cQ (pv 4) (am) (fun _ _=>rfl)) aD)))))) (bI b8 (pv 2) (bS (pv 3)) cm)))))),?_⟩
  refine⟨_,rfl,_,rfl,_,rfl,w,m,l,W,ml,ps,rfl,hw,nd,hm,row,h64,by omega,fun lf H1 qs hlf s1 hf ql qin=>?_⟩;refine⟨_,rfl,lf,_,rfl,.inl (aW.of hf),_,_,rfl,rfl,_,rfl,?_⟩;rw[Me]
  by_cases c4:(qs.length:Int)<4
  ·rw[Mp c4]
   exact bA ⟨_,rfl,k l H1 ps s1 (.inl ⟨rfl,rfl⟩) (row.mono s1) (by omega) fun L h1 _=>h1⟩
  rw[Mx c4];obtain⟨a,b,cc,d,rfl⟩:=GZ ql c4;have row1:=row.mono s1;obtain⟨as,hl,hp⟩:=id row1;have al:=Mo hp;refine aV ⟨_,rfl,_,rfl,l,_,rfl,.inl (aW.of hl),_,_,rfl,rfl,_,_,rfl,rfl,by show (0:Int)<_;omega,?_⟩;rw[Me,al];obtain⟨pn,epc⟩:∃ pn:Nat,(pn:Int)=pc%((ps.length:Int)+1):=⟨(pc%((ps.length:Int)+1)).toNat,On (No _ (by omega))⟩;refine LQ (show V.int (pc%((ps.length:Int)+1))=V.int (pn:Int) by rw[epc]) ?_;refine⟨_,rfl,eG ⟨_,rfl,(pn:Int),rfl,?_⟩⟩;refine qp pn row1 fun p1 G1 hp1 g1 r3=>?_;have hfG:=g1 _ _ hf;refine⟨_,rfl,lf,_,0,_,rfl,rfl,aW.of hfG,rfl,_,rfl,lf,_,1,_,rfl,rfl,aW.of hfG,rfl,_,rfl,lf,_,2,_,rfl,rfl,aW.of hfG,rfl,_,rfl,lf,_,3,_,rfl,rfl,aW.of hfG,rfl,a,b,cc,d,rfl,fun q2 G2 hq2 g2 r4=>?_⟩;refine j8 (r3.mono g2) r4 (by rw[Mz];show _+6<=1000;omega) fun p2 G3 hp2 g3 r6=>?_;refine⟨_,rfl,_,rfl,(pn:Int),rfl,eG ?_⟩;refine mD pn (row1.mono ((g1.trans g2).trans g3)) fun p3 G4 hp3 g4 r7=>?_;refine j8 (r6.mono g4) r7 (by rw[Mj,Mz,M7];show _+6+_<=1000;omega) fun p5 G5 hp5 g5 r5=>?_;have sE:=(((s1.trans g1).trans g2).trans g3).trans g4;refine k p5 G5 _ (sE.trans g5) (.inr (sE.free hp5)) r5 (by rw[Mj,Mj,Mz,M7];show _+6+_<=_;omega) fun L h1 h2 z hz=>?_;rcases Ml.mp hz with y | y
  ·rcases Ml.mp y with x | x
   ·exact h1 z (Na x)
   ·have a1:=h2 _ (qin a (by simp))
    have a2:=h2 _ (qin b (by simp));have a3:=h2 _ (qin cc (by simp));have a4:=h2 _ (qin d (by simp));simp only[Ms,List.not_mem_nil,or_false]at x;rcases x with x | x | x | x | x | x<;>rw[x]<;>exact⟨by assumption,by assumption⟩
  ·exact h1 z (Oj y)
theorem rJ (F:cG K "_law_four_calm" "_law_four_calm" c8 f fd)(cx:ar P w K mg base "_law_key" 1 ["_law_one","_law_other"] we) : aZ P w K mg base bV 2 f fd ["_law_worn","_law_met","_law_row_here"] uj:=by
 refine F.ok dX (fun vs H Q E h=>?_) (fun cdv A outer s H vs Q E hr h=>?_)
 ·obtain⟨w,m,l,W,ml,ps,rfl,_⟩:=h
  rfl
 ·obtain⟨w,m,l,W,ml,ps,rfl,hw,nd,hm,row,h64,len,k⟩:=h
  have hu:=bR hr
  refine⟨_,ae (bt 3 dX.nd (c6 aD)) (
   ae (cL M9 rfl (bi (be (dS rfl) (by rfl) T.sorted Nw (dB (pv 0)))) (iX 4 dX.nd) (ae (bt 5 dX.nd ((vM (nA cC (hW hu (pv 0) (pv 4) (fun _ _=>rfl)) (pv 4) (aN _)) (vP (FW (be (qX rfl) (by rfl) T.any PyProof.Rows.boot_any (dB (df (so:=ak c8) (N:=gS) (N':=["_law_pair_here","_law_guest_here"]) (src:=[none,some 4]) rfl rfl yj rfl (bi (pv 2)) (fun cl C s2 H2 ex=>⟨iX 0 (show (["_law_pair_here","_law_guest_here"]:List Str).Nodup by decide +kernel),dh,nA (IW K) (pv 1) (pv 0) rfl⟩))))))))) (
   ah (a7 (PW.pt (ph (eJ (pv 5)) (ph (aB vH (be bB (by rfl) T.len Nm (dB (pv 3))) (am) (aN _)) (nJ (fH (eJ (be (qX rfl) (by rfl) T.any PyProof.Rows.boot_any (dB (df (so:=ak c8) (N:=gS) (N':=["_law_other","_law_met","_law_guest_here"]) (src:=[none,some 1,some 4]) rfl rfl yj rfl (bi (pv 3)) (fun cl C s2 H2 ex=>⟨iX 0 (show (["_law_other","_law_met","_law_guest_here"]:List Str).Nodup by decide +kernel),dh,vN (jX hu (aO cx hr.m rfl (c9 (pv 2) (pv 0))) (pv 1))⟩)))))))))) (ah (a6 (eB MM MS MT bM (pv 3) (dB (pv 4))))) (ay))))) (
   ah (au (pv 3)))),?_⟩
  refine⟨MD _,fun lf hlf=>?_⟩;have g1:=ag (o:=.lst []) hlf;have hf1:upd H lf (.lst []) lf=some (.lst (([]:List Int).map V.int)):=ac
  have kl:(aq W).length<64:=by unfold aq;rw[Me];exact h64
  generalize upd H lf (.lst [])=H1 at g1 hf1 ⊢;refine⟨_,rfl,w,_,aq W,rfl,g1 _ _ hw,CT _,kl,fun lg hlg=>?_⟩;have g2:=ag (o:=.lst ((bn (aq W)).map V.int)) hlg;have hg2:upd H1 lg (.lst ((bn (aq W)).map V.int)) lg=some (.lst ((bn (aq W)).map V.int)):=ac;have s2:=g1.trans g2;have hf2:=g2 _ _ hf1
  have lgf:lg≠lf:=fun z=>by rw[z,hf1]at hlg;cases hlg
  have hlg0:=g1.free hlg;generalize upd H1 lg (.lst ((bn (aq W)).map V.int))=H2 at g2 hg2 s2 hf2 ⊢;obtain⟨as,hl,hp⟩:=id row
  refine⟨lg,rfl,⟨_,aW.of hg2⟩,a5 (K:=K) (a:=lg) (xs:=(bn (aq W)).map V.int) (fun i σ HH=>∃ (qs:List Int)(v1 v2:Option V),σ=[some (.ref w),some (.ref m),some (.ref l),some (.ref lf),v1,v2]/\ax H HH/\HH lg=some (.lst ((bn (aq W)).map V.int))/\HH lf=some (.lst (qs.map V.int))/\qs.length<=4/\∀ q∈qs,q∈aq W)
   ⟨[],none,none,rfl,s2,hg2,hf2,MD _,fun q hq=>(by cases hq)⟩ (fun i σ HH _ ⟨_,_,_,_,_,h,_⟩=>aW.of h) ?_ ?_⟩
  ·rintro i y σ HH hi ⟨qs,v1,v2,rfl,t1,hgH,hfH,ql,qin⟩
   obtain⟨g,hg,rfl⟩:=bg hi;have gin:g∈aq W:=(gn _).mem_iff.mp (MA hg);obtain⟨mk,emk⟩:=MY.mp (bd.mpr gin)
   have gD:∀ {HX:Hp},ax H HX->cu HX w (.int g) (some (.int mk)):=fun s=>by have:=cu.k (k:=Sum.inl g) (s _ _ hw);rw[cR,emk]at this;exact this
   refine⟨_,rfl,_,rfl,w,_,rfl,gD t1,_,rfl,rfl,_,rfl,?_⟩
   apply zk (fun σ HX=>∃ b,σ=[some (.ref w),some (.ref m),some (.ref l),some (.ref lf),some (.int g),some (.bl b)]/\ax HH HX)
   ·intro rest
    by_cases e1:V.int mk=V.int g
    ·rw[Mp e1]
     refine bA ?_;refine⟨_,rfl,l,rfl,⟨_,aW.of (t1 _ _ hl)⟩,fun q1 hq1=>?_⟩;refine Bz (K:=K) (f:=fun p=>Ld (.int g) [.int p.1,.int p.2]) (rest:=[some (.int g)]) hq1 (row.mono t1) len (fun p b HK Q' _ hB _ kq=>⟨_,rfl,_,rfl,b,_,rfl,.inr (eZ.of hB),rfl,rfl,kq HK (ax.refl _)⟩) fun H3 s3 h3=>?_;exact⟨q1,_,rfl,aW.of h3,_,rfl,Fe (rest _ _ ⟨_,rfl,s3⟩)⟩
    ·rw[Mx e1]
     exact aV (Fe (rest _ _ ⟨_,rfl,ax.refl _⟩))
   rintro σ H3 ⟨b,rfl,s3⟩;have fin:∀ HX,ax HH HX->∀ v1 v2:Option V,∃ (qs:List Int)(v1' v2':Option V),[some (V.ref w),some (.ref m),some (.ref l),some (.ref lf),v1,v2]=[some (V.ref w),some (.ref m),some (.ref l),some (.ref lf),v1',v2']/\ax H HX/\HX lg=some (.lst ((bn (aq W)).map V.int))/\HX lf=some (.lst (qs.map V.int))/\qs.length<=4/\∀ q∈qs,q∈aq W:=fun HX sX v1 v2=>⟨qs,_,_,rfl,t1.trans sX,sX _ _ hgH,sX _ _ hfH,ql,qin⟩;refine⟨_,rfl,_,rfl,?_⟩
   cases b with
   | false=>exact aV (aV (fin H3 s3 _ _))
   | true =>
    refine bA ⟨_,rfl,lf,_,rfl,.inl (aW.of (s3 _ _ hfH)),_,_,rfl,rfl,_,rfl,?_⟩;rw[Me]
    by_cases e2:(qs.length:Int)<4
    ·rw[Mp e2]
     refine bA ?_;have hf3:=s3 _ _ hfH;refine⟨_,rfl,lf,rfl,⟨_,aW.of hf3⟩,fun q2 hq2=>?_⟩;have t3:=t1.trans s3;refine By (K:=K) (f:=fun r=>decide (bx g r∈ml)) (rest:=[some (.ref m),some (.int g)]) hq2 hf3 (by omega) (fun r HK Q' _ sK kq=>?_) fun H4 s4 h4=>?_
     ·refine⟨_,rfl,_,rfl,g,r,rfl,fun kt hkt=>?_⟩
      have sk:=ag (o:=.tup [.int (bx g r).1,.int (bx g r).2]) hkt;have hkt2:upd HK kt (.tup [.int (bx g r).1,.int (bx g r).2]) kt=some (.tup (([Sum.inl (bx g r).1,Sum.inl (bx g r).2]:List cf).map kV)):=ac;have hm3:=sk _ _ (sK _ _ (t3 _ _ hm));generalize upd HK kt (.tup [.int (bx g r).1,.int (bx g r).2])=H5 at sk hkt2 hm3 ⊢;refine⟨_,rfl,m,_,rfl,cu.t hm3 hkt2,?_⟩;rw[ui ml (bx g r)];exact kq H5 sk
     ·refine⟨q2,_,rfl,aW.of h4,_,rfl,?_⟩
      have s34:=s3.trans s4
      cases ((qs.map fun r=>decide (bx g r∈ml)).any id) with
      | true=>exact aV (fin H4 s34 _ _)
      | false =>
       have hf4:=s34 _ _ hfH;have hg4:=s34 _ _ hgH;refine bA ⟨_,rfl,.inl ⟨rfl,_,aW.of hf4⟩,_,rfl,lf,_,_,rfl,rfl,hf4,by rw[Me];exact aw (by omega),?_⟩;refine⟨qs++[g],_,_,rfl,aR (t1.trans s34) hlf,by rw[af lgf];exact hg4,by rw[ac,Mr];rfl,by rw[Mj,MU];omega,fun q hq=>?_⟩;rcases Ml.mp hq with z | z
       ·exact qin q z
       ·rw[Mv.mp z];exact gin
    ·rw[Mx e2]
     exact aV (aV (fin H3 s3 _ _))
  ·rintro σ HH ⟨qs,v1,v2,rfl,t1,hgH,hfH,ql,qin⟩
   exact⟨_,rfl,k lf HH qs hlf t1 hfH ql qin⟩
theorem AK (F:cG K "_law_quad" "_law_quad" mZ f fd) : aZ P w K mg base bV 1 f fd ["_law_a","_law_b","_law_c","_law_d"] zw:=by
 refine F.ok A7 (fun vs H Q E h=>?_) (fun cdv A outer s H vs Q E hr h=>?_)
 ·obtain⟨a,b,c,d,rfl,_⟩:=h
  rfl
 ·obtain⟨a,b,c,d,rfl,k⟩:=h
  refine⟨_,ah (au (c6 (ao (bo (ao (pv 0) (ao (pv 3) aD))) (ao (bo (ao (pv 1) (ao (pv 2) aD))) (ao (bo (ao (pv 0) (ao (pv 1) aD))) (ao (bo (ao (pv 2) (ao (pv 3) aD))) (ao (bo (ao (pv 1) (ao (pv 3) aD))) (ao (bo (ao (pv 0) (ao (pv 2) aD))) aD)))))))),?_⟩
  have two:(2:Nat)<=sizeLine:=by decide
  refine⟨_,rfl,_,rfl,two,fun p1 h1=>⟨_,rfl,_,rfl,two,fun p2 h2=>⟨_,rfl,_,rfl,two,fun p3 h3=>⟨_,rfl,_,rfl,two,fun p4 h4=>⟨_,rfl,_,rfl,two,fun p5 h5=>⟨_,rfl,_,rfl,two,fun p6 h6=>⟨by show 6<=sizeLine;decide,fun l hl=>?_⟩⟩⟩⟩⟩⟩⟩;have s1:=ag (o:=.tup [.int a,.int d]) h1;have s2:=ag (o:=.tup [.int b,.int c]) h2;have s3:=ag (o:=.tup [.int a,.int b]) h3;have s4:=ag (o:=.tup [.int c,.int d]) h4;have s5:=ag (o:=.tup [.int b,.int d]) h5;have s6:=ag (o:=.tup [.int a,.int c]) h6;have s7:=ag (o:=.lst [.ref p1,.ref p2,.ref p3,.ref p4,.ref p5,.ref p6]) hl;refine k l _ (((((s1.trans s2).trans s3).trans s4).trans s5).trans s6 |>.free hl) ((((((s1.trans s2).trans s3).trans s4).trans s5).trans s6).trans s7) ⟨[p1,p2,p3,p4,p5,p6],ac,?_⟩;exact .cons (s7 _ _ (s6 _ _ (s5 _ _ (s4 _ _ (s3 _ _ (s2 _ _ ac)))))) (.cons (s7 _ _ (s6 _ _ (s5 _ _ (s4 _ _ (s3 _ _ ac))))) (.cons (s7 _ _ (s6 _ _ (s5 _ _ (s4 _ _ ac)))) (.cons (s7 _ _ (s6 _ _ (s5 _ _ ac))) (.cons (s7 _ _ (s6 _ _ ac)) (.cons (s7 _ _ ac) .nil)))))
theorem IU (F:cG K "law" "law" Cw f fd)(lv:ar P w K mg base "_law_ready" 7 ["_law_script"] (uv K))(jh:ar P w K mg base "_law_hall_of" 7 ["_law_story"] (nL c))(bp:ar P w K mg base "_law_cell_at" 1 ["_law_script","_law_k"] (rX K))(MK:KN P w K mg base ck)(iy:ar P w K mg base "_law_plan_for" 9 ["_law_hall","_law_kind","_law_one","_law_other"] (nV c))(dw:ar P w K mg base "_law_new" 3 ["_law_k","_law_cell"] wg)(qT:ar P w K mg base "_law_row" 3 ["_law_found"] zy)(iY:ar P w K mg base "_law_keeps" 4 ["_law_keeper","_law_plan"] (ur ck))(ff:ar P w K mg base "_law_draws" 2 ["_law_cell","_law_many","_law_base"] qz)(jK:ar P w K mg base "_law_shaken" 3 ["_law_row_here","_law_cell","_law_names"] qI)(gP:ar P w K mg base "_law_with_quad" 3 ["_law_worn","_law_met","_law_row_here","_law_place"] uy)(oQ:ar P w K mg base "_law_home" 3 ["_law_row_here","_law_worn","_law_met"] qE)(jJ:ar P w K mg base "_law_says" 1 ["_law_found","_law_due_here"] zz)(Csends_home:ar P w K mg base "sends_home" 6 ["hall","row"] (mO c))(lx:ar P w K mg base "_law_taken" 8 ["_law_keeper","_law_row_here"] (ux c ck))(jL:ar P w K mg base "_law_stands" 4 ["_law_hall","_law_worn","_law_met","_law_story"] (qJ c)) : aZ P w K mg base bV 10 f fd ["_law_script"] (Bb K):=by
 refine F.ok fb (fun vs H Q E h=>?_) (fun cdv A outer s H vs Q E hr h=>?_)
 ·obtain⟨a,ns,rfl,_⟩:=h
  rfl
 ·obtain⟨a,ns,rfl,hS,hlen,k⟩:=h
  have hu:=bR hr
  refine⟨_,ae (F6 (aO lv hr.m rfl (dB (bI b8 (pv 0) cm (bS (am))))) (rO rfl (cD (iX 1 fb.nd) (cD (iX 2 fb.nd) (cD (iX 3 fb.nd) nE))))) (
   ae (bt 4 fb.nd (aO jh hr.m rfl (dB (pv 3)))) (
   ae (bt 5 fb.nd (aO bp hr.m rfl (c9 (pv 0) (am)))) (
   ae (bt 6 fb.nd (Hk MK UO.k hr.m rfl (dB (pv 4)))) (
   ae (bt 7 fb.nd (fG)) (
   ae (bt 8 fb.nd (aO iy hr.m rfl (ao (pv 4) (ao (aP bK (aO bp hr.m rfl (c9 (pv 0) (am))) (am)) (ao (aO dw hr.m rfl (c9 (am) (pv 5))) (ao (aO dw hr.m rfl (c9 (am) (pv 5))) aD)))))) (
   ae (a7 (PW.pt (jE (fH (eJ (aO qT hr.m rfl (dB (pv 8))))) (j6 (fH (eJ (aO iY hr.m rfl (c9 (pv 6) (fG)))))))) (ah (au (d9))) (ay)) (
   ae (cL M9 rfl (bi (aP fE (c6 (c9 (am) (am))) (aO ff hr.m rfl (zE (aO bp hr.m rfl (c9 (pv 0) (am))) (am) (am))))) (iX 9 fb.nd) (ae (bt 10 fb.nd (aO jK hr.m rfl (zE (pv 8) (pv 9) (pv 5)))) (
   ae (a7 (aB cC (aP bK (pv 9) (am)) (am) (aN _)) (ah (bt 10 fb.nd (aO gP hr.m rfl (ao (pv 1) (ao (pv 2) (ao (pv 10) (ao (aP eU (pv 9) (am)) aD))))))) (ay)) (
   ae (bt 11 fb.nd (aO oQ hr.m rfl (zE (pv 10) (pv 1) (pv 2)))) (
   ae (bt 12 fb.nd (dC dR (by rfl) T.list NC (dB (pv 10)))) (
   ae (a7 (fH (eJ (aO jJ hr.m rfl (c9 (aO Csends_home hr.m rfl (c9 (pv 4) (pv 12))) (pv 11))))) (ah (au (d9))) (ay)) (
   ae (a7 (PW.pt (jE (fH (eJ (aO jJ hr.m rfl (c9 (aO lx hr.m rfl (c9 (pv 6) (pv 12))) (pv 11))))) (j6 (aB (vJ 1 (Fl hr (by decide))) (pv 12) (pv 10) (aN _))))) (ah (au (d9))) (ay)) (
   ae (a7 (eJ (pv 11)) (ah (bt 7 fb.nd (dC dR (by rfl) T.list NC (dB (pv 10))))) (ay)) (
   ae (a6 (eB MM MS MT bM (pv 12) (dB (bo (c9 (am) (am)))))) (
   ah (a7 (fH (eJ (aO iY hr.m rfl (c9 (pv 6) (pv 7))))) (ah (au (d9))) (ay)))))))))))) (
   ah (au (aO jL hr.m rfl (ao (pv 4) (ao (pv 1) (ao (pv 2) (ao (pv 3) aD)))))))))))))),?_⟩
  have two:(2:Nat)<=sizeLine:=by decide
  refine⟨_,rfl,_,rfl,a,_,rfl,hS,fun l0 hl0=>?_⟩;rw[show gR (ns.map V.int) none (some 12)=(ns.take 12).map V.int by rw[show (12:Int)=((12:Nat):Int) from rfl,zV,Nu]];have g0:=ag (o:=.lst ((ns.take 12).map V.int)) hl0;have hS0:aW K (upd H l0 (.lst ((ns.take 12).map V.int))) l0 ((ns.take 12).map V.int):=aW.of ac;have hS:=g0.seq hS;generalize upd H l0 (.lst ((ns.take 12).map V.int))=H0 at g0 hS0 hS ⊢;refine⟨l0,ns.take 12,rfl,hS0,fun t w m ls H1 es s1 ht M R=>?_⟩;have ce:de (ns.take 12) 1=de ns 1:=DC (by decide) (by decide);rw[ce]at R;refine⟨t,_,rfl,eZ.of ht,rfl,_,_,rfl,_,_,rfl,_,_,rfl,rfl,?_⟩;generalize hcn:de ns 1=cn at R;have L62:(bc 62 cn).length=62:=rm 62 cn;have rl:=R.len;have rx:=R.ex;have P:=iG R.dn R.nm es.length;rw[MI]at P;have pm:=P.ml
  have hls:bZ H1 ls es:=by have:=M.hs;rw[py]at this;exact this
  refine⟨_,rfl,ls,es,bc 62 cn,rfl,hls,R.dn,by omega,by omega,R.nm,fun x B H2 hx E2=>?_⟩
  have nB:∀ b o,H1 b=some o->b∉B.fp:=fun b o e z=>by rw[E2.nfp b z]at e;cases e
  have wB:=nB _ _ M.hw;have hw2:=E2.same _ _ M.hw;have hm2:=E2.same _ _ M.hm;have hs2:=(M.on E2.same).hs;have S2:=E2.hall;have lno:=rD P.good P.of;have PW:=dt P.good;have smk:∀ g∈aq (az es).worn,bj g:=fun g hg=>db (P.of.1 g hg)
  have h64:(az es).worn.length<64:=by omega
  have hS2:=(s1.trans E2.same).seq hS;refine⟨_,rfl,a,ns,1,rfl,hS2,by decide,?_⟩;rw[hcn]
  have cyc:∀ g,(∀ y,cY (az es).circ y g=false)->dG (az es).circ g=[]:=fun g h=>by
   refine List.eq_nil_iff_forall_not_mem.mpr fun y hy=>?_;have:=P.good.cy g y;rw[h y]at this;unfold cY at this;rw[Mp hy]at this;cases this
  have ne:d7 60 cn≠d7 61 cn:=fun z=>by have:=yn (by decide) (by decide) z;omega
  have N:Nc es (d7 60 cn) (d7 61 cn):=⟨ne,R.l0,R.l1,cyc _ R.m0,cyc _ R.m1,q8 _ _,q8 _ _⟩;refine⟨_,rfl,fun kp dx hkp hdx nkd=>⟨kp,dx,x,rfl,ac,rfl,?_⟩⟩;rw[fR];have tr2:∀ {b:Addr}{o:HO},H2 b=some o->b≠kp/\b≠dx:=fun {b o} e=>⟨(fun z=>(by rw[z,hkp]at e;cases e)),(fun z=>(by rw[z,hdx]at e;cases e))⟩
  have s3:ax H2 (upd (upd H2 dx (.own kp)) kp (.ins ck dx (ug (.ref x) .non (.int 0) .non))):=fun b o e=>by rw[af (tr2 e).1,af (tr2 e).2];exact e
  have K3:eC ck (upd (upd H2 dx (.own kp)) kp (.ins ck dx (ug (.ref x) .non (.int 0) .non))) kp ⟨dx,x,kp⟩ ⟨none,0,none⟩:=⟨ac,fun ps e=>(by cases e),fun ps e=>(by cases e)⟩;have kB:kp∉B.fp:=E2.track hkp;generalize upd (upd H2 dx (.own kp)) kp (.ins ck dx (ug (.ref x) .non (.int 0) .non))=H3 at s3 K3 ⊢;have b0:=No (de ns 12) (show (2:Int)≠0 by decide);have S3:=S2.mono s3;refine⟨_,rfl,_,rfl,a,ns,12,rfl,s3.seq hS2,by decide,_,_,rfl,rfl,by show (0:Int)<2;decide,_,rfl,_,_,rfl,⟨by decide,by decide⟩,_,rfl,_,_,rfl,⟨by decide,by decide⟩,x,B,es,bc 62 cn,d7 60 cn,d7 61 cn,_,rfl,S3,P,h64,smk,by omega,N,fun lw H4 zs hlw s4 roww gd=>?_⟩;have zl:zs.length<=200:=gd.2.2;refine⟨_,rfl,lw,_,rfl,roww,by omega,fun H5 s5=>⟨_,rfl,aV ?_⟩⟩;have s35:=s4.trans s5;have K5:=K3.mono s35;refine⟨_,rfl,kp,_,_,.non,rfl,K5,rfl,rfl,rfl,fun H6 s6=>⟨_,rfl,aV ?_⟩⟩;have s36:=s35.trans s6;have K6:=K5.mono s6;have row6:=(roww.mono s5).mono s6;have hS6:=s36.seq (s3.seq hS2);have hS7:=hS6;refine⟨two,fun l1 hl1=>?_⟩;have g7:=ag (o:=.lst [V.int 5,V.int 12]) hl1;have h71:upd H6 l1 (.lst [V.int 5,V.int 12]) l1=some (.lst [V.int 5,V.int 12]):=ac;generalize upd H6 l1 (.lst [V.int 5,V.int 12])=H7 at g7 h71 ⊢;refine⟨_,rfl,a,ns,13,rfl,g7.seq hS6,by decide,_,5,30030,rfl,⟨by decide,by decide⟩,⟨by decide,by decide⟩,fun l2 ds hl2 hds dsl=>?_⟩;have g8:=ag (o:=.lst (ds.map V.int)) hl2;have h82:upd H7 l2 (.lst (ds.map V.int)) l2=some (.lst (ds.map V.int)):=ac;have g68:=g7.trans g8;have h81:=g8 _ _ h71;generalize upd H7 l2 (.lst (ds.map V.int))=H8 at g8 h82 g68 h81 ⊢
  refine⟨l1,l2,_,_,rfl,rfl,h81,h82,by rw[Me];show 2+ds.length<=_;exact Nz (aw (by omega)),fun lc hlc=>?_⟩;have g9:=ag (o:=.lst ((5::12::ds).map V.int)) hlc;have h9c:upd H8 lc (.lst ((5::12::ds).map V.int)) lc=some (.lst ((5::12::ds).map V.int)):=ac;have s69:=g68.trans g9;rw[show ([V.int 5,V.int 12]++ds.map V.int)=(5::12::ds).map V.int from rfl];have hlc0:H6 lc=none:=g68.free hlc;generalize upd H8 lc (.lst ((5::12::ds).map V.int))=H9 at g9 h9c s69 ⊢
  have dpos:∀ d∈(5::12::ds),0<=d:=fun d hd=>by
   rcases Ms.mp hd with z | hd
   ·rw[z];decide
   ·rcases Ms.mp hd with z | hd
    ·rw[z];decide
    ·exact (hds d hd).1
  generalize (5::12::ds)=dl at h9c dpos ⊢;have s29:=(s3.trans s36).trans s69;have K9:=K6.mono s69;have S9:=S2.mono s29;have row9:=row6.mono s69;have hw9:=s29 _ _ hw2;have hm9:=s29 _ _ hm2;have hs9:=cJ hs2 s29;clear g7 h71 g8 h82 g68 h81 g9 hl1 hl2 hlc
  have nk:∀ {b:Addr}{o:HO},H9 b=some o->(∀ C dx fs,o≠.ins C dx fs)->b≠kp:=fun e n z=>by rw[z,K9.ob]at e;exact n _ _ _ (Mu e).symm
  have xk:=Hb K9 S9;have nlst:∀ {b:Addr}{xs:List V},H9 b=some (.lst xs)->b≠kp:=fun e=>nk e (by intro _ _ _ z;cases z);have ntup:∀ {b:Addr}{xs:List V},H9 b=some (.tup xs)->b≠kp:=fun e=>nk e (by intro _ _ _ z;cases z);have tcell:∀ j:Int,0<=j/\j<15->d7 j cn∈bc 62 cn:=fun j hj=>ue ⟨hj.1,by omega⟩;have inz:GJ (bc 62 cn) zs:=fun p hp=>⟨P.of.1 _ (gd.1.1 p hp).2.1,P.of.1 _ (gd.1.1 p hp).2.2.1⟩;have smL:∀ g∈bc 62 cn,bj g:=fun g hg=>db hg
  have okR:∀ qs:List (Int×Int),GJ (bc 62 cn) qs->qs.length<=300->oV es qs (bc 62 cn):=fun qs hq hl=>⟨R.dn,by rw[Mj,Me];omega,by omega,fun d hd g hg=>by
   rcases Ml.mp hd with z | z
   ·exact R.nm d z g hg
   ·obtain⟨p,hp,rfl⟩:=MF.mp z
    simp only[eF,names,Ms,List.not_mem_nil,or_false]at hg;have:=hq p hp;rcases hg with z | z<;>rw[z]
    ·exact⟨this.1,smL _ this.1⟩
    ·exact⟨this.2,smL _ this.2⟩,smL⟩
  have bEq:∀ {b g:Bool}{qs:List (Int×Int)},oV es qs (bc 62 cn)->(b=true↔sS es qs)->(g=true↔lL (az es).worn (fm es) qs/\aU (cZ (az es).worn qs)=[])->b=g:=fun ok h1 h2=>Bool.eq_iff_iff.mpr ((h1.trans (rV ok)).trans h2.symm)
  refine⟨lc,rfl,⟨_,aW.of h9c⟩,a5 (K:=K) (a:=lc) (xs:=dl.map V.int) (fun i σ HH=>∃ (D:KA)(s:hG)(pv:V)(v9 v10 v11 v12:Option V),σ=[some (.ref a),some (.ref w),some (.ref m),some (.ref ls),some (.ref x),some (.int cn),some (.ref kp),some pv,some (.ref lw),v9,v10,v11,v12]/\eC ck HH kp D s/\D.p=x/\s.brk=none/\s.dn=0/\zM HH s.plan pv/\(∀ ps,s.plan=some ps->D.pl∉B.fp)/\∀ b o,H9 b=some o->b≠kp->HH b=some o)
   ⟨_,_,.non,none,none,none,none,rfl,K9,rfl,rfl,rfl,rfl,fun ps e=>(by cases e),fun b o e _=>e⟩ (fun i σ HH _ ⟨_,_,_,_,_,_,_,_,_,_,_,_,_,_,kk⟩=>aW.of (kk _ _ h9c (nlst h9c))) ?_ ?_⟩
  ·rintro i y σ HH hi ⟨D,s,pv,v9,v10,v11,v12,rfl,KP,eD,eb,ed,PV,pB,kk⟩
   obtain⟨d,hd,rfl⟩:=bg hi;have d0:=dpos d (MA hd)
   have rowK:∀ {l:Addr}{ps:List (Int×Int)},aY H9 l ps->aY HH l ps:=fun {l ps} h=>by
    obtain⟨as,h1,h2⟩:=h;exact⟨as,kk _ _ h1 (nlst h1),Paired.mapP h2 fun b e z=>kk _ _ z (ntup z)⟩
   have SH:aM c.C HH x B (az es):=S9.kept (fp:=[kp]) (fun b o e n=>kk b o e (fun z=>n (by rw[z];exact Mv.mpr rfl))) (fun z=>xk (Mv.mp z)) (fun b hb z=>kB (by rw[<-Mv.mp z];exact hb)) (fun b xs e z=>ntup e (Mv.mp z));have hwH:=kk _ _ hw9 (nk hw9 (by intro _ _ _ z;cases z));have hmH:=kk _ _ hm9 (nk hm9 (by intro _ _ _ z;cases z));refine⟨_,rfl,_,rfl,_,rfl,lw,zs,d,cn,rfl,rowK row9,by omega,d0,fun l8 G8 qs hl8 s8 r8 ql8 in8=>?_⟩;have in8:=in8 _ inz tcell;refine⟨_,rfl,_,_,rfl,rfl,by show (0:Int)<5;decide,rfl,_,rfl,?_⟩
   apply zk (fun σ HX=>∃ (l9:Addr)(qs:List (Int×Int)),σ=[some (.ref a),some (.ref w),some (.ref m),some (.ref ls),some (.ref x),some (.int cn),some (.ref kp),some pv,some (.ref lw),some (.int d),some (.ref l9),v11,v12]/\ax HH HX/\aY HX l9 qs/\qs.length<=300/\GJ (bc 62 cn) qs/\HH l9=none)
   ·intro rest
    by_cases c2:d%5=2
    ·rw[Mp (Ng V.int c2)]
     refine bA ⟨_,rfl,_,rfl,_,rfl,_,rfl,_,_,rfl,rfl,⟨by decide,by decide⟩,w,m,l8,_,_,qs,_,rfl,s8 _ _ hwH,P.good.wn,s8 _ _ hmH,r8,h64,by omega,fun l9 G9 q9 s9 f9 r9 ql9 in9=>?_⟩;refine rest _ _ ⟨l9,q9,rfl,s8.trans s9,r9,by omega,in9 _ in8 fun g hg=>P.of.1 g hg,?_⟩;rcases f9 with ⟨z,_⟩ | z
     ·rw[z];exact hl8
     ·exact s8.free z
    ·rw[Mx (fun z=>c2 (V.int.inj z))]
     exact aV (rest _ _ ⟨l8,qs,rfl,s8,r8,by omega,in8,hl8⟩)
   clear in8 ql8 r8 s8 hl8;rintro σ G9 ⟨l9,qs,rfl,s9,r9,ql9,in9,hl9⟩;have ok:=okR qs in9 ql9;refine⟨_,rfl,_,rfl,_,rfl,l9,w,m,_,_,qs,rfl,r9,s9 _ _ hwH,s9 _ _ hmH,by omega,h64,PW,fun g G10 s10 hg=>?_⟩;have r10:=r9.mono s10;obtain⟨as10,h10,p10⟩:=id r10;refine⟨_,rfl,l9,_,rfl,.inl (aW.of h10),fun lh hlh=>?_⟩;have g11:=ag (o:=.lst (as10.map V.ref)) hlh;have r11:aY (upd G10 lh (.lst (as10.map V.ref))) lh qs:=⟨as10,ac,Paired.mapP p10 fun b e z=>g11 _ _ z⟩;have s11:=(s9.trans s10).trans g11;have r11b:=r10.mono g11
   have lh9:lh≠l9:=fun z=>by rw[z,h10]at hlh;cases hlh
   have hlh0:HH lh=none:=(s9.trans s10).free hlh;generalize upd G10 lh (.lst (as10.map V.ref))=G11 at g11 r11 s11 r11b ⊢;refine⟨_,rfl,_,rfl,x,lh,B,es,qs,bc 62 cn,rfl,SH.mono s11,r11,ok,fun b G12 s12 hb=>⟨_,rfl,b,g,rfl,?_⟩⟩;have ebg:b=g:=bEq ok hb hg;rw[ebg,Mp rfl];refine⟨_,rfl,aV ?_⟩;have s12':=s11.trans s12;have r12:=r11.mono s12;have r12b:=r11b.mono s12;have K12:=KP.mono s12';have I12:KM c ck G12 kp D s B (az es):=⟨K12,by rw[eD];exact SH.mono s12',kB,pB⟩
   have nk2:∀ {b:Addr}{o:HO},G12 b=some o->(∀ C dx fs,o≠.ins C dx fs)->b≠kp:=fun e n z=>by rw[z,K12.ob]at e;exact n _ _ _ (Mu e).symm
   have rowM:∀ {HX:Hp}{l:Addr}{ps:List (Int×Int)},(∀ b o,G12 b=some o->b≠kp->HX b=some o)->aY G12 l ps->aY HX l ps:=fun {HX l ps} kq h=>by
    obtain⟨as,h1,h2⟩:=h;exact⟨as,kq _ _ h1 (nk2 h1 (by intro _ _ _ z;cases z)),Paired.mapP h2 fun b e z=>kq _ _ z (nk2 z (by intro _ _ _ z;cases z))⟩
   apply zk (fun σ HX=>∃ (D':KA)(s':hG)(pv':V),σ=[some (.ref a),some (.ref w),some (.ref m),some (.ref ls),some (.ref x),some (.int cn),some (.ref kp),some pv',some (.ref lw),some (.int d),some (.ref l9),some (.bl g),some (.ref lh)]/\eC ck HX kp D' s'/\D'.p=x/\s'.brk=none/\s'.dn=0/\zM HX s'.plan pv'/\(∀ ps,s'.plan=some ps->D'.pl∉B.fp/\D'.pl≠lh)/\(∀ b o,G12 b=some o->b≠kp->HX b=some o)/\∀ l',pv'=.ref l'->l'≠lh)
   ·intro rest
    refine⟨_,rfl,_,rfl,kp,lh,D,s,B,es,qs,bc 62 cn,rfl,I12,r12,ok,by omega,fun hs pl H13 hpl K13 kp13 tr13=>?_,fun hn H13 s13=>?_⟩
    ·have eg:g=true:=hg.mpr ((rV ok).mp hs)
     refine⟨_,rfl,true,g,rfl,?_⟩;rw[eg,Mp rfl];have r13:=rowM kp13 r12;have r13b:=rowM kp13 r12b;refine⟨_,rfl,aV ⟨_,rfl,_,rfl,lh,l9,_,_,rfl,rfl,rP r13,rP r13b,fun bb hbb=>⟨_,rfl,?_⟩⟩⟩;rw[show (if true=true then !bb else bb)=false by rw[hbb.mpr rfl];rfl];obtain⟨as13,h13,p13⟩:=id r13b;obtain⟨as14,h14,p14⟩:=id r12;refine aV ⟨_,rfl,_,rfl,bA ⟨_,rfl,l9,_,rfl,.inl (aW.of h13),fun lp hlp=>?_⟩⟩;have g14:=ag (o:=.lst (as13.map V.ref)) hlp;have r14:aY (upd H13 lp (.lst (as13.map V.ref))) lp qs:=⟨as13,ac,Paired.mapP p13 fun b e z=>g14 _ _ z⟩;refine Fe (rest _ _ ⟨{ D with pl:=pl },Ii qs,.ref lp,by rw[eg];first | done | rfl,K13.mono g14,eD,rfl,rfl,⟨lp,rfl,r14⟩,fun ps e=>⟨fun z=>?_,fun z=>?_⟩,fun b o e n=>g14 _ _ (kp13 b o e n),fun l' e z=>?_⟩)
     ·obtain⟨o,eo⟩:=(SH.mono s12').tracked z
      rw[hpl]at eo;cases eo
     ·have z:pl=lh:=z
      rw[z,h14]at hpl;cases hpl
     ·have e:V.ref lp=V.ref l':=e
      cases e;obtain⟨as15,h15,_⟩:=r13;rw[z,h15]at hlp;cases hlp
    ·have eg:g=false:=by
      cases eq:g with
      | false=>rfl
      | true=>exact absurd ((rV ok).mpr (hg.mp eq)) hn
     refine⟨_,rfl,false,g,rfl,?_⟩;rw[eg,Mp rfl];refine⟨_,rfl,aV ⟨_,rfl,_,rfl,lh,l9,_,_,rfl,rfl,rP (r12.mono s13),rP (r12b.mono s13),fun bb hbb=>⟨_,rfl,?_⟩⟩⟩;rw[show (if true=true then !bb else bb)=false by rw[hbb.mpr rfl];rfl];refine aV ⟨_,rfl,_,rfl,aV (rest _ _ ⟨D,s,pv,by rw[eg];rfl,K12.mono s13,eD,eb,ed,?_,fun ps e=>⟨pB ps e,fun z=>?_⟩,fun b o e _=>s13 _ _ e,fun l' e z=>?_⟩)⟩
     ·cases es2:s.plan with
      | none=>rw[es2]at PV;exact PV
      | some ps=>rw[es2]at PV;obtain⟨l',e1,e2⟩:=PV;exact⟨l',e1,(e2.mono s12').mono s13⟩
     ·obtain⟨as,h1,_⟩:=KP.pl ps e
      rw[z,hlh0]at h1;cases h1
     ·cases es2:s.plan with
      | none=>rw[es2]at PV;rw[show pv=.non from PV]at e;cases e
      | some ps =>
       rw[es2]at PV;obtain⟨l2,e1,as,h1,_⟩:=PV;rw[e1]at e;cases e;rw[z,hlh0]at h1;cases h1
   rintro σ H14 ⟨D',s',pv',rfl,K14,eD',eb',ed',PV',pB',kp14,npv⟩;have r14:=rowM kp14 r12;obtain⟨as14,h14,p14⟩:=id r14;refine⟨_,rfl,.inl ⟨rfl,_,aW.of h14⟩,two,fun t5 ht5=>?_⟩;have g15:=ag (o:=.tup [V.int 5,V.int 6]) ht5;have h15:=g15 _ _ h14;have K15:=K14.mono g15
   have p15:zM (upd H14 t5 (.tup [V.int 5,V.int 6])) s'.plan pv':=by
    cases es2:s'.plan with
    | none=>rw[es2]at PV';exact PV'
    | some ps=>rw[es2]at PV';obtain⟨l',e1,e2⟩:=PV';exact⟨l',e1,e2.mono g15⟩
   have kp15:∀ b o,G12 b=some o->b≠kp->upd H14 t5 (.tup [V.int 5,V.int 6]) b=some o:=fun b o e n=>g15 _ _ (kp14 b o e n);generalize upd H14 t5 (.tup [V.int 5,V.int 6])=H15 at g15 h15 K15 p15 kp15 ⊢;refine⟨lh,_,_,rfl,rfl,h15,by rw[Me,Mo p14];exact aw (by omega),?_⟩
   have nlh:∀ {b:Addr}{o:HO},H15 b=some o->b≠lh->upd H15 lh (.lst (as14.map V.ref++[V.ref t5])) b=some o:=fun e n=>by rw[af n];exact e
   have kln:kp≠lh:=fun z=>by have e:=K15.ob;rw[z,h15]at e;cases e
   have tln:∀ {b:Addr}{xs:List V},H15 b=some (.tup xs)->b≠lh:=fun e z=>by rw[z,h15]at e;cases e
   have rowN:∀ {l':Addr}{ps:List (Int×Int)},aY H15 l' ps->l'≠lh->aY (upd H15 lh (.lst (as14.map V.ref++[V.ref t5]))) l' ps:=fun {l' ps} h n=>by
    obtain⟨as,h1,h2⟩:=h;exact⟨as,nlh h1 n,Paired.mapP h2 fun b e z=>nlh z (tln z)⟩
   have K16:eC ck (upd H15 lh (.lst (as14.map V.ref++[V.ref t5]))) kp D' s':=⟨nlh K15.ob kln,fun ps e=>rowN (K15.pl ps e) (pB' ps e).2,K15.le⟩
   have p16:zM (upd H15 lh (.lst (as14.map V.ref++[V.ref t5]))) s'.plan pv':=by
    cases es2:s'.plan with
    | none=>rw[es2]at p15;exact p15
    | some ps=>rw[es2]at p15;obtain⟨l',e1,e2⟩:=p15;exact⟨l',e1,rowN e2 (npv l' e1)⟩
   have k16:∀ b o,H9 b=some o->b≠kp->upd H15 lh (.lst (as14.map V.ref++[V.ref t5])) b=some o:=fun b o e n=>nlh (kp15 _ _ (s12' _ _ (kk b o e n)) n) fun z=>by have:=kk b o e n;rw[z,hlh0]at this;cases this
   generalize upd H15 lh (.lst (as14.map V.ref++[V.ref t5]))=H16 at K16 p16 k16 ⊢;refine⟨_,rfl,_,rfl,kp,D',s',pv',rfl,K16,eb',ed',p16,fun H17 s17=>⟨_,rfl,aV ?_⟩⟩;refine⟨D',s',pv',_,_,_,_,rfl,K16.mono s17,eD',eb',ed',?_,fun ps e=>(pB' ps e).1,fun b o e n=>s17 _ _ (k16 b o e n)⟩
   cases es2:s'.plan with
   | none=>rw[es2]at p16;exact p16
   | some ps=>rw[es2]at p16;obtain⟨l',e1,e2⟩:=p16;exact⟨l',e1,e2.mono s17⟩
  ·rintro σ HH ⟨D,s,pv,v9,v10,v11,v12,rfl,KP,eD,eb,ed,PV,pB,kk⟩
   have SH:aM c.C HH x B (az es):=S9.kept (fp:=[kp]) (fun b o e n=>kk b o e (fun z=>n (by rw[z];exact Mv.mpr rfl))) (fun z=>xk (Mv.mp z)) (fun b hb z=>kB (by rw[<-Mv.mp z];exact hb)) (fun b xs e z=>ntup e (Mv.mp z));have hwH:=kk _ _ hw9 (nk hw9 (by intro _ _ _ z;cases z));have hmH:=kk _ _ hm9 (nk hm9 (by intro _ _ _ z;cases z))
   have hsH:bZ HH ls (az es).deeds:=by
    obtain⟨ys,y1,y2⟩:=hs9;refine⟨ys,kk _ _ y1 (nlst y1),Paired.mapP y2 fun b e z=>?_⟩;rw[pU]at z ⊢;exact kk _ _ z (ntup z)
   exact⟨_,rfl,_,rfl,_,rfl,_,rfl,x,w,m,ls,B,_,_,bc 62 cn,rfl,SH,wB,hwH,hmH,hsH,P.good,P.al,P.ci,P.mo,by omega,by omega,h64,smk,fun HX sX=>k _⟩
end
theorem all_mk2 {l:PySem.W.OpenLaw}{w:World}{K:PySem.W.Frag}{h:Heap}{mg:Str->Option Value}{fa:Addr}{C cW cA cM cS cT cN fN co cq ck:Addr}(X:K.In h)(G:h.Ns mainGlobals mg)(hfa:mg "law" = some (.ref fa))(aC:PySem.W.nsIn K mainGlobals "Hall" = some (some (.ref C)))(n_cW:PySem.W.nsIn K mainGlobals "WaltzError" = some (some (.ref cW)))(n_cA:PySem.W.nsIn K mainGlobals "AlreadyIn" = some (some (.ref cA)))(n_cM:PySem.W.nsIn K mainGlobals "Masked" = some (some (.ref cM)))(n_cS:PySem.W.nsIn K mainGlobals "Same" = some (some (.ref cS)))(n_cT:PySem.W.nsIn K mainGlobals "Met" = some (some (.ref cT)))(n_cN:PySem.W.nsIn K mainGlobals "NoGuest" = some (some (.ref cN)))(b_cN:PySem.W.findIn K (.ref cN) "__init__" = some (some (.ref fN)))(pg:PySem.W.plainGet K C Str.empty=true)(hd:PySem.W.hasDictIn K C=true)(po:PySem.W.plainOver K C=true)(sa:PySem.W.findIn K (.ref C) "__setattr__" = some (some (.builtin "object.__setattr__")))(C7:PySem.W.findIn K (.ref C) "worn" = some none)(vn:PySem.W.findIn K (.ref C) "holders" = some none)(vm:PySem.W.findIn K (.ref C) "circles" = some none)(AA:PySem.W.findIn K (.ref C) "deeds" = some none)(e_cA:fu K cA)(e_cM:fu K cM)(e_cS:fu K cS)(e_cT:fu K cT)(e_cN:oY K cN fN=true)(g1:PySem.W.findIn K (.ref cN) "__getattribute__" = some (some (.builtin "BaseException.__getattribute__")))(g2:PySem.W.findIn K (.ref cN) "__getattr__" = some none)(g3:PySem.W.findIn K (.ref cN) "__setattr__" = some (some (.builtin "object.__setattr__")))(g4:PySem.W.findIn K (.ref cN) "guest" = some none)(g5:PySem.W.hasDictIn K cN=true)(g6:PySem.W.mroIn K cN (.type "BaseException")=some true)(g7:PySem.W.mroIn K cN (.type "object")=some true)(g8:((PySem.W.clsIn K cN).any fun cd=>jC cd.mro)=true)(tN:PySem.W.typeIn K (.ref fN)=some (.type "function"))(wS:PySem.W.specialIn K (.ref cW) "__getattribute__" = some (some (.builtin "type.__getattribute__")))(wR:PySem.W.readsIn K cW (.type "type")=true)(wI:PySem.W.findCls K (.ref cW) (.type "type") "__init__" = some (.val (.builtin "ValueError.__init__")))(x_aa:PySem.W.exmOne K (.ref cA) (.ref cA)=some true)(x_ma:PySem.W.exmOne K (.ref cM) (.ref cA)=some false)(x_mm:PySem.W.exmOne K (.ref cM) (.ref cM)=some true)(x_sa:PySem.W.exmOne K (.ref cS) (.ref cA)=some false)(x_sm:PySem.W.exmOne K (.ref cS) (.ref cM)=some false)(x_ss:PySem.W.exmOne K (.ref cS) (.ref cS)=some true)(x_ta:PySem.W.exmOne K (.ref cT) (.ref cA)=some false)(x_tm:PySem.W.exmOne K (.ref cT) (.ref cM)=some false)(x_ts:PySem.W.exmOne K (.ref cT) (.ref cS)=some false)(x_tt:PySem.W.exmOne K (.ref cT) (.ref cT)=some true)(x_na:PySem.W.exmOne K (.ref cN) (.ref cA)=some false)(x_nm:PySem.W.exmOne K (.ref cN) (.ref cM)=some false)(x_ns:PySem.W.exmOne K (.ref cN) (.ref cS)=some false)(x_nt:PySem.W.exmOne K (.ref cN) (.ref cT)=some false)(x_nn:PySem.W.exmOne K (.ref cN) (.ref cN)=some true)(mk:PySem.W.makesIn K C=true)(kc:PySem.W.keepIn K (.ref C)=true)(n_co:PySem.W.nsIn K mainGlobals "NoWay" = some (some (.ref co)))(n_cq:PySem.W.nsIn K mainGlobals "NoPlan" = some (some (.ref cq)))(n_ck:PySem.W.nsIn K mainGlobals "Keeper" = some (some (.ref ck)))(kpg:PySem.W.plainGet K ck Str.empty=true)(khd:PySem.W.hasDictIn K ck=true)(kpo:PySem.W.plainOver K ck=true)(ksa:PySem.W.findIn K (.ref ck) "__setattr__" = some (some (.builtin "object.__setattr__")))(kna_hall:PySem.W.findIn K (.ref ck) "hall" = some none)(kna_plan:PySem.W.findIn K (.ref ck) "plan" = some none)(kna_danced:PySem.W.findIn K (.ref ck) "danced" = some none)(kna_breaking:PySem.W.findIn K (.ref ck) "breaking" = some none)(kmk:PySem.W.makesIn K ck=true)(kkc:PySem.W.keepIn K (.ref ck)=true)(e_co:fu K co)(x_oo:PySem.W.exmOne K (.ref co) (.ref co)=some true)(e_cq:fu K cq)(x_qq:PySem.W.exmOne K (.ref cq) (.ref cq)=some true)(x_sn:PySem.W.exmOne K (.ref cS) (.ref cN)=some false)(x_tn:PySem.W.exmOne K (.ref cT) (.ref cN)=some false)(x_st:PySem.W.exmOne K (.ref cS) (.ref cT)=some false)(oA:aT K "_law_cell_at" iS)(uL:aT K "_law_size" m6)(sH:aT K "_law_guest" kA)(xz:aT K "_law_new" pD)(sx:aT K "_law_crowd" ku)(uF:aT K "_law_deed" mU)(sD:aT K "_law_draws" ky)(jw:aT K "_law_draws_from" fP)(sy:aT K "_law_deeds" fO)(xy:aT K "_law_key" pC)(xx:aT K "_law_due" pA)(sv:aT K "_law_after" km)(oB:aT K "_law_evening" iT)(uH:aT K "_law_more" mX)(sL:aT K "_law_ready" kE)(sj:bY K C "__init__" "Hall.__init__" kj)(pH:bY K C "dress" "Hall.dress" jn)(si:bY K C "come" "Hall.come" ki)(lE:bY K cN "__init__" "NoGuest.__init__" gX)(pK:bY K C "wears" "Hall.wears" jp)(xv:bY K C "go" "Hall.go" pz)(uD:bY K C "met" "Hall.met" mR)(kK:bY K C "acquaint" "Hall.acquaint" gu)(kL:bY K C "exchange" "Hall.exchange" gv)(zI:aT K "_law_do" sd)(oC:aT K "_law_hall_of" iU)(ou:bY K ck "__init__" "Keeper.__init__" iP)(oj:bY K C "inside" "Hall.inside" iM)(kM:bY K C "partners" "Hall.partners" gy)(zH:aT K "is_new" rZ)(su:aT K "check_two" ii)(oi:bY K C "guests" "Hall.guests" iL)(zJ:aT K "strays" nY)(sQ:aT K "ring_with" kI)(uM:aT K "rings_of" m7)(zG:aT K "hub_of" jH)(sP:aT K "ring_home" ip)(kQ:aT K "rings_by_hubs" gA)(kN:aT K "hubless_rings" dY)(pO:aT K "loose_ring" js)(oE:aT K "stuck_rings" fQ)(lI:aT K "rings_by_two" cB)(lH:aT K "rings_by_one" eX)(uE:aT K "home_row" je)(xB:aT K "two_row" pE)(lG:aT K "_law_plan_for" gY)(sN:aT K "_law_whole" kH)(uI:aT K "_law_pair" mY)(xA:aT K "_law_row" kF)(lD:bY K ck "state" "Keeper.state" gW)(pL:bY K ck "due" "Keeper.due" jq)(gZ:bY K ck "pairs_left" "Keeper.pairs_left" dQ)(oy:bY K ck "left" "Keeper.left" iQ)(iz:bY K ck "broken_at" "Keeper.broken_at" eK)(sI:aT K "_law_keeps" kC)(pM:aT K "_law_shaken" gG)(kO:aT K "_law_four_calm" c8)(uJ:aT K "_law_quad" mZ)(kP:aT K "_law_with_quad" gz)(sG:aT K "_law_fresh" kz)(sO:aT K "_law_wrong" io)(sJ:aT K "_law_paper" kD)(uG:aT K "_law_home" mV)(uK:aT K "_law_says" m5)(sr:bY K C "twin" "Hall.twin" ig)(oz:aT K "hall_behind" iR)(pP:aT K "sends_home" jt)(lC:bY K ck "stand" "Keeper.stand" gU)(sM:aT K "_law_taken" kG)(pJ:bY K C "story" "Hall.story" jo)(om:bY K C "moment" "Hall.moment" iN)(pI:bY K C "pairs" "Hall.pairs" gF)(oq:bY K C "wearer" "Hall.wearer" iO)(pN:aT K "_law_stands" jr)(HJ:aT K "law" Cw)(Ip:PySem.W.nsIn K mainGlobals "len" = some none)(Dy:PySem.W.nsIn K mainGlobals "range" = some none)(qQ:PySem.W.nsIn K mainGlobals "isinstance" = some none)(Dz:PySem.W.nsIn K mainGlobals "tuple" = some none)(GB:PySem.W.nsIn K mainGlobals "list" = some none)(Io:PySem.W.nsIn K mainGlobals "int" = some none)(Gz:PySem.W.nsIn K mainGlobals "bool" = some none)(Ik:PySem.W.nsIn K mainGlobals "all" = some none)(Il:PySem.W.nsIn K mainGlobals "any" = some none)(Bm:PySem.W.nsIn K mainGlobals "sorted" = some none)(wC:PySem.W.nsIn K mainGlobals "reversed" = some none)(Iu:PySem.W.nsIn K mainGlobals "set" = some none)(Ir:PySem.W.nsIn K mainGlobals "min" = some none)(Iq:PySem.W.nsIn K mainGlobals "max" = some none)(GA:PySem.W.nsIn K mainGlobals "dict" = some none)(Ix:PySem.W.nsIn K mainGlobals "zip" = some none)(tF:PySem.W.nsIn K mainGlobals "enumerate" = some none)(Iw:PySem.W.nsIn K mainGlobals "sum" = some none)(Iv:PySem.W.nsIn K mainGlobals "str" = some none) :
  ∃ fd:FuncData,(∀ (s:Shared)(v:Value),BindsTo s fd ⟨[v],[]⟩ [("_law_script",v)])/\∀ base:Heap,K.In base->base.Ns mainGlobals mg->aZ l.prog w K mg base bV 10 fa fd ["_law_script"] (Bb K):=by
 obtain⟨c,rfl,rfl,rfl,rfl,rfl,rfl,rfl,rfl⟩:∃ c:HX,c.C=C/\c.cW=cW/\c.cA=cA/\c.cM=cM/\c.cS=cS/\c.cT=cT/\c.cN=cN/\c.fN=fN:=⟨⟨C,cW,cA,cM,cS,cT,cN,fN⟩,rfl,rfl,rfl,rfl,rfl,rfl,rfl,rfl⟩;have T:LO mg:=⟨MV X G Ip,MV X G Dy,MV X G qQ,MV X G Dz,MV X G GB,MV X G Io,MV X G Gz,MV X G Ik,MV X G Il,MV X G Bm,MV X G wC,MV X G Iu,MV X G Ir,MV X G Iq,MV X G GA,MV X G Ix,MV X G tF,MV X G Iw,MV X G Iv⟩;have U:HT K mg c:=⟨⟨pg,hd,po,sa⟩,C7,vn,vm,AA,Nv X G aC,e_cA,e_cM,e_cS,e_cT,Nv X G n_cA,Nv X G n_cM,Nv X G n_cS,Nv X G n_cT,Nv X G n_cN,Nv X G n_cW,e_cN,⟨g1,g2,g3,g4,g5,g6,g7,g8⟩,tN,wS,wR,wI⟩;have VM:HM K c:=⟨x_aa,x_ma,x_mm,x_sa,x_sm,x_ss,x_ta,x_tm,x_ts,x_tt,x_na,x_nm,x_ns,x_nt,x_nn⟩;have UO:JI K mg c co cq ck:=⟨⟨⟨kpg,khd,kpo,ksa⟩,kna_hall,kna_plan,kna_danced,kna_breaking,Nv X G n_ck⟩,e_co,Nv X G n_co,x_oo,e_cq,Nv X G n_cq,x_qq,x_sn,x_tn,x_st⟩;obtain⟨f_Hall_init,ym,a_Hall_init,i_Hall_init,G_Hall_init⟩:=sj;obtain⟨f_NoGuest_init,tI,a_NoGuest_init,i_NoGuest_init,G_NoGuest_init⟩:=lE;obtain⟨f_Keeper_init,uZ,a_Keeper_init,i_Keeper_init,G_Keeper_init⟩:=ou;obtain⟨f_law,IG,a_law,G_law⟩:=HJ;have e:=hfa.symm.trans (Nv X G a_law)
 cases e;have eN:=Mu (Mu (a_NoGuest_init.symm.trans b_cN))
 have eN2:f_NoGuest_init=c.fN:=by injection eN
 refine⟨IG,?_,fun base _ _=>?_⟩
 ·obtain⟨_,_,_,_,_,_,_,_,_,rfl,_,_⟩:=G_law.ex
  exact fun s v=>.of_eq rfl
 ·have bp:ar l.prog w K mg base "_law_cell_at" 1 ["_law_script","_law_k"] (rX K):=iW X G oA fun _ _ h=>vC T U VM UO h
  have fW:ar l.prog w K mg base "_law_size" 1 ["_law_cell"] wj:=iW X G uL fun _ _ h=>AM T U VM UO h;have bG:ar l.prog w K mg base "_law_guest" 2 ["_law_k","_law_cell"] kf:=iW X G sH fun _ _ h=>yS T U VM UO h fW;have dw:ar l.prog w K mg base "_law_new" 3 ["_law_k","_law_cell"] wg:=iW X G xz fun _ _ h=>Cc T U VM UO h bG;have k8:ar l.prog w K mg base "_law_crowd" 1 ["_law_cell"] uk:=iW X G sx fun _ _ h=>yO T U VM UO h;have oP:ar l.prog w K mg base "_law_deed" 3 ["_law_drawn","_law_many","_law_cell"] ul:=iW X G uF fun _ _ h=>AG T U VM UO h bG;have ff:ar l.prog w K mg base "_law_draws" 2 ["_law_cell","_law_many","_law_base"] qz:=iW X G sD fun _ _ h=>yQ T U VM UO h fW;have fV:ar l.prog w K mg base "_law_draws_from" 3 ["_law_script","_law_start","_law_most","_law_base"] (zq K):=iW X G jw fun _ _ h=>qh T U VM UO h ff;have k9:ar l.prog w K mg base "_law_deeds" 4 ["_law_script"] (qy K):=iW X G sy fun _ _ h=>yP T U VM UO h bp k8 bG oP fV;have cx:ar l.prog w K mg base "_law_key" 1 ["_law_one","_law_other"] we:=iW X G xy fun _ _ h=>Cb T U VM UO h;have qS:ar l.prog w K mg base "_law_due" 2 ["_law_worn","_law_met","_law_deed_here"] Dk:=iW X G xx fun _ _ h=>Ca T U VM UO h cx;have fc:ar l.prog w K mg base "_law_after" 2 ["_law_worn","_law_met","_law_deed_here"] qv:=iW X G sv fun _ _ h=>yN T U VM UO h cx;have jf:ar l.prog w K mg base "_law_evening" 6 ["_law_script"] (ka K):=iW X G oB fun _ _ h=>vD T U VM UO h k9 qS fc;have oR:ar l.prog w K mg base "_law_more" 3 ["_law_state","_law_deeds_here"] wf:=iW X G uH fun _ _ h=>AI T U VM UO h fc
  have lv:ar l.prog w K mg base "_law_ready" 7 ["_law_script"] (uv K):=iW X G sL fun _ _ h=>yV T U VM UO h bp dw jf oR;have MH:Kw l.prog w K mg base c:=⟨f_Hall_init,ym,⟨mk,a_Hall_init,i_Hall_init,kc⟩,yK T U VM UO G_Hall_init ,(G_Hall_init.binds (ps:=["self"]) (by intro _ _ _ _ _ _;(repeat refine EQ fun _=>?_);exact JF rfl))⟩;have dc:aA l.prog w K mg base bV c.C "dress" 1 ["self","guest","mask"] (qA c.C):=wK pH fun _ _ h=>wX T U VM UO h;have lM:aA l.prog w K mg base (ju l.prog w) c.C "come" 2 ["self","guest"] (zp c):=wK si fun _ _ h=>yJ T U VM UO h dc;have NG:lO l.prog w K mg base c:=⟨tI,eN2▸tU T U VM UO G_NoGuest_init ,(G_NoGuest_init.binds (ps:=["self","guest"]) (by intro _ _ _ _ _ _;(repeat refine EQ fun _=>?_);exact JF rfl))⟩;have a9:aA l.prog w K mg base (ju l.prog w) c.C "wears" 3 ["self","guest"] (jd c):=wK pK fun _ _ h=>w5 T U VM UO h NG;have qU:aA l.prog w K mg base (ju l.prog w) c.C "go" 4 ["self","guest"] (Hz c):=wK xv fun _ _ h=>B9 T U VM UO h a9;have fX:aA l.prog w K mg base bV c.C "met" 1 ["self","one","other"] (Bc c.C):=wK uD fun _ _ h=>AE T U VM UO h;have eQ:aA l.prog w K mg base bV c.C "acquaint" 1 ["self","one","other"] (Dj c.C):=wK kK fun _ _ h=>rE T U VM UO h;have cz:aA l.prog w K mg base (ju l.prog w) c.C "exchange" 4 ["self","one","other"] (v8 c):=wK kL fun _ _ h=>rF T U VM UO h a9 fX dc eQ;have uC:eR l.prog w K mg base "_law_do" 5 ["_law_hall","_law_deed_here"] (Hy c):=KG X G zI fun _ _ h=>D9 T U VM UO h lM qU cz;have jh:ar l.prog w K mg base "_law_hall_of" 7 ["_law_story"] (nL c):=iW X G oC fun _ _ h=>vE T U VM UO h MH uC
  have MK:KN l.prog w K mg base ck:=⟨f_Keeper_init,uZ,⟨kmk,a_Keeper_init,i_Keeper_init,kkc⟩,vz T U VM UO G_Keeper_init ,(G_Keeper_init.binds (ps:=["self","hall"]) (by intro _ _ _ _ _ _;(repeat refine EQ fun _=>?_);exact JF rfl))⟩;have dz:aA l.prog w K mg base bV c.C "inside" 1 ["self","guest"] (mL c.C):=wK oj fun _ _ h=>vt T U VM UO h;have bJ:aA l.prog w K mg base bV c.C "partners" 1 ["self","guest"] (gr c.C):=wK kM fun _ _ h=>rG T U VM UO h;have Cis_new:eR l.prog w K mg base "is_new" 4 ["hall","guest"] (um c):=KG X G zH fun _ _ h=>D8 T U VM UO h dz NG bJ;have Ccheck_two:ar l.prog w K mg base "check_two" 5 ["hall","one","other"] (iK c):=iW X G su fun _ _ h=>yM T U VM UO h Cis_new;have dy:aA l.prog w K mg base bV c.C "guests" 1 ["self"] (mJ c.C):=wK oi fun _ _ h=>vq T U VM UO h;have Cstrays:ar l.prog w K mg base "strays" 4 ["hall"] (mQ c):=iW X G zJ fun _ _ h=>Ea T U VM UO h dy a9;have Cring_with:eR l.prog w K mg base "ring_with" 5 ["hall","guest"] (qH c):=KG X G sQ fun _ _ h=>y0 T U VM UO h a9
  have Crings_of:ar l.prog w K mg base "rings_of" 6 ["hall"] (kh c):=iW X G uM fun _ _ h=>AN T U VM UO h Cstrays Cring_with
  have Chub_of:ar l.prog w K mg base "hub_of" 2 ["hall","ring"] (nO c):=iW X G zG fun _ _ h=>D7 T U VM UO h bJ;have Cring_home:ar l.prog w K mg base "ring_home" 2 ["ring"] kg:=iW X G sP fun _ _ h=>yZ T U VM UO h;have Crings_by_hubs:ar l.prog w K mg base "rings_by_hubs" 6 ["hall","rings"] (nK c):=iW X G kQ fun _ _ h=>rM T U VM UO h Chub_of Cring_with Cring_home;have Chubless_rings:ar l.prog w K mg base "hubless_rings" 7 ["hall"] (rY c):=iW X G kN fun _ _ h=>rH T U VM UO h Crings_of Chub_of;have Cloose_ring:ar l.prog w K mg base "loose_ring" 2 ["hall","ring"] (qF c):=iW X G pO fun _ _ h=>xb T U VM UO h fX;have Cstuck_rings:ar l.prog w K mg base "stuck_rings" 7 ["hall"] (wm c):=iW X G oE fun _ _ h=>vF T U VM UO h Crings_of Cloose_ring;have Crings_by_two:ar l.prog w K mg base "rings_by_two" 1 ["rings","one","other"] qx:=iW X G lI fun _ _ h=>tX T U VM UO h;have Crings_by_one:ar l.prog w K mg base "rings_by_one" 3 ["hall","rings","one"] (qw c):=iW X G lH fun _ _ h=>tW T U VM UO h Cloose_ring;have Chome_row:ar l.prog w K mg base "home_row" 8 ["hall","one","other"] (nN c):=iW X G uE fun _ _ h=>AF T U VM UO h Ccheck_two Crings_of Chub_of Crings_by_hubs Chubless_rings Cstuck_rings Crings_by_two Crings_by_one;have Ctwo_row:ar l.prog w K mg base "two_row" 7 ["hall","one","other"] (qK c):=iW X G xB fun _ _ h=>Ce T U VM UO h Ccheck_two Crings_of Crings_by_two;have iy:ar l.prog w K mg base "_law_plan_for" 9 ["_law_hall","_law_kind","_law_one","_law_other"] (nV c):=iW X G lG fun _ _ h=>tV T U VM UO h Chome_row Ctwo_row
  have iZ:ar l.prog w K mg base "_law_whole" 1 ["_law_found"] uz:=iW X G sN fun _ _ h=>yX T U VM UO h;have oS:ar l.prog w K mg base "_law_pair" 2 ["_law_found"] ut:=iW X G uI fun _ _ h=>AJ T U VM UO h iZ;have qT:ar l.prog w K mg base "_law_row" 3 ["_law_found"] zy:=iW X G xA fun _ _ h=>Cd T U VM UO h oS;have bQ:aA l.prog w K mg base bV ck "state" 1 ["self"] (nU ck):=wK lD fun _ _ h=>tT T U VM UO h;have jO:aA l.prog w K mg base bV ck "due" 2 ["self"] (zu ck):=wK pL fun _ _ h=>w8 T U VM UO h bQ;have eE:aA l.prog w K mg base bV ck "pairs_left" 2 ["self"] (uq ck):=wK gZ fun _ _ h=>mi T U VM UO h bQ;have jk:aA l.prog w K mg base bV ck "left" 3 ["self"] (uo ck):=wK oy fun _ _ h=>vA T U VM UO h eE;have eY:aA l.prog w K mg base bV ck "broken_at" 1 ["self"] (zr ck):=wK iz fun _ _ h=>n9 T U VM UO h;have iY:ar l.prog w K mg base "_law_keeps" 4 ["_law_keeper","_law_plan"] (ur ck):=iW X G sI fun _ _ h=>yT T U VM UO h bQ jO jk eY;have jK:ar l.prog w K mg base "_law_shaken" 3 ["_law_row_here","_law_cell","_law_names"] qI:=iW X G pM fun _ _ h=>w9 T U VM UO h bG;have gO:ar l.prog w K mg base "_law_four_calm" 2 ["_law_worn","_law_met","_law_row_here"] uj:=iW X G kO fun _ _ h=>rJ T U VM UO h cx;have oU:ar l.prog w K mg base "_law_quad" 1 ["_law_a","_law_b","_law_c","_law_d"] zw:=iW X G uJ fun _ _ h=>AK T U VM UO h;have gP:ar l.prog w K mg base "_law_with_quad" 3 ["_law_worn","_law_met","_law_row_here","_law_place"] uy:=iW X G kP fun _ _ h=>rL T U VM UO h gO oU;have lj:ar l.prog w K mg base "_law_fresh" 2 ["_law_row_here","_law_worn","_law_met"] qB:=iW X G sG fun _ _ h=>yR T U VM UO h cx
  have ly:ar l.prog w K mg base "_law_wrong" 1 ["_law_worn"] uB:=iW X G sO fun _ _ h=>yY T U VM UO h;have lu:ar l.prog w K mg base "_law_paper" 1 ["_law_row_here","_law_worn"] uu:=iW X G sJ fun _ _ h=>yU T U VM UO h;have oQ:ar l.prog w K mg base "_law_home" 3 ["_law_row_here","_law_worn","_law_met"] qE:=iW X G uG fun _ _ h=>AH T U VM UO h lj ly lu;have jJ:ar l.prog w K mg base "_law_says" 1 ["_law_found","_law_due_here"] zz:=iW X G uK fun _ _ h=>AL T U VM UO h;have lN:aA l.prog w K mg base bV c.C "twin" 3 ["self"] (zA c.C):=wK sr fun _ _ h=>yL T U VM UO h MH;have Chall_behind:eR l.prog w K mg base "hall_behind" 5 ["hall","row"] (zn c):=KG X G oz fun _ _ h=>vB T U VM UO h lN cz;have Csends_home:ar l.prog w K mg base "sends_home" 6 ["hall","row"] (mO c):=iW X G pP fun _ _ h=>xc T U VM UO h Chall_behind Cstrays;have iA:aA l.prog w K mg base (ju l.prog w) ck "stand" 7 ["self","row"] (qD c ck co):=wK lC fun _ _ h=>tS T U VM UO h Csends_home;have lx:ar l.prog w K mg base "_law_taken" 8 ["_law_keeper","_law_row_here"] (ux c ck):=iW X G sM fun _ _ h=>yW T U VM UO h iA;have jN:aA l.prog w K mg base bV c.C "story" 1 ["self"] (uw c.C):=wK pJ fun _ _ h=>wZ T U VM UO h;have ji:aA l.prog w K mg base bV c.C "moment" 1 ["self"] (qG c.C):=wK om fun _ _ h=>vw T U VM UO h;have jM:aA l.prog w K mg base bV c.C "pairs" 2 ["self"] (qC c.C):=wK pI fun _ _ h=>wY T U VM UO h bJ;have jj:aA l.prog w K mg base (ju l.prog w) c.C "wearer" 3 ["self","mask"] (qL c):=wK oq fun _ _ h=>vy T U VM UO h NG;have jL:ar l.prog w K mg base "_law_stands" 4 ["_law_hall","_law_worn","_law_met","_law_story"] (qJ c):=iW X G pN fun _ _ h=>xa T U VM UO h dy jN ji jM dz a9 jj
  exact IU T U VM UO G_law lv jh bp MK iy dw qT iY ff jK gP oQ jJ Csends_home lx jL
theorem walk {l:PySem.W.OpenLaw}{q:Program}{loose:List Str}{XP:(Str->Option Value)->Heap->Prop}{YP:World->Heap->Prop}{d:DefRec}{K:Params->PySem.W.Frag}(hn:l.most=some 63)(hdf:d.params.defaults=[])
  (hY:∀ (w:World)(h:Heap),YP w h->(K w.params).In h)
  (F:∀ (w:World)(mg:Str->Option Value)(fa:Addr)(h:Heap),(K w.params).In h->h.Ns mainGlobals mg->mg d.name=some (.ref fa) ->
   ∃ fd:FuncData,(∀ (s:Shared)(u:Value),BindsTo s fd ⟨[u],[]⟩ [("_law_script",u)])/\∀ base:Heap,(K w.params).In base->base.Ns mainGlobals mg->aZ l.prog w (K w.params) mg base bV 10 fa fd ["_law_script"] (Bb (K w.params))) :
  PySem.W.WalkO q loose XP YP l.row.toRowW d [] (fun f vs=>PySem.call f vs) :=
 L2.walk_of (n:=63) (k:=10) (x:="_law_script") (CX:=fun _=>bV) (sp:=fun w=>Bb (K w.params)) hn (by decide) hdf ⟨rfl,by decide,by decide⟩ hY F (fun _ _ a ns hl _ hS=>⟨a,ns,rfl,hS,hl,fun _=>rfl⟩) fun _ _ _ _ _ z=>z
end Wk35
namespace PySem.W.Fast
def tw14101093132003657412:=0
def tw13182603944396438223:=0
def tw669632001352816312:=0
def tw10272549576519100592:=0
def tw15149367118534078751:=0
def tw2298887023011828740:=0
def tw2058135131388050077:=0
def tw750998156023185598:=0
def tw10963984069858136268:=0
def tw14446445751885496094:=0
def tw8353482365130931364:=0
def tw785324127413854494:=0
def tw15157387390809972667:=0
def tw2630973769775660802:=0
def tw11776768172945592416:=0
def tw14936868038113575633:=0
def tw3310005409246538537:=0
def tw9135590020812164644:=0
def tw14089609729835804177:=0
def tw7721855382974848888:=0
def tw17122877912358990958:=0
def tw565437107084973136:=0
def tw6996557871179046352:=0
def tw7650555249610491217:=0
def tw6766215284428795253:=0
def tw7587569699472599214:=0
def tw17331295719550856461:=0
def tw9789516189255742697:=0
def tw12284418627736685864:=0
def tw1380895911704588486:=0
def tw12703819267305913755:=0
def tw3748037751913310953:=0
def tw8159859635181686982:=0
def tw2310562983725068841:=0
def tw14329208191091460461:=0
def tw8554510501124603213:=0
def tw3713262155552501388:=0
def tw1397092502096638756:=0
def tw15380227263889514104:=0
def tw15918457567724228905:=0
def tw1973269862748733113:=0
def tw3525829430209405975:=0
def tw15231450736293744508:=0
def tw6695291676630578598:=0
def tw3576574909661186100:=0
def tw2378448305700449290:=0
def tw10882896718120126925:=0
def tw13722634904962128815:=0
def tw17875554563102974290:=0
def tw10708031589734508883:=0
def tw5740951459483359426:=0
def tw15787938226451123077:=0
def tw9707733406449311052:=0
def tw3884458200766342590:=0
def tw8510284997619480199:=0
def tw5259097251865886175:=0
def tw16115847674467939601:=0
def tw7817513739671379071:=0
def tw4177354645250758385:=0
def tw597207156178225479:=0
def tw11675762447565741260:=0
def tw15237752312818548502:=0
def tw12396462525042459917:=0
def tw8369694181836483416:=0
def tw2719009441289400754:=0
def tw11182117140468534205:=0
def tw10287432444687652400:=0
def tw5371642249682506438:=0
def tw7836820456704766550:=0
def tw16160296894257372140:=0
def tw13977002890377135967:=0
def tw1995933822843601063:=0
def tw7051515105944241968:=0
def tw8800853617932608568:=0
def tw2502902913607881021:=0
def tw7764987653978854479:=0
def tw13574357444986962569:=0
def tw10242502904324548642:=0
def tw7886998716059324324:=0
def tw15212481218242447969:=0
def tw5414900647398285532:=0
def tw2480082915675173538:=0
def tw16479539064560162409:=0
def tw458357767215090979:=0
def tw11137106395034122892:=0
def tw3950186962200469680:=0
def tw3516380294867693086:=0
def tw914088674603679060:=0
def tw1533176383477353771:=0
def tw17426810073584406445:=0
def tw4312905929055560488:=0
def tw17662948955199919658:=0
def tw17169102915866981769:=0
def tw15250091953369922257:=0
def tw3208295803537428783:=0
def tw9444242154731742454:=0
def tw10834653809198113042:=0
def tw10477852037169708178:=0
def tw6637028855732349108:=0
def tw10734369834698412955:=0
def tw15326685165264034239:=0
def tw7265629705399486611:=0
def tw17713797685893507423:=0
def tw9308685796516766216:=0
def tw10463984789428638908:=0
def tw667463502140146253:=0
def tw6178363671573568075:=0
def tw14163577619720048381:=0
def tw1910513805184219214:=0
def tw12514411452995513467:=0
def tw7206629194992655071:=0
def tw10823946489856161694:=0
def tw13566784737333064529:=0
def tw8179107211334621106:=0
def tw10846457790882789722:=0
def tw17244972521365622851:=0
def tw12413574542477788781:=0
def tw13786446108142025548:=0
def tw17163217649417863926:=0
def tw17164402429858152186:=0
def tw14114655529401660084:=0
def tw13617982238970350674:=0
def tw1959106710785759994:=0
def tw1998317944425848269:=0
def tw7004019140447826585:=0
def tw6721070850510896296:=0
def tw534019598731450189:=0
def tw4533582209279927467:=0
def tw15020328560663933447:=0
def tw13342585579789054780:=0
def tw15645880364917478429:=0
def tw336969439592531784:=0
def tw5377822092585144805:=0
def tw13149790913417091127:=0
def tw8334706522673997192:=0
def tw9215952795796611197:=0
def tw7212158998748725839:=0
def tw6000100894625996860:=0
def tw3746324815170735573:=0
def tw13326824753268147211:=0
def tw1373611333376506549:=0
def tw11276603277407787011:=0
def tw13830353911552822664:=0
def tw6286240111254441113:=0
def tw8833245642265046219:=0
def tw14616635226913805478:=0
def tw8497888270101668234:=0
def tw9534366798408966998:=0
def tw16643271613090671218:=0
def tw16710404444502544044:=0
def tw14339956393592400115:=0
def tw5010210112277630849:=0
def tw15921512355700821000:=0
def tw16258153259495450516:=0
def tw2027055586178219211:=0
def tw1373193677444612055:=0
def tw2550546398074288978:=0
def tw14473925829871779446:=0
def tw6122154945836769641:=0
def tw2576861372622279240:=0
def tw4212053744424122490:=0
def tw11545471592259995254:=0
def tw16210141795851792951:=0
def tw5059375871336175622:=0
def tw804598900626012831:=0
def tw7253691183869975109:=0
def tw10233634603391287016:=0
def tw5109496373125099832:=0
def tw7543156023542214463:=0
def tw8438254985631409835:=0
def tw16283471199580957581:=0
def tw17077649645035187249:=0
def tw10568329130982760428:=0
def tw10994045083252553613:=0
def tw11866576095461051739:=0
def tw3270708649376898039:=0
def tw6877148795491181859:=0
def tw18299204211680066689:=0
def tw10794254606878405743:=0
def tw12632084132741251703:=0
def tw5801333540973500999:=0
def tw1942746393003353920:=0
def tw12386978920967835175:=0
def tw3395908426640830978:=0
def tw3175369809276895881:=0
def tw14428780794332527026:=0
def tw16702882264308251511:=0
def tw1375085816094137540:=0
def tw17019303054520672916:=0
def tw1311531146516149044:=0
def tw2458858373779510255:=0
def tw7201345561135332350:=0
def tw14931586816281520077:=0
def tw14148474294575728347:=0
def tw4118860534862949168:=0
def tw4323153954523229397:=0
def tw6805043735800982357:=0
def tw11059701050776767423:=0
def tw2482055317028519524:=0
def tw452749040054517784:=0
def tw17938810291691998795:=0
def tw4728156810776184733:=0
def tw2416434435197068987:=0
def tw426185562764111143:=0
def tw11791621944184317166:=0
def tw12654667922808357197:=0
def tw13913579460852776011:=0
def tw11088400967766441292:=0
def tw4773164188213028837:=0
def tw9801088519232813330:=0
def tw2638060479858543585:=0
def tw8425764598866543637:=0
def tw4620372338082846988:=0
def tw12284818414976193269:=0
def tw12510901520427897852:=0
def tw7415651340836612954:=0
def tw4117339827199982232:=0
def tw6740130907340998667:=0
def tw2664741416070996510:=0
def tw756383760033714510:=0
def tw17165234052382454701:=0
def tw12219052043021521204:=0
def tw17643000783422056127:=0
def tw12979895986955770738:=0
def tw16517117601063458891:=0
def tw13691876450916898209:=0
def tw4213446536896969335:=0
def tw11361717272741868107:=0
def tw3307577662304999165:=0
def tw5114087042587893329:=0
def tw18392058047860381067:=0
def tw11266711516663268815:=0
def tw4410823434689246808:=0
def tw1657191654307135133:=0
def tw9776726897287660196:=0
def tw12126925746571514333:=0
def tw3646071709271304877:=0
def tw18345110225187392376:=0
def tw7319662937039894986:=0
def tw5445321326880811496:=0
def tw4093527487234366701:=0
def tw11064415897319956233:=0
def tw18038403684297979993:=0
def tw3758657533601837466:=0
def tw14703079629188752828:=0
def tw11580550806452681244:=0
def tw18021554418913878237:=0
def tw2097801601185935125:=0
def tw5984582450945761040:=0
def tw7419209206841576805:=0
def tw525111335683099235:=0
def tw4858247139037489515:=0
def tw16543804077159846542:=0
def tw9142989943900884217:=0
def tw2913247195020069363:=0
def tw6701544378146321446:=0
def tw8183722957942022420:=0
def tw5039071988838098655:=0
def tw7455691055551319182:=0
def tw16768292030400842192:=0
def tw5362824310844386771:=0
def tw16510581399869700301:=0
def tw11716799393030313890:=0
def tw2531376630941736973:=0
def tw273448788262502086:=0
def tw14728495628898228986:=0
def tw6497964048085527879:=0
def tw12220940409913686764:=0
def tw1173023184508540883:=0
def tw16394279415589370732:=0
def tw8675353520393073927:=0
def tw13292972071202505062:=0
def tw5077803455061895948:=0
def tw4823044649956588073:=0
def tw12537895819547795866:=0
def tw674334208473792260:=0
def tw4551030986191315833:=0
def tw4957465355124694622:=0
def tw8846205463863718239:=0
def tw661480189335931053:=0
def tw9497398148761251580:=0
def tw1285367831064048277:=0
def tw11613108822288749380:=0
def tw8674693549781559798:=0
def tw5096205439690843876:=0
def tw7912202804868796990:=0
def tw17168040170268165676:=0
def tw5689486308578425368:=0
def tw372246801394067443:=0
def tw11389538276398663450:=0
def tw13823849847527293839:=0
def tw7507596823255307146:=0
def tw9663595531145119454:=0
def tw10361735796056076293:=0
def tw12896839232659515905:=0
def tw578405052769157100:=0
def tw17248725372855895829:=0
def tw9131306038283755854:=0
def tw8668710808281705465:=0
def tw13562422379226515852:=0
def tw140244325753644442:=0
def tw13923434223021229235:=0
def tw13417231477279694634:=0
def tw687246924278136627:=0
def tw2187432513183980462:=0
def tw14875799295879617953:=0
def tw2752184859824079540:=0
def tw2099986157231295333:=0
def tw17556470243076369287:=0
def tw12276207312200334253:=0
def tw913945166016725279:=0
def tw15952219655047582665:=0
def tw10685941940326416364:=0
def tw16003173013036445911:=0
def tw15008189621029971426:=0
def tw8146560435412433505:=0
def tw10923392509144937470:=0
def tw14254327055664123337:=0
def tw4804724031664556542:=0
def tw6477473615888968338:=0
def tw8573972069318727115:=0
def tw9623663628493541669:=0
def tw16480528420058573651:=0
def tw14236630322424377737:=0
def tw1873723487790498298:=0
def tw7690628800848727331:=0
def tw9176339901429508786:=0
def tw12183948817870825554:=0
def tw15393523012314692693:=0
def tw10279919069844587065:=0
def tw17474583194274179247:=0
def tw18250556840255268154:=0
def tw4803549413383406491:=0
def tw11651753218305490374:=0
def tw3203396583990483305:=0
def tw490942715292348982:=0
def tw7121252537973804215:=0
def tw5163906761725322792:=0
def tw6524268807609186337:=0
def tw15496091378506977412:=0
def tw7043841098720585322:=0
def tw5954881354874012931:=0
def tw15399322653568257827:=0
def tw18371583089302123224:=0
def tw9097679973325499601:=0
def tw12614451721477153738:=0
def tw5167127127114290904:=0
def tw18421137359849486180:=0
def tw12078919651851897707:=0
def tw99870357869373592:=0
def tw14682579545511542848:=0
def tw11434200422008449948:=0
def tw4760057892237150563:=0
def tw4819710875898037976:=0
def tw5263707890521584696:=0
def tw10662761208130316407:=0
def tw12451932391892936515:=0
def tw17851074915212820447:=0
def tw11068589108907709883:=0
def tw2625633325622682769:=0
def tw15350943148540256063:=0
def tw1078225199008496821:=0
def tw2431954985616572823:=0
def tw5579284041700247059:=0
def tw2049623098754669011:=0
def tw8528403535220074790:=0
def tw11654712771396943690:=0
def tw4747648193170267506:=0
def tw821006764595399199:=0
def tw8033205801175644131:=0
def tw18159030095210864490:=0
def tw16768017802050580702:=0
def tw4778546175850574280:=0
def tw12212332896009667262:=0
def tw5431735245497504346:=0
def tw6970085788064345721:=0
def tw10562097344719872851:=0
def tw6345309346548751803:=0
def tw1330747794446082143:=0
def tw14901824091512020173:=0
def tw9035831511616869791:=0
def tw5883557389511458107:=0
def tw13448973005426591889:=0
def tw10406973698136811218:=0
def tw4892548378736037461:=0
def tw605490886253009311:=0
def tw10212062252722982433:=0
def tw9550168842193573925:=0
def tw6513481934705240730:=0
def tw6556879154414147839:=0
def tw4644611286082457300:=0
def tw5105619817176762618:=0
def tw18407994980180102783:=0
def tw2890725533455852373:=0
def tw18323288164986762679:=0
def tw13681167656391075172:=0
def tw2169403791232059344:=0
end PySem.W.Fast
open PySem PySem.W PyProof.Rows
set_option maxRecDepth 100000 in
set_option maxHeartbeats 0 in
theorem PySem.Challenge.cw_lastwaltz_k35_a_plan_is_taken_holds : PySem.Challenge.rw_lastwaltz_k35_a_plan_is_taken.Holds := by
 w_on;o_law;k_head;(case hw=>w_witness2)
 k_fill
 refine Wk35.walk (l:=PySem.Challenge.rw_lastwaltz_k35_a_plan_is_taken) rfl rfl (fun w h Y=>PySem.W.kIn_of Y) ?F
 case F =>
  intro w mg fa h KX G hmg;refine' Wk35.all_mk2 KX G hmg ?aC ?n_cW ?n_cA ?n_cM ?n_cS ?n_cT ?n_cN ?b_cN ?pg ?hd ?po ?sa ?C7 ?vn ?vm ?AA ?e_cA ?e_cM ?e_cS ?e_cT ?e_cN ?g1 ?g2 ?g3 ?g4 ?g5 ?g6 ?g7 ?g8 ?tN ?wS ?wR ?wI ?x_aa ?x_ma ?x_mm ?x_sa ?x_sm ?x_ss ?x_ta ?x_tm ?x_ts ?x_tt ?x_na ?x_nm ?x_ns ?x_nt ?x_nn ?mk ?kc ?n_co ?n_cq ?n_ck ?kpg ?khd ?kpo ?ksa ?kna_hall ?kna_plan ?kna_danced ?kna_breaking ?kmk ?kkc ?e_co ?x_oo ?e_cq ?x_qq ?x_sn ?x_tn ?x_st ?oA ?uL ?sH ?xz ?sx ?uF ?sD ?jw ?sy ?xy ?xx ?sv ?oB ?uH ?sL ?sj ?pH ?si ?lE ?pK ?xv ?uD ?kK ?kL ?zI ?oC ?ou ?oj ?kM ?zH ?su ?oi ?zJ ?sQ ?uM ?zG ?sP ?kQ ?kN ?pO ?oE ?lI ?lH ?uE ?xB ?lG ?sN ?uI ?xA ?lD ?pL ?gZ ?oy ?iz ?sI ?pM ?kO ?uJ ?kP ?sG ?sO ?sJ ?uG ?uK ?sr ?oz ?pP ?lC ?sM ?pJ ?om ?pI ?oq ?pN ?HJ ?Ip ?Dy ?qQ ?Dz ?GB ?Io ?Gz ?Ik ?Il ?Bm ?wC ?Iu ?Ir ?Iq ?GA ?Ix ?tF ?Iw ?Iv
  (case aC=>k_is)
  (case n_cW=>k_is)
  (case n_cA=>k_is)
  (case n_cM=>k_is)
  (case n_cS=>k_is)
  (case n_cT=>k_is)
  (case n_cN=>k_is)
  (case b_cN=>k_is)
  (case e_cA=>kernel_rfl)
  (case e_cM=>kernel_rfl)
  (case e_cS=>kernel_rfl)
  (case e_cT=>kernel_rfl)
  (case e_cN=>kernel_rfl)
  (case g8=>kernel_rfl)
  (case x_aa=>kernel_rfl)
  (case x_ma=>kernel_rfl)
  (case x_mm=>kernel_rfl)
  (case x_sa=>kernel_rfl)
  (case x_sm=>kernel_rfl)
  (case x_ss=>kernel_rfl)
  (case x_ta=>kernel_rfl)
  (case x_tm=>kernel_rfl)
  (case x_ts=>kernel_rfl)
  (case x_tt=>kernel_rfl)
  (case x_na=>kernel_rfl)
  (case x_nm=>kernel_rfl)
  (case x_ns=>kernel_rfl)
  (case x_nt=>kernel_rfl)
  (case x_nn=>kernel_rfl)
  (case n_co=>k_is)
  (case n_cq=>k_is)
  (case n_ck=>k_is)
  (case e_co=>kernel_rfl)
  (case x_oo=>kernel_rfl)
  (case e_cq=>kernel_rfl)
  (case x_qq=>kernel_rfl)
  (case x_sn=>kernel_rfl)
  (case x_tn=>kernel_rfl)
  (case x_st=>kernel_rfl)
  all_goals first | (refine' Wz.fact_mk ?a ?l ?c ?k;(case a=>k_is);(case l=>k_is);(case c=>k_is);(case k=>k_is)) | (refine' Wz.mfact_mk ?a ?i ?l ?c ?k;(case a=>k_is);(case i=>k_is);(case l=>k_is);(case c=>k_is);(case k=>k_is)) | k_is
