import PyProof.Rows.All
import Wide.All
import OpenK.AllK
import Wide.FinOn
import Lean
import PyProof.EqAt
import PyProof.EqKinds
import PyProof.TupleCall
import PyProof.NeData
import PyProof.DictItems
import PyProof.JoinWalk
import PyProof.CallStr
import OpenK.KOwn
import KE.KTryMore
import PyProof.EnumMake
import KE.KLam
import KE.KNestM
import KE.KEqDict
import PySem.Challenge.RW_lastwaltz_k34_whole_danced_or_not_at_all
set_option Elab.async false
set_option linter.all false
set_option maxRecDepth 100000
set_option maxHeartbeats 4000000
theorem Io:type_of% @PySem.wpAny_bind:=@PySem.wpAny_bind
theorem Ip:type_of% @if_neg:=@if_neg
theorem Iq:type_of% @if_pos:=@if_pos
theorem Ir:type_of% @List.length_map:=@List.length_map
theorem Iu:type_of% @PySem.wpAny_pure:=@PySem.wpAny_pure
theorem Iv:type_of% @Nat.le_refl:=@Nat.le_refl
theorem Iw:type_of% @Bool.false_ne_true:=@Bool.false_ne_true
theorem Ix:type_of% @PySem.Paired.length:=@PySem.Paired.length
theorem Iy:type_of% @Option.some.inj:=@Option.some.inj
theorem Iz:type_of% @List.mem_cons_of_mem:=@List.mem_cons_of_mem
theorem IA:type_of% @PySem.Heap.lt_size:=@PySem.Heap.lt_size
theorem IB:type_of% @List.mem_singleton:=@List.mem_singleton
theorem IC:type_of% @Nat.ne_of_lt:=@Nat.ne_of_lt
theorem ID:type_of% @List.length_append:=@List.length_append
theorem IE:type_of% @List.mem_cons:=@List.mem_cons
theorem IF:type_of% @List.mem_append_right:=@List.mem_append_right
theorem IG:type_of% @decide_eq_true:=@decide_eq_true
theorem II:type_of% @PyProof.Rows.wpS_pure:=@PyProof.Rows.wpS_pure
theorem IJ:type_of% @List.mem_cons_self:=@List.mem_cons_self
theorem IK:type_of% @PyProof.Rows.wpS_bind:=@PyProof.Rows.wpS_bind
theorem IM:type_of% @decide_eq_false:=@decide_eq_false
theorem IN:type_of% @Ne.symm:=@Ne.symm
theorem IP:type_of% @List.mem_append:=@List.mem_append
theorem IQ:type_of% @Nat.lt_of_lt_of_le:=@Nat.lt_of_lt_of_le
theorem IR:type_of% @List.size_toArray:=@List.size_toArray
theorem IS:type_of% @PySem.wpAny_mono:=@PySem.wpAny_mono
theorem IT:type_of% @List.map_cons:=@List.map_cons
theorem IU:type_of% @Array.length_toList:=@Array.length_toList
theorem IV:type_of% @List.mem_of_getElem?:=@List.mem_of_getElem?
theorem IW:type_of% @PySem.W.mg_none_of:=@PySem.W.mg_none_of
theorem IX:type_of% @Nat.zero_le:=@Nat.zero_le
theorem IY:type_of% @List.length_singleton:=@List.length_singleton
theorem IZ:type_of% @List.take_add_one:=@List.take_add_one
theorem I0:type_of% @List.nodup_cons:=@List.nodup_cons
theorem Ja:type_of% @List.map_append:=@List.map_append
theorem Jb:type_of% @Nat.le_trans:=@Nat.le_trans
theorem Jc:type_of% @List.length_cons:=@List.length_cons
theorem Jd:type_of% @Option.toList_some:=@Option.toList_some
theorem Je:type_of% @List.mem_map:=@List.mem_map
theorem Jf:type_of% @PySem.F.slot_list_append:=@PySem.F.slot_list_append
theorem Jg:type_of% @PySem.F.type_list_append:=@PySem.F.type_list_append
theorem Ji:type_of% @List.take_length:=@List.take_length
theorem Jj:type_of% @PySem.F.plainAttrs_list:=@PySem.F.plainAttrs_list
theorem Jk:type_of% @congrArg:=@congrArg
theorem Jm:type_of% @Option.isSome_iff_exists:=@Option.isSome_iff_exists
theorem Jn:type_of% @List.length_take:=@List.length_take
theorem Jo:type_of% @Array.toList_append:=@Array.toList_append
theorem Jp:type_of% @List.lookup_cons:=@List.lookup_cons
theorem Jq:type_of% @PySem.wpAny_newObj_type:=@PySem.wpAny_newObj_type
theorem Jr:type_of% @List.pairwise_append:=@List.pairwise_append
theorem Js:type_of% @Int.emod_lt_of_pos:=@Int.emod_lt_of_pos
theorem Jt:type_of% @List.mem_range:=@List.mem_range
theorem Ju:type_of% @PySem.Calls.spliced_cons:=@PySem.Calls.spliced_cons
theorem Jv:type_of% @PySem.wpAny_holding:=@PySem.wpAny_holding
theorem Jw:type_of% @PySem.PassesOwn.never:=@PySem.PassesOwn.never
theorem Jx:type_of% @List.map_map:=@List.map_map
theorem Jy:type_of% @PyProof.Rows.wpS_forRange:=@PyProof.Rows.wpS_forRange
theorem Jz:type_of% @List.append_assoc:=@List.append_assoc
theorem JA:type_of% @PySem.wpAny_standAt:=@PySem.wpAny_standAt
theorem JB:type_of% @Int.emod_nonneg:=@Int.emod_nonneg
theorem JC:type_of% @Array.size_push:=@Array.size_push
theorem JD:type_of% @PySem.W.kia_one:=@PySem.W.kia_one
theorem JE:type_of% @PySem.wpAny_Call_Name_kw:=@PySem.wpAny_Call_Name_kw
theorem JF:type_of% @Bool.false_eq_true:=@Bool.false_eq_true
theorem JG:type_of% @List.mem_append_left:=@List.mem_append_left
theorem JH:type_of% @PySem.codeAny_mono:=@PySem.codeAny_mono
theorem JI:type_of% @PySem.W.mg_of:=@PySem.W.mg_of
theorem JJ:type_of% @List.take_of_length_le:=@List.take_of_length_le
theorem JK:type_of% @of_decide_eq_true:=@of_decide_eq_true
theorem JL:type_of% @beq_eq_false_iff_ne:=@beq_eq_false_iff_ne
theorem JM:type_of% @PySem.mem_of_lookup:=@PySem.mem_of_lookup
theorem JN:type_of% @List.extract_eq_take_drop:=@List.extract_eq_take_drop
theorem JO:type_of% @PySem.wpAny_typeNameOfWhole_keyiter:=@PySem.wpAny_typeNameOfWhole_keyiter
theorem JP:type_of% @PySem.Calls.evalArgs_plain:=@PySem.Calls.evalArgs_plain
theorem JQ:type_of% @PySem.F.slot_dict_keyiterator_next:=@PySem.F.slot_dict_keyiterator_next
theorem JR:type_of% @Nat.lt_succ_of_lt:=@Nat.lt_succ_of_lt
theorem JS:type_of% @beq_iff_eq:=@beq_iff_eq
theorem JT:type_of% @PySem.Heap.size_push:=@PySem.Heap.size_push
theorem JU:type_of% @List.length_filter_le:=@List.length_filter_le
theorem JV:type_of% @List.take_append_drop:=@List.take_append_drop
theorem JW:type_of% @List.drop_eq_getElem_cons:=@List.drop_eq_getElem_cons
theorem JX:type_of% @PySem.wpAny_typeNameOf_keyiter:=@PySem.wpAny_typeNameOf_keyiter
theorem JY:type_of% @PyProof.Rows.wpS_mono:=@PyProof.Rows.wpS_mono
theorem JZ:type_of% @Array.toList_extract:=@Array.toList_extract
theorem J0:type_of% @PyProof.Rows.boot_sorted:=@PyProof.Rows.boot_sorted
theorem J2:type_of% @PySem.Calls.spliced_nil:=@PySem.Calls.spliced_nil
theorem J3:type_of% @PySem.wpAny_dictEntries:=@PySem.wpAny_dictEntries
theorem J4:type_of% @List.length_range:=@List.length_range
theorem J5:type_of% @if_false:=@if_false
theorem J6:type_of% @PySem.wpAny_call_entry:=@PySem.wpAny_call_entry
theorem J8:type_of% @List.nodup_nil:=@List.nodup_nil
theorem J9:type_of% @PySem.sizeLine_eq:=@PySem.sizeLine_eq
theorem Ka:type_of% @PySem.wpAny_call:=@PySem.wpAny_call
theorem Kb:type_of% @PySem.Calls.callWith_builtin:=@PySem.Calls.callWith_builtin
theorem Kc:type_of% @PyProof.Rows.boot_dict:=@PyProof.Rows.boot_dict
theorem Kd:type_of% @List.mem_filter:=@List.mem_filter
theorem Ke:type_of% @Classical.choose_spec:=@Classical.choose_spec
theorem Kf:type_of% @PySem.F.excBase_ValueError:=@PySem.F.excBase_ValueError
theorem Kg:type_of% @List.map_take:=@List.map_take
theorem Kh:type_of% @PySem.wpAny_truthy_bool:=@PySem.wpAny_truthy_bool
theorem Ki:type_of% @Option.isSome_map:=@Option.isSome_map
theorem Kj:type_of% @Array.mem_toList_iff:=@Array.mem_toList_iff
theorem Kk:type_of% @PySem.wpAny_newFunctionEnv:=@PySem.wpAny_newFunctionEnv
theorem Kl:type_of% @PySem.codeAny_call_builtin:=@PySem.codeAny_call_builtin
theorem Km:type_of% @List.pairwise_iff_getElem:=@List.pairwise_iff_getElem
theorem Kn:type_of% @Nat.le_of_lt:=@Nat.le_of_lt
theorem Ko:type_of% @Bool.and_eq_true:=@Bool.and_eq_true
theorem Kq:type_of% @beq_self_eq_true:=@beq_self_eq_true
theorem Kr:type_of% @List.mergeSort_perm:=@List.mergeSort_perm
theorem Ks:type_of% @List.map_congr_left:=@List.map_congr_left
theorem Kt:type_of% @List.getElem_of_mem:=@List.getElem_of_mem
theorem Ku:type_of% @List.mem_map_of_mem:=@List.mem_map_of_mem
theorem Kv:type_of% @List.reverse_append:=@List.reverse_append
theorem Kw:type_of% @Nat.lt_irrefl:=@Nat.lt_irrefl
theorem Kx:type_of% @if_true:=@if_true
theorem Ky:type_of% @List.any_cons:=@List.any_cons
theorem Kz:type_of% @PySem.wpAny_execs_nil:=@PySem.wpAny_execs_nil
theorem KA:type_of% @PySem.W.callWith_K:=@PySem.W.callWith_K
theorem KB:type_of% @PySem.tupleKind_room_in1:=@PySem.tupleKind_room_in1
theorem KC:type_of% @Nat.lt_of_le_of_lt:=@Nat.lt_of_le_of_lt
theorem KD:type_of% @PySem.Obj.data_mapFields:=@PySem.Obj.data_mapFields
theorem KF:type_of% @List.foldl_cons:=@List.foldl_cons
theorem KG:type_of% @List.filter_append:=@List.filter_append
theorem KH:type_of% @Nat.le_succ:=@Nat.le_succ
theorem KI:type_of% @PySem.wpAny_field:=@PySem.wpAny_field
theorem KJ:type_of% @PySem.wpAny_pyIter_list:=@PySem.wpAny_pyIter_list
theorem KL:type_of% @Bool.not_eq_true':=@Bool.not_eq_true'
theorem KM:type_of% @PySem.wpAny_loadPart_at:=@PySem.wpAny_loadPart_at
theorem KN:type_of% @List.ext_getElem?:=@List.ext_getElem?
theorem KO:type_of% @List.pairwise_map:=@List.pairwise_map
theorem KP:type_of% @Array.toList_push:=@Array.toList_push
theorem KQ:type_of% @PySem.wpAny_setField:=@PySem.wpAny_setField
theorem KR:type_of% @Nat.sub_self:=@Nat.sub_self
theorem KS:type_of% @PySem.boot_len:=@PySem.boot_len
theorem KU:type_of% @PySem.wpAny_rule:=@PySem.wpAny_rule
namespace L2
open PySem PySem.Spec PyProof.Rows
abbrev bV:=Sum Int Str
def tI:bV->Value->Bool
 | .inl k,v=>Value.isInt k v
 | .inr x,v=>Value.isStrOf x v
def G7 (w:World):bV->Int
 | .inl k=>hashInt k
 | .inr x=>hashStr w x
theorem bM:∀ {k:bV}{v:Value},tI k v=true->(∃ i t,k=Sum.inl i/\v=Value.int i t)\/(∃ x t,k=Sum.inr x/\v=Value.str x t)
 | .inl i,v,h=>by
  obtain⟨t,e⟩:=Value.isInt_shape (k:=i) (v:=v) h;exact .inl ⟨i,t,rfl,e⟩
 | .inr x,v,h=>by
  obtain⟨t,e⟩:=Value.isStrOf_shape (x:=x) (v:=v) h;exact .inr ⟨x,t,rfl,e⟩
theorem zW (i:Int)(t:Tok):tI (.inl i) (.int i t)=true:=by simp[tI,Value.isInt]
theorem zX (x:Str)(t:Tok):tI (.inr x) (.str x t)=true:=by simp[tI,Value.isStrOf]
theorem EG (a b:Int):decide ((Sum.inl a:bV)=Sum.inl b)=(a == b):=by
 by_cases e:a=b
 ·subst e;simp
 ·have h:¬ (Sum.inl a:bV)=Sum.inl b:=fun q=>e (Sum.inl.inj q)
  rw[IM h];exact (JL.mpr e).symm
theorem EJ (a b:Str):decide ((Sum.inr a:bV)=Sum.inr b)=decide (a=b):=by
 by_cases e:a=b
 ·subst e;simp
 ·have h:¬ (Sum.inr a:bV)=Sum.inr b:=fun q=>e (Sum.inr.inj q)
  rw[IM h,IM e]
theorem EH (a:Int)(b:Str):decide ((Sum.inl a:bV)=Sum.inr b)=false:=IM (fun q=>nomatch q)
theorem EI (a:Str)(b:Int):decide ((Sum.inr a:bV)=Sum.inl b)=false:=IM (fun q=>nomatch q)
def aB (prog:Program)(w:World):PySem.KeyKind prog w bV where
 is:=tI
 hash:=G7 w
 inj:=fun v a b ha hb=>by
  rcases bM ha with ⟨i,t,rfl,rfl⟩ | ⟨x,t,rfl,rfl⟩
  ·rcases bM hb with ⟨j,u,rfl,e⟩ | ⟨y,u,rfl,e⟩
   ·injection e with e1 _;rw[e1]
   ·exact nomatch e
  ·rcases bM hb with ⟨j,u,rfl,e⟩ | ⟨y,u,rfl,e⟩
   ·exact nomatch e
   ·injection e with e1 _;rw[e1]
 byValue:=fun k v h=>by
  rcases bM h with ⟨i,t,rfl,rfl⟩ | ⟨x,t,rfl,rfl⟩<;>rfl
 pyHash:=fun hv h=>by
  rcases bM hv with ⟨i,t,rfl,rfl⟩ | ⟨x,t,rfl,rfl⟩
  ·exact wpAny_pyHash_int h
  ·exact wpAny_pyHash_str h
 eqBool:=fun hu hv h=>by
  rcases bM hu with ⟨i,t,rfl,rfl⟩ | ⟨x,t,rfl,rfl⟩
  ·rcases bM hv with ⟨j,u,rfl,rfl⟩ | ⟨y,u,rfl,rfl⟩
   ·rw[EG]at h;exact wpAny_eqBool_int h
   ·rw[EH]at h;exact SeqAt.EqAt.int_str i t y u _ _ _ _ h
  ·rcases bM hv with ⟨j,u,rfl,rfl⟩ | ⟨y,u,rfl,rfl⟩
   ·rw[EI]at h;exact SeqAt.EqAt.str_int x t j u _ _ _ _ h
   ·rw[EJ]at h;exact wpAny_eqBool_str h
 «strs»:=fun k x t v h=>by
  rcases bM h with ⟨i,u,rfl,e⟩ | ⟨y,u,rfl,e⟩
  ·exact nomatch e
  ·injection e with e1 _
   subst e1;cases v<;>rfl
theorem vT (prog:Program)(w:World)(i:Int)(t:Tok):(aB prog w).is (.inl i) (.int i t)=true:=zW i t
theorem vU (prog:Program)(w:World)(x:Str)(t:Tok):(aB prog w).is (.inr x) (.str x t)=true:=zX x t
inductive V where
 | non | bl (b:Bool) | int (i:Int) | str (x:Str) | byt (b:Array UInt8) | flt (b:UInt64) | ref (a:Addr) | ty (n:String)
 deriving DecidableEq
def aY:V->Value->Prop
 | .non,u=>u=Value.none
 | .bl b,u=>u=Value.bool b
 | .int i,u=>∃ t,u=Value.int i t
 | .str x,u=>∃ t,u=Value.str x t
 | .byt b,u=>∃ t,u=Value.bytes b t
 | .flt b,u=>∃ t,u=Value.float b t
 | .ref a,u=>u=Value.ref a
 | .ty n,u=>u=Value.type n
abbrev bh:List V->List Value->Prop:=Paired aY
theorem bh.length {xs:List V}{us:List Value}(r:bh xs us):xs.length=us.length:=Ix r
theorem bh.get:∀ {xs:List V}{us:List Value}{i:Nat}{x:V},bh xs us->xs[i]? = some x->∃ u,us[i]? = some u/\aY x u
 | _,_,_,_,.nil,e=>by simp at e
 | _,_,0,_,.cons r _,e=>by simp at e;subst e;exact⟨_,rfl,r⟩
 | _,_,i+1,x,.cons _ t,e=>by
  obtain⟨u,h1,h2⟩:=bh.get (i:=i) (x:=x) t (by simpa using e);exact⟨u,by simpa using h1,h2⟩
theorem bh.append:∀ {xs ys:List V}{us ws:List Value},bh xs us->bh ys ws->bh (xs++ys) (us++ws)
 | _,_,_,_,.nil,s=>s
 | _,_,_,_,.cons r t,s=>.cons r (bh.append t s)
theorem bh.take:∀ {xs:List V}{us:List Value}(n:Nat),bh xs us->bh (xs.take n) (us.take n)
 | _,_,0,_=>.nil
 | _,_,_+1,.nil=>.nil
 | _,_,n+1,.cons r t=>.cons r (bh.take n t)
theorem bh.drop:∀ {xs:List V}{us:List Value}(n:Nat),bh xs us->bh (xs.drop n) (us.drop n)
 | _,_,0,r=>r
 | _,_,_+1,.nil=>.nil
 | _,_,n+1,.cons _ t=>bh.drop n t
def ie:Option V->Option Value->Prop
 | some v,some u=>aY v u
 | none,none=>True
 | _,_=>False
def KV {κ:Type}:List (κ×V)->List (κ×Value)->Prop:=Paired fun (p:κ×V)(q:κ×Value)=>p.1=q.1/\aY p.2 q.2
def kV:bV->V
 | .inl i=>.int i
 | .inr x=>.str x
inductive HO where
 | lst (xs:List V)
 | tup (xs:List V)
 | dK (kvs:List (bV×V)) | dT (kvs:List (List bV×V))
 | set (S:Int->Bool) (n:Nat)
 | ins (C dx:Addr) (fs:List (Str×V))
 | own (x:Addr)
 | xd (fs:List (Str×V))
 | met (f x:Addr)
 | rng (lo hi:Int)
 | frz (o:Obj) (u:HO)
 | tbl (ps:Array Value)
 | ext (φ:Heap->Prop)
abbrev Hp:=Addr->Option HO
def upd (H:Hp)(a:Addr)(o:HO):Hp:=fun b=>if b=a then some o else H b
theorem af {H:Hp}{a:Addr}{o:HO}:upd H a o a=some o:=by unfold upd;rw[Iq rfl]
theorem ag {H:Hp}{a b:Addr}{o:HO}(h:b≠a):upd H a o b=H b:=by unfold upd;rw[Ip h]
theorem zq {H:Hp}{a:Addr}{o u:HO}:upd (upd H a o) a u=upd H a u:=by
 funext b;unfold upd;split<;>rfl
theorem cJ {H:Hp}{a b:Addr}{o u:HO}(h:H a=some o)(h':H b=some u)(d:o≠u):a≠b:=by
 intro e;subst e;rw[h]at h';exact d (Iy h')
theorem ak {H:Hp}{a b:Addr}{o:HO}(h:H a=some o)(h':H b=none):a≠b:=by
 intro e;subst e;rw[h]at h';cases h'
section
variable (P:Program)(w:World)
def bo (H:Hp)(h:Heap)(a:Addr):HO->Prop
 | .lst xs=>xs.length<=sizeLine/\∃ (its:List Value)(n:Nat),bh xs its/\h.get? a=some { cls:=.type "list",data:=.seq its.toArray n }
 | .tup xs=>xs.length<=sizeLine/\∃ its:List Value,bh xs its/\IsTup h a its.toArray
 | .dK kvs=>kvs.length<=sizeLine/\(a == sysModules)=false/\∃ vs,KV kvs vs/\h.DictOf (aB P w) a vs
 | .dT kvs=>kvs.length<=sizeLine/\(a == sysModules)=false/\∃ xs:List (List bV×Addr×Value),
   Paired (fun (p:List bV×V)(q:List bV×Addr×Value)=>p.1=q.1/\H q.2.1=some (.tup (p.1.map kV))/\aY p.2 q.2.2) kvs xs /\
   ∃ o es ep,h.get? a=some o/\o.ExactDict/\o.data=.dict es ep/\es.toList=xs.map (entryOfKey (tupleKind (aB P w)))/\(xs.map (·.1)).Nodup
 | .set S n=>h.SetOf (intKind P w) a S n
 | .ins C dx fs=>H dx=some (.own a)/\fs.length<=1000/\dx≠a/\h.get? a=some (PySem.W.instObj C dx) /\
   ∃ mA,h.Ns1 dx mA/\(∀ f,ie (fs.lookup f) (mA f))/\PySem.Within mA (fs.map (·.1))
 | .own _=>∃ o,h.get? a=some o
 | .xd fs=>∃ mA,h.Ns1 a mA/\∀ f,ie (fs.lookup f) (mA f)
 | .rng lo hi=>∃ t u v,h.get? a=some { cls:=.type "range",data:=.fields #[.int lo t,.int hi u,.int 1 v] }
 | .frz o u=>h.get? a=some o/\bo H h a u
 | .tbl ps=>h.get? a=some { cls:=.none,data:=.fields ps }
 | .met f x=>h.get? a=some (PySem.W.methodObj (.ref f) (.ref x))
 | .ext φ=>φ h/\(∃ o,h.get? a=some o)/\∀ h1 h2:Heap,φ h1->(∀ o,h1.get? a=some o->h2.get? a=some o)->φ h2
def iQ (H:Hp)(h:Heap):Prop:=∀ a o,H a=some o->bo P w H h a o
end
section
variable {P:Program}{w:World}{H H':Hp}{h h':Heap}{a:Addr}{o:HO}
theorem bo.lt (x:bo P w H h a o):a<h.objs.size:=by
 cases o with
 | lst xs=>obtain⟨_,_,_,_,e⟩:=x;exact IA e
 | tup xs=>obtain⟨_,_,_,p⟩:=x;exact p.lt
 | dK kvs=>obtain⟨_,_,_,_,o,_,_,e,_⟩:=x;exact IA e
 | dT kvs=>obtain⟨_,_,_,_,o,_,_,e,_⟩:=x;exact IA e
 | set S n=>obtain⟨o,_,_,_,e,_⟩:=x;exact IA e
 | ins C dx fs=>obtain⟨_,_,_,e,_⟩:=x;exact IA e
 | own y=>obtain⟨_,e⟩:=x;exact IA e
 | xd fs=>obtain⟨_,⟨_,_,_,e,_⟩,_⟩:=x;exact IA e
 | rng lo hi=>obtain⟨_,_,_,e⟩:=x;exact IA e
 | frz ob u=>obtain⟨e,_⟩:=x;exact IA e
 | tbl ps=>exact IA (show h.get? a=some _ from x)
 | met f y=>exact IA (show h.get? a=some _ from x)
 | ext φ=>obtain⟨_,⟨_,e⟩,_⟩:=x;exact IA e
theorem Paired.mapP {α β:Type}{F G:α->β->Prop}:∀ {l₁:List α}{l₂:List β},Paired F l₁ l₂->(∀ a b,F a b->G a b)->Paired G l₁ l₂
 | _,_,.nil,_=>.nil
 | _,_,.cons r t,f=>.cons (f _ _ r) (Paired.mapP t f)
theorem bo.stay (x:bo P w H h a o)(k:∀ b u,(b=a\/H b=some (.own a))->h.get? b=some u->h'.get? b=some u)
  (ho:∀ b,H b=some (.own a)->H' b=some (.own a)) (ht:∀ b xs,H b=some (.tup xs)->H' b=some (.tup xs)):bo P w H' h' a o:=by
 induction o with
 | lst xs=>obtain⟨z,its,n,r,e⟩:=x;exact⟨z,its,n,r,k _ _ (.inl rfl) e⟩
 | tup xs=>obtain⟨z,its,r,ob,e,c⟩:=x;exact⟨z,its,r,ob,k _ _ (.inl rfl) e,c⟩
 | dK kvs=>obtain⟨z,y,vs,r,ob,es,ep,e,c⟩:=x;exact⟨z,y,vs,r,ob,es,ep,k _ _ (.inl rfl) e,c⟩
 | dT kvs =>
  obtain⟨z,y,xs,r,ob,es,ep,e,c⟩:=x;exact⟨z,y,xs,Paired.mapP r fun p q z=>⟨z.1,ht _ _ z.2.1,z.2.2⟩,ob,es,ep,k _ _ (.inl rfl) e,c⟩
 | set S n=>obtain⟨ob,es,ep,t,e,c⟩:=x;exact⟨ob,es,ep,t,k _ _ (.inl rfl) e,c⟩
 | ins C dx fs =>
  obtain⟨d,z,ne,e,mA,⟨od,es,ep,e2,c⟩,r⟩:=x;exact⟨ho _ d,z,ne,k _ _ (.inl rfl) e,mA,⟨od,es,ep,k _ _ (.inr d) e2,c⟩,r⟩
 | own y=>obtain⟨ob,e⟩:=x;exact⟨ob,k _ _ (.inl rfl) e⟩
 | xd fs=>obtain⟨mA,⟨od,es,ep,e,c⟩,r⟩:=x;exact⟨mA,⟨od,es,ep,k _ _ (.inl rfl) e,c⟩,r⟩
 | rng lo hi=>obtain⟨t,u,v,e⟩:=x;exact⟨t,u,v,k _ _ (.inl rfl) e⟩
 | frz ob u ih=>obtain⟨e,q⟩:=x;exact⟨k _ _ (.inl rfl) e,ih q⟩
 | tbl ps =>
  have e:h.get? a=some { cls:=.none,data:=.fields ps }:=x
  show h'.get? a=some { cls:=.none,data:=.fields ps }
  exact k a _ (.inl rfl) e
 | met f y =>
  have e:h.get? a=some (PySem.W.methodObj (.ref f) (.ref y)):=x
  show h'.get? a=some (PySem.W.methodObj (.ref f) (.ref y))
  exact k a _ (.inl rfl) e
 | ext φ=>obtain⟨p,⟨o,e⟩,st⟩:=x;exact⟨st _ _ p fun o q=>k _ _ (.inl rfl) q,⟨o,k _ _ (.inl rfl) e⟩,st⟩
theorem iQ.lt (x:iQ P w H h)(e:H a=some o):a<h.objs.size:=(x a o e).lt
theorem iQ.fresh (x:iQ P w H h)(e:h.objs.size<=a):H a=none:=by
 cases q:H a with
 | none=>rfl
 | some u=>exact absurd (IQ (x.lt q) e) (Kw _)
theorem iQ.kept (x:iQ P w H h)(k:∀ b u,h.get? b=some u->h'.get? b=some u):iQ P w H h':=fun a o e =>
 (x a o e).stay (fun b u _ q=>k b u q) (fun _ q=>q) fun _ _ q=>q
theorem iQ.laid (x:iQ P w H h)(k:∀ b u,h.get? b=some u->h'.get? b=some u)(hp:h.objs.size<=a)(new:bo P w (upd H a o) h' a o):iQ P w (upd H a o) h':=fun b u e=>by
 have hn:=x.fresh hp
 by_cases hb:b=a
 ·subst hb;rw[af]at e;cases e;exact new
 ·rw[ag hb]at e
  exact (x b u e).stay (fun c v _ q=>k c v q) (fun c q=>by rw[ag (ak q hn)];exact q) fun c xs q=>by rw[ag (ak q hn)];exact q
end
def Rd (H:Hp)(a:Addr)(u:HO):Prop:=H a=some u\/∃ o,H a=some (.frz o u)
theorem Rd.of {H:Hp}{a:Addr}{u:HO}(h:H a=some u):Rd H a u:=.inl h
theorem Rd.ok {P:Program}{w:World}{H:Hp}{h:Heap}{a:Addr}{u:HO}(r:Rd H a u)(x:iQ P w H h):bo P w H h a u:=by
 rcases r with r | ⟨o,r⟩
 ·exact x a u r
 ·obtain⟨_,q⟩:=x a _ r
  exact q
def FT:Option HO->Prop
 | some (.lst _)=>True
 | some (.dK _)=>True
 | some (.dT _)=>True
 | some (.set _ _)=>True
 | some (.ins _ _ _)=>True
 | some (.ext _)=>True
 | _=>False
section
variable {P:Program}{w:World}{H:Hp}{h h':Heap}{x e:Addr}{o':HO}
theorem iQ.write (ok:iQ P w H h)(mu:FT (H x))(he:e=x\/H e=some (.own x))(k:∀ b u,b≠e->h.get? b=some u->h'.get? b=some u)(heo:∃ u,h'.get? e=some u)
  (new:bo P w (upd H x o') h' x o'):iQ P w (upd H x o') h':=fun b u q=>by
 have nown:∀ c y,H c=some (.own y)->c≠x:=fun c y r z=>by subst z;rw[r]at mu;exact mu
 have ntup:∀ c xs,H c=some (.tup xs)->c≠x:=fun c xs r z=>by subst z;rw[r]at mu;exact mu
 by_cases hb:b=x
 ·subst hb;rw[af]at q;cases q;exact new
 ·rw[ag hb]at q
  by_cases hbe:b=e
  ·have q':H b=some (.own x):=by
    rcases he with z | z
    ·exact absurd (hbe.trans z) hb
    ·rw[hbe];exact z
   rw[q]at q';cases q';obtain⟨v,hv⟩:=heo;exact⟨v,by rw[hbe];exact hv⟩
  ·refine (ok b u q).stay (fun c v hc r=>k c v ?_ r) (fun c r=>by rw[ag (nown c b r)];exact r) fun c xs r=>by rw[ag (ntup c xs r)];exact r
   rcases hc with rfl | hc
   ·exact hbe
   ·rintro rfl
    rcases he with z | z
    ·exact nown c b hc z
    ·rw[hc]at z;cases z;exact hb rfl
end
structure Un (fs ex:List Addr)(H H':Hp)(h h':Heap):Prop where
 keep:∀ b o,h.get? b=some o->H b=none->b∉fs->b∉ex->h'.get? b=some o
 slot:∀ b o,h.get? b=some o->H b=none->b∈fs->b∉ex->∃ sl,h'.get? b=some { o with slots:=sl }
 free:∀ b o,h.get? b=some o->H b=none->b∉ex->H' b=none
 there:∀ b o,h.get? b=some o->b∉ex->∃ o',h'.get? b=some o'
 tups:∀ b xs,H b=some (.tup xs)->H' b=some (.tup xs)
 frzs:∀ b o u,H b=some (.frz o u)->H' b=some (.frz o u)
 tbls:∀ b ps,H b=some (.tbl ps)->∃ more,H' b=some (.tbl (ps++more))
section
variable {fs fs' ex ex':List Addr}{H H1 H2:Hp}{h h1 h2 h':Heap}{a x e:Addr}{o:HO}
theorem Un.any (u:Un fs ex H H1 h h1){b:Addr}{ob:Obj}(q:h.get? b=some ob)(n:H b=none)(hx:b∉ex):∃ sl,h1.get? b=some { ob with slots:=sl }:=by
 by_cases hb:b∈fs
 ·exact u.slot b ob q n hb hx
 ·exact⟨ob.slots,u.keep b ob q n hb hx⟩
theorem Un.kept (k:∀ b u,h.get? b=some u->h'.get? b=some u):Un fs ex H H h h' :=
 ⟨fun b ob q _ _ _=>k b ob q,fun b ob q _ _ _=>⟨ob.slots,k b ob q⟩,fun _ _ _ n _=>n,fun b ob q _=>⟨ob,k b ob q⟩,fun _ _ q=>q,fun _ _ _ q=>q,fun _ ps q=>⟨#[],by rw[q];simp⟩⟩
theorem Un.refl:Un fs ex H H h h:=Un.kept fun _ _ q=>q
theorem Un.laid (k:∀ b u,h.get? b=some u->h'.get? b=some u)(hp:h.objs.size<=a)(hn:H a=none):Un fs ex H (upd H a o) h h' where
 keep:=fun b u q _ _ _=>k b u q
 slot:=fun b u q _ _ _=>⟨u.slots,k b u q⟩
 free:=fun b u q n _=>by rw[ag (IC (IQ (IA q) hp))];exact n
 there:=fun b u q _=>⟨u,k b u q⟩
 tups:=fun b xs q=>by rw[ag (ak q hn)];exact q
 frzs:=fun b u xs q=>by rw[ag (ak q hn)];exact q
 tbls:=fun b ps q=>⟨#[],by rw[ag (ak q hn),q];simp⟩
theorem Un.write (mu:FT (H x))(he:e=x\/H e=some (.own x))(k:∀ b u,b≠e->h.get? b=some u->h'.get? b=some u)(heo:∃ u,h'.get? e=some u):Un fs ex H (upd H x o) h h':=by
 have hx:∀ b,H b=none->b≠x:=fun b n z=>by subst z;rw[n]at mu;exact mu
 have hb:∀ b,H b=none->b≠e:=fun b n z=>by
  subst z;rcases he with r | r
  ·exact hx b n r
  ·rw[n]at r;cases r
 have hm:∀ b u,H b=some u->¬ FT (some u)->b≠x:=fun b u q nm z=>by subst z;rw[q]at mu;exact nm mu
 refine⟨fun b u q n _ _=>k b u (hb b n) q,fun b u q n _ _=>⟨u.slots,k b u (hb b n) q⟩,fun b u q n _=>by rw[ag (hx b n)];exact n,fun b u q _=>?_,
  fun b xs q=>by rw[ag (hm b _ q fun z=>z)];exact q,fun b u xs q=>by rw[ag (hm b _ q fun z=>z)];exact q,fun b ps q=>⟨#[],by rw[ag (hm b _ q fun z=>z),q];simp⟩⟩
 by_cases hbe:b=e
 ·subst hbe;exact heo
 ·exact⟨u,k b u hbe q⟩
end
def GM (h:Heap)(H:Hp):List Addr:=(List.range h.objs.size).filter fun a=>(H a).isSome
def uv (h:Heap)(H:Hp):Heap:=PySem.W.hideAll h (GM h H)
theorem zT (h:Heap)(H:Hp):(uv h H).objs.size=h.objs.size:=PySem.W.hideAll_size _ _
theorem qJ {h:Heap}{H:Hp}{b:Addr}{o:Obj}(e:h.get? b=some o)(n:H b=none):(uv h H).get? b=some o :=
 PySem.W.hideAll_get _ e fun hm=>by
  have q:(H b).isSome=true:=(Kd.mp hm).2;rw[n]at q;simp at q
theorem Dm {h:Heap}{H:Hp}{b:Addr}{o:Obj}(e:(uv h H).get? b=some o):h.get? b=some o/\H b=none:=by
 have e':h.get? b=some o:=PySem.W.of_hideAll (GM h H) e;refine⟨e',?_⟩
 cases q:H b with
 | none=>rfl
 | some x =>
  have hm:b∈GM h H:=Kd.mpr ⟨Jt.mpr (IA e'),by simp[q]⟩;have z:(uv h H).get? b=none:=PySem.W.hideAll_none (GM h H) hm;rw[z]at e;cases e
structure Mod (K:PySem.W.Frag)(mg:Str->Option Value)(base:Heap):Prop where
 kin:K.In base
 glob:base.Ns mainGlobals mg
 blt:∃ mb,base.Ns builtinsNs mb/\∀ x:Str,x≠"__name__"->mb x=bootBuiltins x
 nolimit:base.NoLimit
structure Cx where
 prog:Program
 w:World
 K:PySem.W.Frag
 mg:Str->Option Value
 base:Heap
 A:Around
 N:List Str
 s₀:Shared
 H₀:Hp
 env:Env
 outer:List Env
 stack:List Env
 ex:List Addr
 fn:Str->Bool
 calm:Bool
 pn:List (Addr×Obj)
 xe:Value->Shared->Prop
def iq (l:List Env):List Addr:=l.filterMap (·.frame)
abbrev Cx.fs (X:Cx):List Addr:=iq X.outer
def GJ (sc:Scope)(x:Str):Prop:=sc.names.lookup x=some .local\/sc.names.lookup x=some .cell\/sc.names.lookup x=some .free
def DS (sc:Scope)(x:Str):Prop:=sc.names.lookup x=some .local\/sc.names.lookup x=some .cell
def GR (env:Env)(h:Heap)(m:Str->Option Value)(x:Str)(u:Value):Prop :=
 (env.kindOf x=some .local/\m x=some u)\/((env.kindOf x=some .cell\/env.kindOf x=some .free)/\∃ c,env.cells.lookup x=some c/\h.IsCell c (some u))
structure Cx.Ok (X:Cx):Prop where
 mod:Mod X.K X.mg X.base
 kind:X.env.scope.kind=.function
 glob:X.env.globals=mainGlobals
 blt:X.env.builtins=builtinsNs
 above:X.s₀.heap.objs.size<=X.env.locals
 inj:∀ x y c,X.env.cells.lookup x=some c->X.env.cells.lookup y=some c->x=y
 has:∀ x,(X.env.kindOf x=some .cell\/X.env.kindOf x=some .free)->∃ c,X.env.cells.lookup x=some c
 cab:∀ x c,X.fn x=true->X.env.cells.lookup x=some c->X.s₀.heap.objs.size<=c
 hd:X.calm=true->X.A.handled=none
 frames:X.A.frames=some X.stack
 stk:X.stack=X.outer\/(X.stack=X.env::X.outer/\X.env.frame=some X.env.locals)
 exf:∀ b∈X.ex,b≠X.env.locals/\∀ x c,X.env.cells.lookup x=some c->c≠b
 bs:∀ b o,X.base.get? b=some o->X.s₀.heap.get? b=some o/\X.H₀ b=none
 bsz:X.base.objs.size<=X.s₀.heap.objs.size
 noex:∀ b o,X.base.get? b=some o->b∉X.ex
 exfs:∀ b∈X.ex,b∉X.fs
 funs:X.s₀.heap.FunFrames X.base X.outer
 frf:∀ b∈X.fs,X.H₀ b=none
structure au (X:Cx)(pins:List (Addr×Obj))(σ:List (Option V))(H:Hp)(s:Shared):Prop where
 ok:X.Ok
 os:s.os=X.s₀.os
 bare:AllBare s.gens
 base:Un X.fs X.ex X.H₀ H X.s₀.heap s.heap
 loc:∃ m,s.heap.Ns X.env.locals m/\∀ (i:Nat)(x:Str)(v:V),X.N[i]? = some x->σ[i]? = some (some v)->GJ X.env.scope x->∃ u,aY v u/\GR X.env s.heap m x u
 cell:∀ x c,X.env.cells.lookup x=some c->∃ v,s.heap.IsCell c v
 free:H X.env.locals=none
 freeC:∀ x c,X.env.cells.lookup x=some c->H c=none
 pin:∀ p∈X.pn++pins,s.heap.get? p.1=some p.2/\H p.1=none/\p.1≠X.env.locals/\p.1∉X.fs/\∀ v,p.2.data≠.cell v
 hok:iQ X.prog X.w H s.heap
 len:σ.length=X.N.length
section
variable {X:Cx}{pins:List (Addr×Obj)}{σ:List (Option V)}{H H':Hp}{s:Shared}{h':Heap}
theorem Cx.Ok.nofr (ok:X.Ok){b:Addr}{o:Obj}(e:X.base.get? b=some o):b∉X.fs:=fun hb=>by
 have:=(ok.funs.mem hb).1;rw[e]at this;cases this
theorem au.bs (I:au X pins σ H s):∀ b o,X.base.get? b=some o->s.heap.get? b=some o/\H b=none:=fun b o e =>
 ⟨I.base.keep b o (I.ok.bs b o e).1 (I.ok.bs b o e).2 (I.ok.nofr e) (I.ok.noex b o e),I.base.free b o (I.ok.bs b o e).1 (I.ok.bs b o e).2 (I.ok.noex b o e)⟩
theorem au.bk (I:au X pins σ H s):∀ b o,X.base.get? b=some o->s.heap.get? b=some o:=fun b o e=>(I.bs b o e).1
theorem au.mod (I:au X pins σ H s):Mod X.K X.mg X.base:=I.ok.mod
theorem au.kIn (I:au X pins σ H s):X.K.In s.heap:=I.ok.mod.kin.keeps I.bk
theorem au.lt (I:au X pins σ H s):X.env.locals<s.heap.objs.size:=let ⟨_,hn,_⟩:=I.loc;hn.lt
theorem au.sz (I:au X pins σ H s):X.s₀.heap.objs.size<=s.heap.objs.size:=Jb I.ok.above (Kn I.lt)
theorem au.nofs (I:au X pins σ H s){a:Addr}(h:s.heap.objs.size<=a):a∉X.fs:=fun hb=>by
 obtain⟨_,o,ho,_⟩:=I.ok.funs.mem hb;exact absurd (IQ (IA ho) (Jb I.sz h)) (Kw _)
theorem au.cne (I:au X pins σ H s):∀ x c,X.env.cells.lookup x=some c->c≠X.env.locals:=fun x c e z=>by
 obtain⟨v,o,ho,hd⟩:=I.cell x c e;obtain⟨m,⟨o',es,ep,ho',hd',_⟩,_⟩:=I.loc;rw[z,ho']at ho;cases ho;rw[hd']at hd;cases hd
theorem au.funs (I:au X pins σ H s):s.heap.FunFrames X.base X.outer:=by
 have all:∀ (l:List Env),(∀ b∈iq l,b∈X.fs)->X.s₀.heap.FunFrames X.base l->s.heap.FunFrames X.base l:=by
  intro l
  induction l with
  | nil=>intro _ _;trivial
  | cons env r ih =>
   intro hs hl;obtain⟨hk,⟨L,o,hf,hn,ho,hd⟩,hr⟩:=hl;have hL:L∈X.fs:=hs L (by unfold iq;rw[List.filterMap_cons,hf];exact IJ);obtain⟨sl,e⟩:=I.base.slot L o ho (I.ok.frf L hL) hL fun z=>I.ok.exfs L z hL;exact⟨hk,⟨L,_,hf,hn,e,hd⟩,ih (fun b hb=>hs b (by unfold iq;rw[List.filterMap_cons,hf];exact Iz _ hb)) hr⟩
 exact all X.outer (fun _ hb=>hb) I.ok.funs
theorem au.stack (I:au X pins σ H s):s.heap.FunFrames X.base X.stack:=by
 rcases I.ok.stk with e | ⟨e,hf⟩
 ·rw[e];exact I.funs
 ·rw[e]
  obtain⟨m,hn,_⟩:=I.loc;refine .cons (by rw[I.ok.kind];decide) hf hn ?_ I.funs;exact Heap.get?_none_of_le (Jb I.ok.bsz I.ok.above)
theorem au.stkSub (I:au X pins σ H s):∀ b∈iq X.stack,b∈X.env.locals::X.fs:=fun b hb=>by
 rcases I.ok.stk with e | ⟨e,hf⟩
 ·rw[e]at hb;exact Iz _ hb
 ·rw[e]at hb
  unfold iq at hb;rw[List.filterMap_cons,hf]at hb;exact hb
theorem au.stkFree (I:au X pins σ H s):∀ b∈iq X.stack,H b=none:=fun b hb=>by
 rcases IE.mp (I.stkSub b hb) with e | hb
 ·rw[e];exact I.free
 ·obtain⟨_,o,ho,_⟩:=I.ok.funs.mem hb
  exact I.base.free b o ho (I.ok.frf b hb) fun z=>I.ok.exfs b z hb
theorem au.step {g':Array GenState}{t':Nat}{d':Drawn}{ch:List Addr}(I:au X pins σ H s)
  (hch:∀ b∈ch,(b∈X.ex\/X.s₀.heap.objs.size<=b)/\b≠X.env.locals/\(∀ x c,X.env.cells.lookup x=some c->c≠b)/\∀ p∈X.pn++pins,p.1≠b)
  (keep:∀ b o,b≠X.env.locals->b∉X.fs->b∉ch->s.heap.get? b=some o->H b=none->h'.get? b=some o)
  (slot:∀ b o,b≠X.env.locals->b∈X.fs->b∉ch->s.heap.get? b=some o->H b=none->∃ sl,h'.get? b=some { o with slots:=sl }) (free:∀ b o,b∉ch->s.heap.get? b=some o->H b=none->H' b=none)
  (there:∀ b o,b∉ch->s.heap.get? b=some o->∃ o',h'.get? b=some o')
  (tups:∀ b xs,H b=some (.tup xs)->H' b=some (.tup xs)) (frzs:∀ b o u,H b=some (.frz o u)->H' b=some (.frz o u)) (tbls:∀ b ps,H b=some (.tbl ps)->∃ more,H' b=some (.tbl (ps++more)))
  (ns:∀ m,s.heap.Ns X.env.locals m->h'.Ns X.env.locals m) (hok:iQ X.prog X.w H' h') (hg:AllBare g') :
  au X pins σ H' { s with heap:=h',gens:=g',drawn:=d',toks:=t' }:=by
 have neL:∀ b o,X.s₀.heap.get? b=some o->b≠X.env.locals:=fun b o e=>IC (IQ (IA e) I.ok.above)
 have neC:∀ b o,X.s₀.heap.get? b=some o->b∉X.ex->b∉ch:=fun b o e hx hb=>by
  rcases (hch b hb).1 with z | z
  ·exact hx z
  ·exact absurd (IQ (IA e) z) (Kw _)
 have cellK:∀ x c,X.env.cells.lookup x=some c->∀ v,s.heap.IsCell c v->h'.IsCell c v:=fun x c e v ⟨o,ho,hd⟩=>by
  have nch:c∉ch:=fun z=>(hch c z).2.2.1 x c e rfl
  by_cases hc:c∈X.fs
  ·obtain⟨sl,q⟩:=slot c o (I.cne x c e) hc nch ho (I.freeC x c e)
   exact⟨_,q,hd⟩
  ·exact⟨o,keep c o (I.cne x c e) hc nch ho (I.freeC x c e),hd⟩
 refine⟨I.ok,I.os,hg,⟨fun b o e n hb hx=>?_,fun b o e n hb hx=>?_,fun b o e n hx=>?_,fun b o e hx=>?_,fun b xs e=>tups b xs (I.base.tups b xs e),fun b o xs e=>frzs b o xs (I.base.frzs b o xs e),fun b ps e=>?_⟩,?_,fun x c e=>?_,?_,fun x c e=>?_,fun p hp=>?_,hok,I.len⟩
 ·exact keep b o (neL b o e) hb (neC b o e hx) (I.base.keep b o e n hb hx) (I.base.free b o e n hx)
 ·obtain⟨sl,e1⟩:=I.base.slot b o e n hb hx
  obtain⟨sl',e2⟩:=slot b _ (neL b o e) hb (neC b o e hx) e1 (I.base.free b o e n hx);exact⟨sl',e2⟩
 ·obtain⟨o',e1⟩:=I.base.there b o e hx
  exact free b o' (neC b o e hx) e1 (I.base.free b o e n hx)
 ·obtain⟨o',e1⟩:=I.base.there b o e hx
  exact there b o' (neC b o e hx) e1
 ·obtain⟨m1,e1⟩:=I.base.tbls b ps e
  obtain⟨m2,e2⟩:=tbls b _ e1;exact⟨m1++m2,by rw[e2,Array.append_assoc]⟩
 ·obtain⟨m,hn,hl⟩:=I.loc
  refine⟨m,ns m hn,fun i x v e1 e2 e3=>?_⟩;obtain⟨u,r,l⟩:=hl i x v e1 e2 e3;refine⟨u,r,?_⟩;rcases l with l | ⟨k,c,e,z⟩
  ·exact .inl l
  ·exact .inr ⟨k,c,e,cellK x c e _ z⟩
 ·obtain⟨v,z⟩:=I.cell x c e
  exact⟨v,cellK x c e v z⟩
 ·obtain⟨m,⟨o,_,_,ho,_⟩,_⟩:=I.loc
  exact free _ o (fun z=>(hch _ z).2.1 rfl) ho I.free
 ·obtain⟨v,o,ho,hd⟩:=I.cell x c e
  exact free c o (fun z=>(hch c z).2.2.1 x c e rfl) ho (I.freeC x c e)
 ·obtain⟨e,n,ne,nf,d⟩:=I.pin p hp
  have nch:p.1∉ch:=fun z=>(hch p.1 z).2.2.2 p hp rfl;exact⟨keep p.1 p.2 ne nf nch e n,free p.1 p.2 nch e n,ne,nf,d⟩
theorem au.un {t':Nat}(I:au X pins σ H s)(u:Un X.fs [] H H' s.heap h')(hok:iQ X.prog X.w H' h'):au X pins σ H' { s with heap:=h',toks:=t' }:=by
 obtain⟨m,⟨o,es,ep,ho,r⟩,_⟩:=id I.loc;obtain⟨sl,hL⟩:=u.any ho I.free (by simp)
 exact I.step (g':=s.gens) (d':=s.drawn) (ch:=[]) (fun _ z=>nomatch z) (fun b o _ hb _ e n=>u.keep b o e n hb (by simp)) (fun b o _ hb _ e n=>u.slot b o e n hb (by simp)) (fun b o _ e n=>u.free b o e n (by simp)) (fun b o _ e=>u.there b o e (by simp)) u.tups u.frzs u.tbls (fun m' hm=>by
  obtain⟨o',es',ep',ho',r'⟩:=hm;rw[ho]at ho';cases ho'
  exact⟨_,es',ep',hL,r'⟩) hok I.bare
theorem au.call {g':Array GenState}{t':Nat}{d':Drawn}{ch:List Addr}(I:au X pins σ H s)(u:Un (iq X.stack) ch H H' s.heap h')(hok:iQ X.prog X.w H' h')(hg:AllBare g')
  (hch:∀ b∈ch,(b∈X.ex\/X.s₀.heap.objs.size<=b)/\b≠X.env.locals/\(∀ x c,X.env.cells.lookup x=some c->c≠b)/\∀ p∈X.pn++pins,p.1≠b) :
  au X pins σ H' { s with heap:=h',gens:=g',drawn:=d',toks:=t' }:=by
 obtain⟨m,⟨o,es,ep,ho,r⟩,_⟩:=id I.loc;obtain⟨sl,hL⟩:=u.any ho I.free fun z=>(hch _ z).2.1 rfl
 exact I.step (ch:=ch) hch (fun b o hL hb hc e n=>u.keep b o e n (fun z=>(IE.mp (I.stkSub b z)).elim hL hb) hc) (fun b o _ _ hc e n=>u.any e n hc) (fun b o hc e n=>u.free b o e n hc) (fun b o hc e=>u.there b o e hc) u.tups u.frzs u.tbls (fun m' hm=>by
  obtain⟨o',es',ep',ho',r'⟩:=hm;rw[ho]at ho';cases ho'
  exact⟨_,es',ep',hL,r'⟩) hok hg
theorem au.turned {t':Nat}{it:Addr}(I:au X pins σ H s)(k:∀ b o,b≠it->s.heap.get? b=some o->h'.get? b=some o)(hn:H it=none)(hL:it≠X.env.locals)
  (h1:it∈X.ex\/X.s₀.heap.objs.size<=it) (h2:∀ x c,X.env.cells.lookup x=some c->c≠it) (h3:∀ p∈X.pn++pins,p.1≠it):au X pins σ H { s with heap:=h',toks:=t' }:=by
 have nit:∀ b u,H b=some u->b≠it:=fun b u e z=>by rw[z,hn]at e;cases e
 refine I.step (g':=s.gens) (d':=s.drawn) (ch:=[it]) (fun b hb=>?_) (fun b o _ _ hc e _=>k b o (fun z=>hc (by simp[z])) e) (fun b o _ _ hc e _=>⟨o.slots,k b o (fun z=>hc (by simp[z])) e⟩) (fun _ _ _ _ n=>n)
  (fun b o hc e=>⟨o,k b o (fun z=>hc (by simp[z])) e⟩) (fun _ _ e=>e) (fun _ _ _ e=>e) (fun b ps e=>⟨#[],by rw[e];simp⟩) (fun m hm=>?_) (fun b u e=>?_) I.bare
 ·have e:b=it:=by simpa using hb
  subst e;exact⟨h1,hL,h2,h3⟩
 ·obtain⟨o,es,ep,ho,r⟩:=hm
  exact⟨o,es,ep,k _ o (IN hL) ho,r⟩
 ·refine (I.hok b u e).stay (fun c v hc q=>k c v ?_ q) (fun _ q=>q) fun _ _ q=>q
  rcases hc with z | z
  ·rw[z];exact nit b u e
  ·exact nit c _ z
theorem au.tok (I:au X pins σ H s)(t:Nat):au X pins σ H { s with toks:=t }:=I.un (h':=s.heap) (t':=t) Un.refl I.hok
theorem au.kept {t':Nat}(I:au X pins σ H s)(k:∀ b u,s.heap.get? b=some u->h'.get? b=some u):au X pins σ H { s with heap:=h',toks:=t' }:=I.un (Un.kept k) (I.hok.kept k)
theorem au.laid {a:Addr}{o:HO}{t':Nat}(I:au X pins σ H s)(k:∀ b u,s.heap.get? b=some u->h'.get? b=some u)(hp:s.heap.objs.size<=a)(new:bo X.prog X.w (upd H a o) h' a o) :
  au X pins σ (upd H a o) { s with heap:=h',toks:=t' }:=I.un (Un.laid k hp (I.hok.fresh hp)) (I.hok.laid k hp new)
theorem au.write {x e:Addr}{o:HO}{t':Nat}(I:au X pins σ H s)(mu:FT (H x))(he:e=x\/H e=some (.own x))(k:∀ b u,b≠e->s.heap.get? b=some u->h'.get? b=some u)(heo:∃ u,h'.get? e=some u)
  (new:bo X.prog X.w (upd H x o) h' x o):au X pins σ (upd H x o) { s with heap:=h',toks:=t' }:=I.un (Un.write mu he k heo) (I.hok.write mu he k heo new)
theorem au.pins_of {pins':List (Addr×Obj)}(I:au X pins σ H s)(h:∀ p∈pins',s.heap.get? p.1=some p.2/\H p.1=none/\p.1≠X.env.locals/\p.1∉X.fs/\∀ v,p.2.data≠.cell v):au X pins' σ H s :=
 ⟨I.ok,I.os,I.bare,I.base,I.loc,I.cell,I.free,I.freeC,fun p hp=>(IP.mp hp).elim (fun z=>I.pin p (JG _ z)) (h p),I.hok,I.len⟩
theorem qV {N:List Str}(hN:N.Nodup){i j:Nat}{x:Str}(a:N[i]? = some x)(b:N[j]? = some x):i=j:=by
 obtain⟨h1,e1⟩:=List.getElem?_eq_some_iff.mp a;obtain⟨h2,e2⟩:=List.getElem?_eq_some_iff.mp b;exact (List.getElem_inj hN).mp (e1.trans e2.symm)
theorem tV {M:Model}{A:Around}{E:Value->Shared->Prop}{i:Nat}{x:Str}{v:V}{u:Value}{Q:Unit->Shared->Prop}(I:au X pins σ H s)(hN:X.N.Nodup)(hi:X.N[i]? = some x)(hx:DS X.env.scope x)(r:aY v u)
  (h:∀ s',au X pins (σ.set i (some v)) H s'->(∃ a,Heap.SameBut a s.heap s'.heap/\(a=X.env.locals\/X.env.cells.lookup x=some a))->Q () s') (hf:X.fn x=true\/X.env.scope.names.lookup x=some .local:=by first | exact .inl rfl | exact .inr rfl | assumption):wpAny M A (storeName X.env x u) Q E s:=by
 obtain⟨m,hn,hl⟩:=id I.loc
 have hcls:(X.env.scope.kind == .class||(X.env.scope.kind == .module&&X.env.locals != X.env.globals))=false:=by rw[I.ok.kind];rfl
 have hiσ:i<σ.length:=by rw[I.len];exact (List.getElem?_eq_some_iff.mp hi).1
 have cne:=I.cne
 have tracked:∀ {a:Addr}{h':Heap},(∃ o,s.heap.get? a=some o/\H a=none)->Heap.SameBut a s.heap h'->iQ X.prog X.w H h':=fun {a h'} ha hs b ob e=>by
  obtain⟨_,_,hfree⟩:=ha;refine (I.hok b ob e).stay (fun c w' hc q=>(hs.2 c ?_).trans q) (fun _ q=>q) fun _ _ q=>q;rintro rfl;rcases hc with rfl | hc
  ·rw[hfree]at e;cases e
  ·rw[hfree]at hc;cases hc
 rcases hx with hk | hk
 ·refine wpAny_storeName_local hk hn (fun h' hn' hs=>?_) hcls
  obtain⟨oL,_,_,hoL,_⟩:=id hn;refine h _ ⟨I.ok,I.os,I.bare,⟨fun b o e n hb hx=>?_,fun b o e n hb hx=>?_,I.base.free,fun b o e hx=>?_,I.base.tups,I.base.frzs,I.base.tbls⟩,⟨_,hn',fun j y v' e1 e2 e3=>?_⟩,fun y c e=>?_,I.free,I.freeC,fun p hp=>?_,tracked ⟨oL,hoL,I.free⟩ hs,by simpa using I.len⟩ ⟨_,hs,.inl rfl⟩
  ·exact (hs.2 b (IC (IQ (IA e) I.ok.above))).trans (I.base.keep b o e n hb hx)
  ·obtain⟨sl,e1⟩:=I.base.slot b o e n hb hx
   exact⟨sl,(hs.2 b (IC (IQ (IA e) I.ok.above))).trans e1⟩
  ·obtain⟨o',e1⟩:=I.base.there b o e hx
   exact⟨o',(hs.2 b (IC (IQ (IA e) I.ok.above))).trans e1⟩
  ·by_cases hj:j=i
   ·subst hj
    rw[hi]at e1;cases e1;rw[List.getElem?_set_self hiσ]at e2;cases e2;exact⟨u,r,.inl ⟨hk,by simp⟩⟩
   ·rw[List.getElem?_set_ne (IN hj)]at e2
    obtain⟨u',r',q⟩:=hl j y v' e1 e2 e3;refine⟨u',r',?_⟩;rcases q with ⟨k,e⟩ | ⟨k,c,e,z⟩
    ·refine .inl ⟨k,?_⟩
     have:y≠x:=fun e=>hj (qV hN e1 (e▸hi));simp[this,e]
    ·exact .inr ⟨k,c,e,z.sameBut hs (cne y c e)⟩
  ·obtain⟨w',z⟩:=I.cell y c e
   exact⟨w',z.sameBut hs (cne y c e)⟩
  ·obtain⟨e,n,ne,nf,d⟩:=I.pin p hp
   exact⟨(hs.2 p.1 ne).trans e,n,ne,nf,d⟩
 ·have hfn:X.fn x=true:=by
   rcases hf with z | z
   ·exact z
   ·rw[z]at hk;cases hk
  obtain⟨c,hc⟩:=I.ok.has x (.inl hk);obtain⟨w',z⟩:=I.cell x c hc;refine wpAny_storeName_cell I.ok.kind hk hc z (fun h' hc' hs=>?_);obtain⟨oc,hoc,hocd⟩:=id z;refine h { s with heap:=h' } ⟨I.ok,I.os,I.bare,⟨fun b o e n hb hx=>?_,fun b o e n hb hx=>?_,I.base.free,fun b o e hx=>?_,I.base.tups,I.base.frzs,I.base.tbls⟩,⟨m,hn.sameBut hs (IN (cne x c hc)),fun j y v' e1 e2 e3=>?_⟩,fun y c' e=>?_,I.free,I.freeC,fun p hp=>?_,tracked ⟨oc,hoc,I.freeC x c hc⟩ hs,by simpa using I.len⟩ ⟨c,hs,.inr hc⟩
  ·exact (hs.2 b (IC (IQ (IA e) (I.ok.cab x c hfn hc)))).trans (I.base.keep b o e n hb hx)
  ·obtain⟨sl,e1⟩:=I.base.slot b o e n hb hx
   exact⟨sl,(hs.2 b (IC (IQ (IA e) (I.ok.cab x c hfn hc)))).trans e1⟩
  ·obtain⟨o',e1⟩:=I.base.there b o e hx
   exact⟨o',(hs.2 b (IC (IQ (IA e) (I.ok.cab x c hfn hc)))).trans e1⟩
  ·by_cases hj:j=i
   ·subst hj
    rw[hi]at e1;cases e1;rw[List.getElem?_set_self hiσ]at e2;cases e2;exact⟨u,r,.inr ⟨.inl hk,c,hc,hc'⟩⟩
   ·rw[List.getElem?_set_ne (IN hj)]at e2
    obtain⟨u',r',q⟩:=hl j y v' e1 e2 e3;refine⟨u',r',?_⟩;rcases q with q | ⟨k,c',e,z'⟩
    ·exact .inl q
    ·refine .inr ⟨k,c',e,z'.sameBut hs ?_⟩
     rintro rfl;exact hj (qV hN e1 (I.ok.inj _ _ _ e hc▸hi))
  ·by_cases hcc:c'=c
   ·subst hcc;exact⟨_,hc'⟩
   ·obtain⟨w2,z2⟩:=I.cell y c' e
    exact⟨w2,z2.sameBut hs hcc⟩
  ·obtain⟨e,n,ne,nf,d⟩:=I.pin p hp
   refine⟨(hs.2 p.1 ?_).trans e,n,ne,nf,d⟩;intro q;rw[q,hoc]at e;have q':oc=p.2:=Iy e;exact d w' (by rw[<-q'];exact hocd)
theorem ny {M:Model}{A:Around}{E:Value->Shared->Prop}{i:Nat}{x:Str}{v:V}{u:Value}{Q:Unit->Shared->Prop}(I:au X pins σ H s)(hN:X.N.Nodup)(hi:X.N[i]? = some x)(hx:DS X.env.scope x)(r:aY v u)
  (h:∀ s',au X pins (σ.set i (some v)) H s'->Q () s') (hf:X.fn x=true\/X.env.scope.names.lookup x=some .local:=by first | exact .inl rfl | exact .inr rfl | assumption):wpAny M A (storeName X.env x u) Q E s :=
 tV I hN hi hx r (fun s' I' _=>h s' I') hf
theorem au.call' {s':Shared}{ch:List Addr}(I:au X pins σ H s)(ho:s'.os=s.os)(u:Un (iq X.stack) ch H H' s.heap s'.heap)(hok:iQ X.prog X.w H' s'.heap)(hg:AllBare s'.gens)
  (hch:∀ b∈ch,(b∈X.ex\/X.s₀.heap.objs.size<=b)/\b≠X.env.locals/\(∀ x c,X.env.cells.lookup x=some c->c≠b)/\∀ p∈X.pn++pins,p.1≠b):au X pins σ H' s':=by
 obtain⟨h',g',d',t',o'⟩:=s';have e:o'=s.os:=ho;subst e;exact I.call (g':=g') (t':=t') (d':=d') u hok hg hch
end
abbrev XK:=Value->Option Addr->Hp->Prop
abbrev St:=List (Option V)
abbrev VK:=V->Hp->Prop
abbrev TE:=St->Hp->VK->Prop
abbrev TT:=St->Hp->(Bool->Hp->Prop)->Prop
abbrev TA:=St->Hp->(List V->Hp->Prop)->Prop
structure hG where
 nx:St->Hp->Prop
 rt:VK
 bk:St->Hp->Prop:=fun _ _=>False
 ct:St->Hp->Prop:=fun _ _=>False
abbrev TS:=hG->St->Hp->Prop
def EP (X:Cx)(pins:List (Addr×Obj))(σ:St)(Q:VK)(u:Value)(s':Shared):Prop:=∃ v H',au X pins σ H' s'/\aY v u/\Q v H'
def TP (X:Cx)(pins:List (Addr×Obj))(σ:St)(Q:Bool->Hp->Prop)(b:Bool)(s':Shared):Prop:=∃ H',au X pins σ H' s'/\Q b H'
def AP (X:Cx)(pins:List (Addr×Obj))(σ:St)(Q:List V->Hp->Prop)(us:List Value)(s':Shared):Prop:=∃ vs H',au X pins σ H' s'/\bh vs us/\Q vs H'
def SP (X:Cx)(pins:List (Addr×Obj))(D:hG)(f:Flow)(s':Shared):Prop :=
 match f with
 | .next=>∃ σ' H',au X pins σ' H' s'/\D.nx σ' H'
 | .brk=>∃ σ' H',au X pins σ' H' s'/\D.bk σ' H'
 | .cont=>∃ σ' H',au X pins σ' H' s'/\D.ct σ' H'
 | .ret u=>∃ v σ' H',au X pins σ' H' s'/\aY v u/\D.rt v H'
def PE (X:Cx)(e:Expr)(t:TE):Prop :=
 ∀ (pins:List (Addr×Obj))(s:Shared)(σ:St)(H:Hp)(Q:VK),au X pins σ H s->t σ H Q->wpAny (model X.prog X.w) X.A (eval e X.env) (EP X pins σ Q) X.xe s
def PT (X:Cx)(e:Expr)(t:TT):Prop :=
 ∀ (pins:List (Addr×Obj))(s:Shared)(σ:St)(H:Hp)(Q:Bool->Hp->Prop),au X pins σ H s->t σ H Q->wpAny (model X.prog X.w) X.A (isTrue e X.env (eval e X.env)) (TP X pins σ Q) X.xe s
def PW (X:Cx)(e:Expr)(t:TT):Prop :=
 ∀ (whole:Sem Value)(pins:List (Addr×Obj))(s:Shared)(σ:St)(H:Hp)(Q:Bool->Hp->Prop),au X pins σ H s->t σ H Q->wpAny (model X.prog X.w) X.A (isTrue e X.env whole) (TP X pins σ Q) X.xe s
theorem PW.pt {X:Cx}{e:Expr}{t:TT}(h:PW X e t):PT X e t:=h _
def PA (X:Cx)(es:List Expr)(t:TA):Prop :=
 ∀ (pos:Pos)(pins:List (Addr×Obj))(s:Shared)(σ:St)(H:Hp)(Q:List V->Hp->Prop),au X pins σ H s->t σ H Q->wpAny (model X.prog X.w) X.A (spliced (backTo pos (starEach es X.env))) (AP X pins σ Q) X.xe s
def PS (X:Cx)(st:Stmt)(t:TS):Prop :=
 ∀ (pins:List (Addr×Obj))(s:Shared)(σ:St)(H:Hp)(D:hG),au X pins σ H s->t D σ H->wpAny (model X.prog X.w) X.A (exec st X.env) (SP X pins D) X.xe s
def vk (X:Cx)(st:List Stmt)(t:TS):Prop :=
 ∀ (pins:List (Addr×Obj))(s:Shared)(σ:St)(H:Hp)(D:hG),au X pins σ H s->t D σ H->wpAny (model X.prog X.w) X.A (execs st X.env) (SP X pins D) X.xe s
theorem bx {α:Type}{t:Sem α}{Q Q':α->Shared->Prop}{M:Model}{A:Around}{E:Value->Shared->Prop}{s:Shared}(h:wpAny M A t Q E s)(hQ:∀ a s,Q a s->Q' a s):wpAny M A t Q' E s:=IS h hQ fun _ _ x=>x
section
variable {X:Cx}
inductive TV (i:Nat) (σ:St) (H:Hp) (Q:VK):Prop
 | mk (v:V) (e:σ[i]? = some (some v)) (h:Q v H):TV i σ H Q
def DI (i:Nat):TE:=fun σ H Q=>TV i σ H Q
def tC (v:V):TE:=fun _ H Q=>Q v H
theorem BL {i:Nat}{x:Str}{pos:Pos}(hN:X.N[i]? = some x)(hv:GJ X.env.scope x)(hd:(x == ("__debug__" : Str))=false:=by decide)(hcd:(x == ("__classdict__" : Str))=false:=by decide):PE X (.Name x pos) (DI i):=by
 intro pins s σ H Q I h;obtain⟨v,e,h⟩:=h;obtain⟨m,hn,hl⟩:=I.loc;obtain⟨u,r,l⟩:=hl i x v hN e hv;have fin:EP X pins σ Q u s:=⟨v,H,I,r,h⟩;rcases l with ⟨hk,hm⟩ | ⟨hk,c,hc,hcell⟩
 ·exact wpAny_Name (wpAny_loadName_local I.ok.kind hk hn hm fin) hd
 ·rcases hk with hk | hk
  ·exact wpAny_Name (wpAny_loadName_cell I.ok.kind hk hc hcell fin) hd
  ·exact wpAny_Name (wpAny_loadName_free I.ok.kind hk hc hcell fin hcd) hd
theorem am {i j pos}:PE X (.Constant (.int i) j pos) (tC (.int i)):=fun _ _ _ H _ I h=>wpAny_Constant_int ⟨.int i,H,I.tok _,⟨_,rfl⟩,h⟩
theorem iF {b j pos}:PE X (.Constant (.bool b) j pos) (tC (.bl b)):=fun _ _ _ H _ I h=>Constant_bool ⟨.bl b,H,I,rfl,h⟩
theorem eX {j pos}:PE X (.Constant .none j pos) (tC .non):=fun _ _ _ H _ I h=>Constant_none ⟨.non,H,I,rfl,h⟩
theorem aO {x j pos}:PE X (.Constant (.str x) j pos) (tC (.str x)):=fun _ _ _ H _ I h=>Calls.Constant_str ⟨.str x,H,I.tok _,⟨_,rfl⟩,h⟩
def Gl (X:Cx)(x:Str):Prop:=X.env.kindOf x=some .globalImplicit
theorem fJ {E:Value->Shared->Prop}{pins:List (Addr×Obj)}{s:Shared}{σ:St}{H:Hp}{x:Str}{u:Value}{pos:Pos}{Q:Value->Shared->Prop}(I:au X pins σ H s)(hg:Gl X x)(hm:X.mg x=some u)(h:Q u s)
  (hd:(x == ("__debug__" : Str))=false:=by decide):wpAny (model X.prog X.w) X.A (eval (.Name x pos) X.env) Q E s :=
 Calls.Name_function_global I.ok.kind hg (Calls.loadGlobal_global (by rw[I.ok.glob];exact I.mod.glob.keeps I.bk) hm h) hd
theorem oj {E:Value->Shared->Prop}{pins:List (Addr×Obj)}{s:Shared}{σ:St}{H:Hp}{x:Str}{u:Value}{pos:Pos}{Q:Value->Shared->Prop}(I:au X pins σ H s)(hg:Gl X x)(hm:X.mg x=none)(hv:bootBuiltins x=some u)(h:Q u s)
  (hn:x≠"__name__":=by decide) (hd:(x == ("__debug__" : Str))=false:=by decide):wpAny (model X.prog X.w) X.A (eval (.Name x pos) X.env) Q E s:=by
 obtain⟨mb,h1,h2⟩:=I.mod.blt;exact Calls.Name_function_global I.ok.kind hg (Calls.loadGlobal_builtin (by rw[I.ok.glob];exact I.mod.glob.keeps I.bk) hm (by rw[I.ok.blt];exact h1.keeps I.bk) ((h2 x hn).trans hv) h) hd
theorem Dr {x:Str}{v:V}{u:Value}{pos:Pos}(hg:Gl X x)(hm:X.mg x=none)(hv:bootBuiltins x=some u)(r:aY v u)(hn:x≠"__name__":=by decide)(hd:(x == ("__debug__" : Str))=false:=by decide):PE X (.Name x pos) (tC v) :=
 fun _ _ _ H _ I h=>oj I hg hm hv ⟨v,H,I,r,h⟩ hn hd
variable {a b:Expr}{ta tb:TE}{pos:Pos}
def PC (X:Cx)(op:CmpOp)(a b:Expr)(t:TE):Prop :=
 ∀ (pins:List (Addr×Obj))(s:Shared)(σ:St)(H:Hp)(Q:VK),au X pins σ H s->t σ H Q ->
  wpAny (model X.prog X.w) X.A (eval a X.env) (fun v s₁=>wpAny (model X.prog X.w) X.A (eval b X.env) (fun u s₂=>wpAny (model X.prog X.w) X.A (compareOp op v u) (EP X pins σ Q) X.xe s₂) X.xe s₁) X.xe s
theorem wf (b:Expr){op:CmpOp}(h:op≠.In)(h2:op≠.NotIn):behindInMarks op b=false:=by
 have e1:(op == CmpOp.In)=false:=by cases op<;>first | rfl | exact absurd rfl h
 have e2:(op == CmpOp.NotIn)=false:=by cases op<;>first | rfl | exact absurd rfl h2
 cases b<;>simp[behindInMarks,e1,e2]
def Hm (ta:TE):TE:=fun σ H Q=>ta σ H fun x H1=>Q (.bl (decide (x=.non))) H1
def Gx (ta:TE):TE:=fun σ H Q=>ta σ H fun x H1=>Q (.bl (!decide (x=.non))) H1
theorem aY.none_iff {x:V}{v:Value}(r:aY x v):(v == Value.none)=decide (x=.non):=by
 cases x with
 | non=>cases r;rfl
 | bl _=>cases r;rfl
 | int _=>obtain⟨t,rfl⟩:=r;rfl
 | str _=>obtain⟨t,rfl⟩:=r;rfl
 | byt _=>obtain⟨t,rfl⟩:=r;rfl
 | flt _=>obtain⟨t,rfl⟩:=r;rfl
 | ref _=>cases r;rfl
 | ty _=>cases r;rfl
theorem EV {j pos'}(ha:PE X a ta):PC X .Is a (.Constant .none j pos') (Hm ta):=by
 intro pins s σ H Q I h;refine bx (ha pins s σ H _ I h) fun v s1 ⟨x,H1,I1,r1,q1⟩=>?_;exact Constant_none (is_none_gen ⟨.bl _,H1,I1,by rw[r1.none_iff];rfl,q1⟩)
theorem Dq {j pos'}(ha:PE X a ta):PC X .IsNot a (.Constant .none j pos') (Gx ta):=by
 intro pins s σ H Q I h;refine bx (ha pins s σ H _ I h) fun v s1 ⟨x,H1,I1,r1,q1⟩=>?_;exact Constant_none (isnot_none_gen ⟨.bl _,H1,I1,by rw[r1.none_iff];rfl,q1⟩)
inductive GU (Q:Bool->Hp->Prop) (x:V) (H:Hp):Prop
 | mk (c:Bool) (e:x=.bl c) (h:Q c H):GU Q x H
def tB (t:TE):TT:=fun σ H Q=>t σ H fun x H1=>GU Q x H1
theorem x8 {op:CmpOp}{t:TE}(h:PC X op a b t)(h1:behindInMarks op b=false:=by first | exact wf _ (by decide) (by decide) | rfl):PE X (.Compare a [op] [b] pos) t:=fun pins s σ H Q I hw=>wpAny_Compare1 (h pins s σ H Q I hw) h1
theorem gi {op:CmpOp}{t:TE}(h:PC X op a b t)(h1:behindInMarks op b=false:=by first | exact wf _ (by decide) (by decide) | rfl):PT X (.Compare a [op] [b] pos) (tB t):=by
 intro pins s σ H Q I hw;refine wpAny_isTrue_Compare1 (bx (h pins s σ H _ I hw) fun v s1 h1=>bx h1 fun u s2 h2=>bx h2 fun c s3 ⟨x,H1,I1,r1,q1⟩=>?_) h1;obtain⟨d,rfl,q⟩:=q1;cases r1;exact Kh ⟨H1,I1,q⟩
theorem oG {e:Expr}{t:TE}(h:PE X e t)(he:∀ whole,isTrue e X.env whole=(do let v <-whole;standAt e.pos;holding [v] (truthy v)):=by intro _;rfl):PT X e (tB t):=by
 intro pins s σ H Q I hw;refine isTrue_plain (bx (h pins s σ H _ I hw) fun v s1 ⟨x,H1,I1,r1,q1⟩=>?_) (he _);obtain⟨d,rfl,q⟩:=q1;cases r1;exact Kh ⟨H1,I1,q⟩
variable {tA tB':TT}{rest:List Expr}
def Hh (t u:TT):TT:=fun σ H Q=>t σ H fun c H1=>if c=true then u σ H1 Q else Q false H1
def Ie (t u:TT):TT:=fun σ H Q=>t σ H fun c H1=>if c=true then Q true H1 else u σ H1 Q
def Ho (t:TT):TT:=fun σ H Q=>t σ H fun c H1=>Q (!c) H1
theorem fK (ha:PT X a tA):PW X (.BoolOp .And [a] pos) tA:=by
 intro wh pins s σ H Q I h;refine isTrue_and (bx (ha pins s σ H Q I h) fun c s1 e=>?_)
 cases c with
 | true=>exact isTrue_and_nil e
 | false=>exact e
theorem jN (ha:PT X a tA):PW X (.BoolOp .Or [a] pos) tA:=by
 intro wh pins s σ H Q I h;refine isTrue_or (bx (ha pins s σ H Q I h) fun c s1 e=>?_)
 cases c with
 | false=>exact isTrue_or_nil e
 | true=>exact e
theorem gj (ha:PT X a tA)(hb:PW X (.BoolOp .And (b::rest) pos) tB'):PW X (.BoolOp .And (a::b::rest) pos) (Hh tA tB'):=by
 intro wh pins s σ H Q I h;refine isTrue_and (bx (ha pins s σ H _ I h) fun c s1 ⟨H1,I1,q1⟩=>?_)
 cases c with
 | true=>exact hb wh pins s1 σ H1 Q I1 q1
 | false=>exact⟨H1,I1,q1⟩
theorem jM (ha:PT X a tA)(hb:PW X (.BoolOp .Or (b::rest) pos) tB'):PW X (.BoolOp .Or (a::b::rest) pos) (Ie tA tB'):=by
 intro wh pins s σ H Q I h;refine isTrue_or (bx (ha pins s σ H _ I h) fun c s1 ⟨H1,I1,q1⟩=>?_)
 cases c with
 | true=>exact⟨H1,I1,q1⟩
 | false=>exact hb wh pins s1 σ H1 Q I1 q1
theorem yb (ha:PT X a tA):PT X (.UnaryOp .Not a pos) (Ho tA):=by
 intro pins s σ H Q I h;exact isTrue_not (ha pins s σ H (fun c H1=>Q (!c) H1) I h)
def Gq (ta tb:TE):TE:=fun σ H Q=>ta σ H fun x H1=>∃ c,x=.bl c/\if c=true then tb σ H1 Q else Q (.bl false) H1
theorem BJ {op}{t:TE}(h:PE X a t):PE X (.BoolOp op [a] pos) t:=fun pins s σ H Q I hw=>BoolOp_one (h pins s σ H Q I hw)
theorem BC (ha:PE X a ta)(hb:PE X (.BoolOp .And (b::rest) pos) tb):PE X (.BoolOp .And (a::b::rest) pos) (Gq ta tb):=by
 intro pins s σ H Q I h;refine BoolOp_and (bx (ha pins s σ H _ I h) fun v s1 ⟨x,H1,I1,r1,q1⟩=>?_);obtain⟨c,rfl,q1⟩:=q1;cases r1;refine Kh ?_
 cases c with
 | true=>exact hb pins s1 σ H1 Q I1 q1
 | false=>exact⟨.bl false,H1,I1,rfl,q1⟩
end
def bF (K:PySem.W.Frag)(H:Hp)(a:Addr)(xs:List V):Prop :=
 Rd H a (.lst xs) \/
  ∃ (o:Obj)(its:Array Value)(n:Nat),K.lookup a=some o/\o.cls=.type "list"/\o.dict=none/\o.data=.seq its n/\its.size<=sizeLine/\bh xs its.toList
def c6 (K:PySem.W.Frag)(H:Hp)(a:Addr)(xs:List V):Prop :=
 Rd H a (.tup xs) \/
  ∃ (o:Obj)(its:Array Value)(n:Nat),K.lookup a=some o/\o.cls=.type "tuple"/\o.data=.seq its n/\its.size<=sizeLine/\bh xs its.toList
def GY:Value->Option V
 | .none=>some .non
 | .bool b=>some (.bl b)
 | .int i _=>some (.int i)
 | .str x _=>some (.str x)
 | .bytes b _=>some (.byt b)
 | .float b _=>some (.flt b)
 | .ref a=>some (.ref a)
 | .type n=>some (.ty n)
 | _=>none
theorem aY.abs {x:V}{u:Value}(r:aY x u):GY u=some x:=by
 cases x with
 | non=>cases r;rfl
 | bl _=>cases r;rfl
 | int _=>obtain⟨t,rfl⟩:=r;rfl
 | str _=>obtain⟨t,rfl⟩:=r;rfl
 | byt _=>obtain⟨t,rfl⟩:=r;rfl
 | flt _=>obtain⟨t,rfl⟩:=r;rfl
 | ref _=>cases r;rfl
 | ty _=>cases r;rfl
theorem aY.inj {x y:V}{u:Value}(r:aY x u)(q:aY y u):x=y:=Iy (r.abs.symm.trans q.abs)
theorem bh.inj:∀ {xs ys:List V}{us:List Value},bh xs us->bh ys us->xs=ys
 | _,_,_,.nil,.nil=>rfl
 | _,_,_,.cons r t,.cons r' t'=>by rw[r.inj r',bh.inj t t']
section
variable {X:Cx}{pins:List (Addr×Obj)}{σ:St}{H:Hp}{s:Shared}{a:Addr}{xs ys:List V}
theorem bF.of {K:PySem.W.Frag}(h:H a=some (.lst xs)):bF K H a xs:=.inl (.inl h)
theorem c6.of {K:PySem.W.Frag}(h:H a=some (.tup xs)):c6 K H a xs:=.inl (.inl h)
theorem au.list (I:au X pins σ H s)(h:bF X.K H a xs):∃ its:List Value,bh xs its/\PlainL s.heap a its.toArray/\xs.length<=sizeLine:=by
 rcases h with h | ⟨o,its,n,hk,hc,hd,hs,hz,r⟩
 ·obtain⟨z,its,n,r,e⟩:=h.ok I.hok
  exact⟨its,r,⟨_,n,e,rfl,rfl,rfl⟩,z⟩
 ·refine⟨its.toList,r,⟨o,n,I.kIn a o hk,hc,hd,by simpa using hs⟩,?_⟩
  have e:=r.length;simp only[IU]at e;omega
theorem au.tuple (I:au X pins σ H s)(h:c6 X.K H a xs):∃ its:List Value,bh xs its/\IsTup s.heap a its.toArray/\xs.length<=sizeLine:=by
 rcases h with h | ⟨o,its,n,hk,hc,hs,hz,r⟩
 ·obtain⟨z,its,r,p⟩:=h.ok I.hok
  exact⟨its,r,p,z⟩
 ·refine⟨its.toList,r,⟨o,I.kIn a o hk,hc,n,by simpa using hs⟩,?_⟩
  have e:=r.length;simp only[IU]at e;omega
theorem au.list_inj (I:au X pins σ H s)(h:bF X.K H a xs)(h':bF X.K H a ys):xs=ys:=by
 obtain⟨its,r,⟨o,n,e,_,_,d⟩,_⟩:=I.list h;obtain⟨its',r',⟨o',n',e',_,_,d'⟩,_⟩:=I.list h';rw[e]at e';cases e';rw[d]at d';injection d' with d1 _
 have:its=its':=by simpa using Jk Array.toList d1
 subst this;exact r.inj r'
theorem au.tuple_inj (I:au X pins σ H s)(h:c6 X.K H a xs)(h':c6 X.K H a ys):xs=ys:=by
 obtain⟨its,r,⟨o,e,_,n,d⟩,_⟩:=I.tuple h;obtain⟨its',r',⟨o',e',_,n',d'⟩,_⟩:=I.tuple h';rw[e]at e';cases e';rw[d]at d';injection d' with d1 _
 have:its=its':=by simpa using Jk Array.toList d1
 subst this;exact r.inj r'
end
abbrev Cx.wish (X:Cx)(E:Value->Shared->Prop):Cx:={ X with xe:=E }
abbrev Cx.nox (X:Cx):Cx:=X.wish fun _ _=>False
theorem Cx.Ok.wish {X:Cx}(ok:X.Ok)(E:Value->Shared->Prop):(X.wish E).Ok :=
 ⟨ok.mod,ok.kind,ok.glob,ok.blt,ok.above,ok.inj,ok.has,ok.cab,ok.hd,ok.frames,ok.stk,ok.exf,ok.bs,ok.bsz,ok.noex,ok.exfs,ok.funs,ok.frf⟩
theorem Cx.Ok.unwish {X:Cx}{E:Value->Shared->Prop}(ok:(X.wish E).Ok):X.Ok :=
 ⟨ok.mod,ok.kind,ok.glob,ok.blt,ok.above,ok.inj,ok.has,ok.cab,ok.hd,ok.frames,ok.stk,ok.exf,ok.bs,ok.bsz,ok.noex,ok.exfs,ok.funs,ok.frf⟩
section
variable {X:Cx}{pins:List (Addr×Obj)}{σ:St}{H:Hp}{s:Shared}{E:Value->Shared->Prop}
theorem au.wish (I:au X pins σ H s)(E:Value->Shared->Prop):au (X.wish E) pins σ H s:=⟨I.ok.wish E,I.os,I.bare,I.base,I.loc,I.cell,I.free,I.freeC,I.pin,I.hok,I.len⟩
theorem au.unwish (I:au (X.wish E) pins σ H s):au X pins σ H s:=⟨I.ok.unwish,I.os,I.bare,I.base,I.loc,I.cell,I.free,I.freeC,I.pin,I.hok,I.len⟩
theorem SP.unwish {D:hG}{f:Flow}{s':Shared}(h:SP (X.wish E) pins D f s'):SP X pins D f s':=by
 cases f with
 | next=>obtain⟨σ',H',I,q⟩:=h;exact⟨σ',H',I.unwish,q⟩
 | brk=>obtain⟨σ',H',I,q⟩:=h;exact⟨σ',H',I.unwish,q⟩
 | cont=>obtain⟨σ',H',I,q⟩:=h;exact⟨σ',H',I.unwish,q⟩
 | ret u=>obtain⟨v,σ',H',I,r,q⟩:=h;exact⟨v,σ',H',I.unwish,r,q⟩
theorem vk.nox {st:List Stmt}{t:TS}(h:vk X.nox st t):vk X st t:=fun pins s σ H D I hw =>
 IS (h pins s σ H D (I.wish _) hw) (fun _ _ q=>q.unwish) fun _ _ z=>False.elim z
end
section
variable {X:Cx}{st:Stmt}{rest:List Stmt}{t u:TS}{e:Expr}{te:TE}{pos:Pos}
def Gw:TS:=fun D σ H=>D.nx σ H
def Hr (t u:TS):TS:=fun D σ H=>t { D with nx:=u D } σ H
theorem aM:vk X [] Gw:=fun _ _ σ H _ I h=>Kz ⟨σ,H,I,h⟩
theorem ah (h1:PS X st t)(h2:vk X rest u):vk X (st::rest) (Hr t u):=by
 intro pins s σ H D I h;refine wpAny_execs_cons (bx (h1 pins s σ H { D with nx:=u D } I h) fun f s1 q=>?_)
 cases f with
 | next =>
  obtain⟨σ',H',I',q⟩:=q;exact h2 pins s1 σ' H' D I' q
 | ret v=>exact q
 | brk=>exact q
 | cont=>exact q
theorem aj (h1:PS X st t):vk X [st] t:=by
 intro pins s σ H D I h;refine wpAny_execs_cons (bx (h1 pins s σ H D I h) fun f s1 q=>?_)
 cases f with
 | next=>exact Kz q
 | ret v=>exact q
 | brk=>exact q
 | cont=>exact q
theorem au.quiet {pins:List (Addr×Obj)}{σ:St}{H:Hp}{s:Shared}(I:au X pins σ H s):interactive X.env=false:=by simp[interactive,I.ok.kind]
def Gv (te:TE):TS:=fun D σ H=>te σ H fun _ H1=>D.nx σ H1
theorem a6 (he:PE X e te)(hs:swapsWith e none pos.line X.env=pure false:=by rfl):PS X (.Expr e pos) (Gv te):=by
 intro pins s σ H D I h;exact wpAny_Expr_any (bx (he pins s σ H _ I h) fun v s1 ⟨x,H1,I1,r1,q1⟩=>⟨σ,H1,I1,q1⟩) I.quiet hs
def Hq (te:TE):TS:=fun D σ H=>te σ H D.rt
theorem ax (he:PE X e te):PS X (.Return (some e) pos) (Hq te):=by
 intro pins s σ H D I h;exact wpAny_Return_some (bx (he pins s σ H _ I h) fun v s1 ⟨x,H1,I1,r1,q1⟩=>⟨x,σ,H1,I1,r1,q1⟩)
def Hl (c:TT)(t u:TS):TS:=fun D σ H=>c σ H fun b H1=>if b=true then t D σ H1 else u D σ H1
theorem br {c:Expr}{a b:List Stmt}{tc:TT}(hc:PT X c tc)(ha:vk X a t)(hb:vk X b u):PS X (.If c a b pos) (Hl tc t u):=by
 intro pins s σ H D I h;refine wpAny_If (bx (hc pins s σ H _ I h) fun d s1 ⟨H1,I1,q1⟩=>?_)
 cases d with
 | true=>exact ha pins s1 σ H1 D I1 q1
 | false=>exact hb pins s1 σ H1 D I1 q1
end
abbrev TG:=V->St->Hp->(St->Hp->Prop)->Prop
abbrev CA:=List V->St->Hp->(St->Hp->Prop)->Prop
def PG (X:Cx)(target:Expr)(t:TG):Prop :=
 ∀ (pins:List (Addr×Obj))(s:Shared)(σ:St)(H:Hp)(v:V)(u:Value)(Q:St->Hp->Prop),au X pins σ H s->aY v u->t v σ H Q ->
  wpAny (model X.prog X.w) X.A (assign target X.env u) (fun _ s'=>∃ σ' H',au X pins σ' H' s'/\Q σ' H') X.xe s
def FV (X:Cx)(ts:List Expr)(t:CA):Prop :=
 ∀ (pins:List (Addr×Obj))(s:Shared)(σ:St)(H:Hp)(vs:List V)(us:List Value)(Q:St->Hp->Prop),au X pins σ H s->bh vs us->t vs σ H Q ->
  wpAny (model X.prog X.w) X.A (assignInOrder ((assignEach ts X.env).map (·.2)) us) (fun _ s'=>∃ σ' H',au X pins σ' H' s'/\Q σ' H') X.xe s
section
variable {X:Cx}{pos:Pos}
def qI (i:Nat):TG:=fun v σ H Q=>Q (σ.set i (some v)) H
theorem mL {i:Nat}{x:Str}(hN:X.N.Nodup)(hi:X.N[i]? = some x)(hx:DS X.env.scope x)(hf:X.fn x=true\/X.env.scope.names.lookup x=some .local:=by first | exact .inl rfl | exact .inr rfl | assumption):PG X (.Name x pos) (qI i):=by
 intro pins s σ H v u Q I r h;exact wpAny_assign_Name (ny I hN hi hx r (fun s' I'=>⟨_,H,I',h⟩) hf)
def F0:CA:=fun vs σ H Q=>vs=[]/\Q σ H
inductive GC (t:TG) (u:CA) (vs:List V) (σ:St) (H:Hp) (Q:St->Hp->Prop):Prop
 | mk (v:V) (r:List V) (e:vs=v::r) (h:t v σ H fun σ' H'=>u r σ' H' Q):GC t u vs σ H Q
def A7 (t:TG)(u:CA):CA:=fun vs σ H Q=>GC t u vs σ H Q
theorem dR:FV X [] F0:=by
 intro pins s σ H vs us Q I r h;obtain⟨e,h⟩:=h;subst e;cases r;exact assignInOrder_nil ⟨σ,H,I,h⟩
theorem bf {e:Expr}{es:List Expr}{t:TG}{u:CA}(h1:PG X e t)(h2:FV X es u)
  (hs:(assignEach (e::es) X.env).map (·.2)=assign e X.env::(assignEach es X.env).map (·.2):=by rfl):FV X (e::es) (A7 t u):=by
 intro pins s σ H vs us Q I r h;obtain⟨v,vr,e1,h⟩:=h;subst e1
 cases r with
 | cons r rr =>
  rw[hs];refine assignInOrder_cons (bx (h1 pins s σ H _ _ _ I r h) fun _ s1 ⟨σ1,H1,I1,q1⟩=>?_);exact h2 pins s1 σ1 H1 _ _ Q I1 rr q1
inductive GT (K:PySem.W.Frag) (n:Nat) (t:CA) (v:V) (σ:St) (H:Hp) (Q:St->Hp->Prop):Prop
 | mk (a:Addr) (xs:List V) (e:v=.ref a) (q:c6 K H a xs) (l:xs.length=n) (h:t xs σ H Q):GT K n t v σ H Q
def EA (K:PySem.W.Frag)(n:Nat)(t:CA):TG:=fun v σ H Q=>GT K n t v σ H Q
theorem gf {es:List Expr}{k:Nat}{t:CA}{n:Nat}(hc:X.calm=true)(h:FV X es t)
  (hn:(assignEach es X.env).length=n:=by rfl) (hst:(assignEach es X.env).findIdx? (·.1)=none:=by rfl):PG X (.Tuple es k pos) (EA X.K n t):=by
 intro pins s σ H v u Q I r hw;obtain⟨a,xs,e1,hq,hl,hw⟩:=hw;subst e1;cases r;obtain⟨its,rv,ht,hz⟩:=I.tuple hq;refine assign_Tuple_tuple (I.ok.hd hc) ht (by simp[hn,<-hl,rv.length]) hst fun h' hx=>?_;have I1:au X pins σ H { s with heap:=h' }:=I.kept (t':=s.toks) fun b o e=>hx b o (IC (IA e)) e;exact h pins _ σ H xs _ Q I1 (by simpa using rv) hw
def Fm (te:TE)(g:TG):TS:=fun D σ H=>te σ H fun x H1=>g x σ H1 D.nx
theorem E4 {tg e:Expr}{te:TE}{g:TG}(he:PE X e te)(hg:PG X tg g)(hs:swapsWithSole [tg] e pos.line X.env=pure false:=by rfl)(hw:swappedStores [tg] e X.env=pure none:=by rfl)
  (h1:(assignEach [tg] X.env).map (·.2)=[assign tg X.env]:=by rfl):PS X (.Assign [tg] e pos) (Fm te g):=by
 intro pins s σ H D I h;refine wpAny_Assign_stores (bx (he pins s σ H _ I h) fun v s1 ⟨x,H1,I1,r1,q1⟩=>?_) hs hw;rw[h1];exact bx (hg pins s1 σ H1 x v _ I1 r1 q1) fun _ s2 q=>q
theorem dM {i:Nat}{x:Str}{e:Expr}{te:TE}{pos':Pos}(hN:X.N.Nodup)(hi:X.N[i]? = some x)(hx:DS X.env.scope x)(he:PE X e te)(hs:swapsWith e (some (.Name x pos')) pos.line X.env=pure false:=by rfl)(hf:X.fn x=true\/X.env.scope.names.lookup x=some .local:=by first | exact .inl rfl | exact .inr rfl | assumption) :
  PS X (.Assign [.Name x pos'] e pos) (Fm te (qI i)):=by
 intro pins s σ H D I h;refine wpAny_Assign_Name (bx (he pins s σ H _ I h) fun v s1 ⟨y,H1,I1,r1,q1⟩=>?_) hs;exact ny I1 hN hi hx r1 (fun s2 I2=>⟨_,H1,I2,q1⟩) hf
end
section
variable {X:Cx}{pos:Pos}
end
structure It where
 go:Nat->Hp->Prop
 yld:Nat->Hp->V->Hp->Prop
 stop:Nat->Hp->Prop
def fT (X:Cx)(pins:List (Addr×Obj))(H:Hp)(b:Addr):Prop :=
 H b=none/\b≠X.env.locals/\b∉X.fs/\(b∈X.ex\/X.s₀.heap.objs.size<=b)/\(∀ x c,X.env.cells.lookup x=some c->c≠b)/\∀ p∈X.pn++pins,p.1≠b
theorem au.fpOk {X:Cx}{pins:List (Addr×Obj)}{σ:St}{H H':Hp}{s:Shared}{b:Addr}(I:au X pins σ H s)(hb:s.heap.objs.size<=b)(hn:H' b=none):fT X pins H' b:=by
 refine⟨hn,Nat.ne_of_gt (IQ I.lt hb),I.nofs hb,.inr (Jb I.sz hb),fun x c e z=>?_,fun p hp z=>?_⟩
 ·obtain⟨v,q⟩:=I.cell x c e
  exact absurd (IQ q.lt (by rw[z];exact hb)) (Kw _)
 ·exact absurd (IQ (IA (I.pin p hp).1) (by rw[z];exact hb)) (Kw _)
structure t8 (P:Program)(w:World)(K:PySem.W.Frag)(tg:Expr)(J:It)(fp:List Addr)(it:Addr)(tn:Nat->Heap->Prop):Prop where
 mem:it∈fp
 obj:∀ i h,tn i h->∀ b∈fp,∃ o,h.get? b=some o/\∀ v,o.data≠.cell v
 keep:∀ i h h',tn i h->(∀ b∈fp,∀ o,h.get? b=some o->h'.get? b=some o)->tn i h'
 item:∀ (X:Cx),X.prog=P->X.w=w->X.K=K->X.calm=true->∀ (i:Nat)(pins:List (Addr×Obj))(s:Shared)(σ:St)(H:Hp)(E:Value->Shared->Prop),au X pins σ H s->(∀ b∈fp,fT X pins H b)->tn i s.heap->J.go i H ->
  wpAny (model P w) X.A (pyNext (.ref it)) (fun r s1=>∃ u,r=some u /\
   wpAny (model P w) X.A (letOwnedTupleGo tg (.ref it) u) (fun _ s2=>∃ x H',au X pins σ H' s2/\aY x u/\J.yld i H x H'/\tn (i+1) s2.heap/\∀ b∈fp,H' b=none) E s1) E s
 done:∀ (X:Cx),X.prog=P->X.w=w->X.K=K->X.calm=true->∀ (i:Nat)(pins:List (Addr×Obj))(s:Shared)(σ:St)(H:Hp)(E:Value->Shared->Prop),au X pins σ H s->(∀ b∈fp,fT X pins H b)->tn i s.heap->J.stop i H ->
  wpAny (model P w) X.A (pyNext (.ref it)) (fun r s1=>r=none/\au X pins σ H s1) E s
 self:∀ (A:Around)(i:Nat)(s:Shared)(Q:Value->Shared->Prop)(E:Value->Shared->Prop),tn i s.heap->Q (.ref it) s->wpAny (model P w) A (pyIter (.ref it)) Q E s
abbrev TI:=St->Hp->(It->Hp->Prop)->Prop
def Hw (X:Cx)(pins:List (Addr×Obj))(σ:St)(tg:Expr)(R:It->Hp->Prop)(itv:Value)(s2:Shared):Prop :=
 ∃ (it:Addr)(fp:List Addr)(tn:Nat->Heap->Prop)(J:It)(H':Hp),itv=.ref it/\au X pins σ H' s2/\t8 X.prog X.w X.K tg J fp it tn/\tn 0 s2.heap/\(∀ b∈fp,fT X pins H' b)/\R J H'
def PI (X:Cx)(tg iter:Expr)(wi:TI):Prop :=
 ∀ (pins:List (Addr×Obj))(s:Shared)(σ:St)(H:Hp)(R:It->Hp->Prop),au X pins σ H s->wi σ H R ->
  wpAny (model X.prog X.w) X.A (eval iter X.env) (fun v s1=>wpAny (model X.prog X.w) X.A (pyIter v) (Hw X pins σ tg R) X.xe s1) X.xe s
theorem yM {M:Model}{A:Around}{E:Value->Shared->Prop}{s:Shared}{tg:Expr}{it:Addr}{u:Value}{o:Obj}{n:String}{vs:Array Value}{Q:Unit->Shared->Prop}(ho:s.heap.get? it=some o)(hc:o.cls=.type n)(hd:o.data=.fields vs)
  (hn:["enumerate","zip","dict_itemiterator","dict_reverseitemiterator","odict_iterator","itertools.zip_longest","itertools.pairwise"].contains n=false) (hQ:Q () s):wpAny M A (letOwnedTupleGo tg (.ref it) u) Q E s:=by
 unfold letOwnedTupleGo
 cases tg<;>first
  | exact Iu hQ
  | (cases u<;>first
    | exact Iu hQ
    | (refine Io (wpAny_load ho ?_)
       rw[hc,hd]
       show wpAny M A (if (["enumerate","zip","dict_itemiterator","dict_reverseitemiterator","odict_iterator","itertools.zip_longest","itertools.pairwise"].contains n&&vs[0]? == some (rawInt _))=true then _ else _) Q E s
       rw[Ip (by intro h;rw[hn,Bool.false_and]at h;cases h)]
       exact Iu hQ))
def En (K:PySem.W.Frag)(a:Addr):It :=
 ⟨fun i H=>∃ xs x,bF K H a xs/\xs[i]? = some x,fun i H x H'=>H'=H/\∀ xs,bF K H a xs->xs[i]? = some x,fun i H=>∃ xs,bF K H a xs/\xs.length<=i⟩
def FS (K:PySem.W.Frag)(a:Addr):It :=
 ⟨fun i H=>∃ xs x,c6 K H a xs/\xs[i]? = some x,fun i H x H'=>H'=H/\∀ xs,c6 K H a xs->xs[i]? = some x,fun i H=>∃ xs,c6 K H a xs/\xs.length<=i⟩
def FJ (lo:Int)(n:Nat):It:=⟨fun i _=>i<n,fun i H x H'=>H'=H/\x=.int (lo+i),fun i _=>n<=i⟩
theorem AF {P:Program}{w:World}{K:PySem.W.Frag}{tg:Expr}(a it:Addr):t8 P w K tg (En K a) [it] it (fun i h=>h.IsListIter it a i) where
 mem:=by simp
 obj:=fun i h st b hb=>by
  have e:b=it:=by simpa using hb
  subst e;obtain⟨o,e,c,d⟩:=st;exact⟨o,e,fun v z=>by rw[d]at z;cases z⟩
 keep:=fun i h h' st k=>st.at fun o e=>k it (by simp) o e
 item:=by
  intro X hP hw hK hc i pins s σ H E I hf st hg;subst hP hw hK;obtain⟨xs,x,hq,hx⟩:=hg;obtain⟨its,rv,p,hz⟩:=I.list hq;obtain⟨u,hu,ru⟩:=rv.get hx;obtain⟨f0,f1,f2,f3,f4,f5⟩:=hf it (by simp);refine wpAny_pyNext_list_item st p.isList (x:=u) (by simpa using hu) fun h' st' sb=>?_;have I1:au X pins σ H { s with heap:=h' }:=I.turned (t':=s.toks) (fun b o hb e=>(sb.2 b hb).trans e) f0 f1 f3 f4 f5;obtain⟨o,e,c,d⟩:=id st';exact⟨u,rfl,yM (s:={ s with heap:=h' }) e c d (by decide) ⟨x,H,I1,ru,⟨rfl,fun ys hy=>by rw[I.list_inj hy hq];exact hx⟩,st',fun b hb=>(hf b hb).1⟩⟩
 done:=by
  intro X hP hw hK hc i pins s σ H E I hf st hg;subst hP hw hK;obtain⟨xs,hq,hx⟩:=hg;obtain⟨its,rv,p,hz⟩:=I.list hq;obtain⟨f0,f1,f2,f3,f4,f5⟩:=hf it (by simp);have hl:=rv.length;exact wpAny_pyNext_list_end (I.ok.hd hc) st p.isList (by simp;omega) fun h' eb=>⟨rfl,I.turned (t':=s.toks) (fun b o hb e=>eb b o hb e) f0 f1 f3 f4 f5⟩
 self:=fun _ _ _ _ _ st h=>wpAny_pyIter_listiter st h
theorem yr {P:Program}{w:World}{K:PySem.W.Frag}{tg:Expr}(a it:Addr):t8 P w K tg (FS K a) [it] it (fun i h=>h.IsTupleIter it a i) where
 mem:=by simp
 obj:=fun i h st b hb=>by
  have e:b=it:=by simpa using hb
  subst e;obtain⟨o,e,c,d⟩:=st;exact⟨o,e,fun v z=>by rw[d]at z;cases z⟩
 keep:=fun i h h' st k=>st.at fun o e=>k it (by simp) o e
 item:=by
  intro X hP hw hK hc i pins s σ H E I hf st hg;subst hP hw hK;obtain⟨xs,x,hq,hx⟩:=hg;obtain⟨its,rv,p,hz⟩:=I.tuple hq;obtain⟨u,hu,ru⟩:=rv.get hx;obtain⟨f0,f1,f2,f3,f4,f5⟩:=hf it (by simp);refine wpAny_pyNext_tuple_item st (show s.heap.IsTuple a its.toArray from p) (x:=u) (by simpa using hu) fun h' st' sb=>?_;have I1:au X pins σ H { s with heap:=h' }:=I.turned (t':=s.toks) (fun b o hb e=>(sb.2 b hb).trans e) f0 f1 f3 f4 f5;obtain⟨o,e,c,d⟩:=id st';exact⟨u,rfl,yM (s:={ s with heap:=h' }) e c d (by decide) ⟨x,H,I1,ru,⟨rfl,fun ys hy=>by rw[I.tuple_inj hy hq];exact hx⟩,st',fun b hb=>(hf b hb).1⟩⟩
 done:=by
  intro X hP hw hK hc i pins s σ H E I hf st hg;subst hP hw hK;obtain⟨xs,hq,hx⟩:=hg;obtain⟨its,rv,p,hz⟩:=I.tuple hq;obtain⟨f0,f1,f2,f3,f4,f5⟩:=hf it (by simp);have hl:=rv.length;exact wpAny_pyNext_tuple_end (I.ok.hd hc) st (show s.heap.IsTuple a its.toArray from p) (by simp;omega) fun h' eb=>⟨rfl,I.turned (t':=s.toks) (fun b o hb e=>eb b o hb e) f0 f1 f3 f4 f5⟩
 self:=fun _ _ _ _ _ st h=>wpAny_pyIter_tupleiter st h
theorem yq {P:Program}{w:World}{K:PySem.W.Frag}{tg:Expr}(it:Addr)(lo:Int)(n:Nat):t8 P w K tg (FJ lo n) [it] it (fun i h=>IsRangeIter h it (lo+(i:Nat)*1) ((n:Int)-(i:Nat)) 1) where
 mem:=by simp
 obj:=fun i h st b hb=>by
  have e:b=it:=by simpa using hb
  subst e
  exact⟨_,st,fun v z=>by
   have z':Data.fields _=Data.cell v:=z
   cases z'⟩
 keep:=fun i h h' st k=>k it (by simp) _ st
 item:=by
  intro X hP hw hK hc i pins s σ H E I hf st hg;subst hP hw hK;obtain⟨f0,f1,f2,f3,f4,f5⟩:=hf it (by simp);have W:=Walks.range (prog:=X.prog) (w:=X.w) (I.ok.hd hc) it lo 1 n;refine W.item i s _ _ hg st fun v h' tk hv st' kk=>?_;obtain⟨t,rfl⟩:=hv;have I1:au X pins σ H { s with heap:=h',toks:=tk }:=I.turned (fun b o hb e=>kk b o (by simpa using hb) e) f0 f1 f3 f4 f5;refine⟨_,rfl,yM (s:={ s with heap:=h',toks:=tk }) (n:="range_iterator") st' rfl rfl (by decide) ⟨.int (lo+i),H,I1,⟨t,?_⟩,⟨rfl,rfl⟩,st',fun b hb=>(hf b hb).1⟩⟩;rw[Int.mul_one]
 done:=by
  intro X hP hw hK hc i pins s σ H E I hf st hg;subst hP hw hK;obtain⟨f0,f1,f2,f3,f4,f5⟩:=hf it (by simp);exact wpAny_pyNext_range_end (I.ok.hd hc) st (by have:n<=i:=hg;omega) fun h' eb=>⟨rfl,I.turned (t':=s.toks) (fun b o hb e=>eb b o hb e) f0 f1 f3 f4 f5⟩
 self:=fun _ _ _ _ _ st h=>wpAny_pyIter_rangeiter st h
section
variable {X:Cx}{tg:Expr}
inductive Hu (K:PySem.W.Frag) (R:It->Hp->Prop) (x:V) (H:Hp):Prop
 | mk (a:Addr) (e:x=.ref a) (q:∃ xs,bF K H a xs) (h:R (En K a) H):Hu K R x H
def D2 (K:PySem.W.Frag)(tl:TE):TI:=fun σ H R=>tl σ H fun x H1=>Hu K R x H1
def G6 (K:PySem.W.Frag)(tl:TE):TI:=fun σ H R=>tl σ H fun x H1=>∃ a,x=.ref a/\(∃ xs,c6 K H1 a xs)/\R (FS K a) H1
theorem dj {l:Expr}{tl:TE}(hl:PE X l tl):PI X tg l (D2 X.K tl):=by
 intro pins s σ H R I h;refine bx (hl pins s σ H _ I h) fun v s1 ⟨x,H1,I1,r1,q1⟩=>?_;obtain⟨a,e,⟨xs,hq⟩,q⟩:=q1;subst e;cases r1;obtain⟨its,rv,p,hz⟩:=I1.list hq;refine KJ p.isList ?_;refine⟨s1.heap.objs.size,[s1.heap.objs.size],_,_,H1,rfl,I1.kept (t':=s1.toks) fun b o e=>Heap.get?_push_of_some _ e,AF a _,⟨_,Heap.get?_push_size _ rfl,rfl,rfl⟩,fun b hb=>?_,q⟩
 have e:b=s1.heap.objs.size:=by simpa using hb
 subst e;exact I1.fpOk (Iv _) (I1.hok.fresh (Iv _))
theorem EX {l:Expr}{tl:TE}(hl:PE X l tl):PI X tg l (G6 X.K tl):=by
 intro pins s σ H R I h;refine bx (hl pins s σ H _ I h) fun v s1 ⟨x,H1,I1,r1,q1⟩=>?_;obtain⟨a,e,⟨xs,hq⟩,q⟩:=q1;subst e;cases r1;obtain⟨its,rv,p,hz⟩:=I1.tuple hq;refine wpAny_pyIter_tuple (show s1.heap.IsTuple a its.toArray from p) ?_;refine⟨s1.heap.objs.size,[s1.heap.objs.size],_,_,H1,rfl,I1.kept (t':=s1.toks) fun b o e=>Heap.get?_push_of_some _ e,yr a _,⟨_,Heap.get?_push_size _ rfl,rfl,rfl⟩,fun b hb=>?_,q⟩
 have e:b=s1.heap.objs.size:=by simpa using hb
 subst e;exact I1.fpOk (Iv _) (I1.hok.fresh (Iv _))
theorem BU {pins:List (Addr×Obj)}{σ:St}{H:Hp}{s:Shared}{R:It->Hp->Prop}{E:Value->Shared->Prop}{lo hi:Int}{t u v:Tok}{tk:Nat}(I:au X pins σ H s)(h1 : -(2 ^ 62)<=lo)(h2:lo<2 ^ 62)(h3 : -(2 ^ 62)<=hi)(h4:hi<2 ^ 62)
  (q:R (FJ lo (hi-lo).toNat) H):wpAny (model X.prog X.w) X.A (pyIter (.ref s.heap.objs.size)) (Hw X pins σ tg R) E { s with heap:=s.heap.push { cls:=.type "range",data:=.fields #[.int lo t,.int hi u,.int 1 v] },toks:=tk }:=by
 refine wpAny_pyIter_range (IsRange.new ..) (small_one h1 h2 h3 h4) ?_;have I1:au X pins σ H { s with heap:=s.heap.push { cls:=.type "range",data:=.fields #[.int lo t,.int hi u,.int 1 v] },toks:=tk }:=I.kept fun b o e=>Heap.get?_push_of_some _ e
 refine⟨(s.heap.push { cls:=.type "range",data:=.fields #[.int lo t,.int hi u,.int 1 v] }).objs.size,[(s.heap.push { cls:=.type "range",data:=.fields #[.int lo t,.int hi u,.int 1 v] }).objs.size],_,_,H,rfl,
  I1.kept (t':=tk) fun b o e=>Heap.get?_push_of_some _ e,yq _ lo (hi-lo).toNat,?_,fun b hb=>?_,q⟩
 ·have e1:lo+((0:Nat):Int)*1=lo:=by simp
  have e2:(((hi-lo).toNat:Nat):Int)-((0:Nat):Int)=Builtin.Range.rangeSize lo hi 1:=by rw[rangeSize_one];split<;>omega
  show IsRangeIter _ _ (lo+((0:Nat):Int)*1) ((((hi-lo).toNat:Nat):Int)-((0:Nat):Int)) 1
  rw[e1,e2];exact Heap.get?_push_size _ rfl
 ·have e:b=(s.heap.push { cls:=.type "range",data:=.fields #[.int lo t,.int hi u,.int 1 v] }).objs.size:=by simpa using hb
  subst e;exact I1.fpOk (Iv _) (I1.hok.fresh (Iv _))
def F7 (ta:TA):TI:=fun σ H R=>ta σ H fun vs H1=>∃ j:Int,vs=[.int j]/\-(2 ^ 62)<=j/\j<2 ^ 62/\R (FJ 0 j.toNat) H1
theorem oF {a:Expr}{ta:TA}{p pos:Pos}(hg:Gl X "range")(hm:X.mg "range" = none)(ha:PA X [a] ta)(hs:starEach [a] X.env=[(false,eval a X.env)]:=by rfl):PI X tg (.Call (.Name "range" p) [a] [] pos) (F7 ta):=by
 intro pins s σ H R I h;refine Call_ (oj I hg hm boot_range (PyProof.Rows.callWith_type1 (bx (ha pos pins s σ H _ I h) fun us s1 ⟨vs,H1,I1,r1,q1⟩=>?_) hs rfl));obtain⟨j,e,q1,q2,q⟩:=q1;subst e
 cases r1 with
 | cons r rr =>
  cases rr;obtain⟨t,rfl⟩:=r;exact call_range_1 (BU I1 (by omega) (by omega) q1 q2 (by simpa using q))
def Hk (wi:TI)(g:TG)(tb:TS):TS:=fun D σ H=>wi σ H fun J H1=>∃ W:Nat->Nat->St->Hp->Prop,(∃ m,W 0 m σ H1)/\∀ i m σ H,W i m σ H ->
 (J.stop i H/\D.nx σ H)\/(J.go i H/\∃ N:St->Hp->Prop,(∀ σ' H',N σ' H'->∃ m',m'<m/\W (i+1) m' σ' H')/\∀ x H',J.yld i H x H'->g x σ H' fun σ2 H2=>tb { D with nx:=N,ct:=N,bk:=D.nx } σ2 H2)
def i8 (fp:List Addr)(h:Heap):List (Addr×Obj):=fp.filterMap fun b=>(h.get? b).map fun o=>(b,o)
theorem bU {fp:List Addr}{h:Heap}{b:Addr}{o:Obj}(hb:b∈fp)(e:h.get? b=some o):(b,o)∈i8 fp h:=List.mem_filterMap.mpr ⟨b,hb,by rw[e];rfl⟩
theorem Af {fp:List Addr}{h:Heap}{p:Addr×Obj}(hp:p∈i8 fp h):p.1∈fp/\h.get? p.1=some p.2:=by
 obtain⟨b,hb,e⟩:=List.mem_filterMap.mp hp
 cases q:h.get? b with
 | none=>rw[q]at e;cases e
 | some o =>
  rw[q]at e;have e':(b,o)=p:=Iy e;subst e';exact⟨hb,q⟩
theorem au.pinned {pins:List (Addr×Obj)}{σ:St}{H:Hp}{s:Shared}{fp:List Addr}(I:au X pins σ H s)(hf:∀ b∈fp,fT X pins H b)(ho:∀ b∈fp,∃ o,s.heap.get? b=some o/\∀ v,o.data≠.cell v):au X (pins++i8 fp s.heap) σ H s :=
 I.pins_of fun p hp=>(IP.mp hp).elim (fun z=>I.pin p (IF _ z)) fun z=>by
  obtain⟨hb,e⟩:=Af z;obtain⟨f0,f1,f2,_⟩:=hf p.1 hb;obtain⟨o,e',d⟩:=ho p.1 hb;rw[e]at e';cases e';exact⟨e,f0,f1,f2,d⟩
theorem au.unpinned {pins pl:List (Addr×Obj)}{σ:St}{H:Hp}{s:Shared}(I:au X (pins++pl) σ H s):au X pins σ H s:=I.pins_of fun p hp=>I.pin p (IF _ (JG _ hp))
theorem dL {iter:Expr}{body:List Stmt}{wi:TI}{g:TG}{tb:TS}{pos:Pos}(hp:PassesOwn (model X.prog X.w) X.A X.env X.xe)(hc:X.calm=true)(hi:PI X tg iter wi)(hg:PG X tg g)(hb:vk X body tb)
  (hs:∀ x,foldedSetIterable iter X.env x=pure x:=by intro _;rfl):PS X (.For tg iter body [] pos) (Hk wi g tb):=by
 intro pins s σ H D I h;refine wpAny_For (bx (hi pins s σ H _ I h) fun v s1 h1=>bx h1 fun itv s2 h2=>?_) hs;obtain⟨it,fp,tn,J,H2,e,I2,T,st2,f2,W,⟨m0,w0⟩,turn⟩:=h2;subst e;have stat:∀ {H':Hp},(∀ b∈fp,H' b=none)->∀ b∈fp,fT X pins H' b:=fun hn b hb=>⟨hn b hb,(f2 b hb).2⟩;refine codeAny_forLoop_any (fun n s'=>∃ i σ' H',au X pins σ' H' s'/\tn i s'.heap/\(∀ b∈fp,H' b=none)/\W i n σ' H') ?_ m0 ⟨0,σ,H2,I2,st2,fun b hb=>(f2 b hb).1,w0⟩;rintro n s3 ⟨i,σ3,H3,I3,st3,fr3,w3⟩;rcases turn i n σ3 H3 w3 with ⟨stop,qn⟩ | ⟨go,N,hN,step⟩
 ·refine wpAny_passesOwn hp (bx (T.done X rfl rfl rfl hc i pins s3 σ3 H3 X.xe I3 (stat fr3) st3 stop) fun r s4 ⟨hr,I4⟩=>?_)
  subst hr;exact Kz ⟨σ3,H3,I4,qn⟩
 ·refine wpAny_passesOwn hp (bx (T.item X rfl rfl rfl hc i pins s3 σ3 H3 X.xe I3 (stat fr3) st3 go) fun r s4 ⟨u,hr,h4⟩=>?_)
  subst hr;refine wpAny_passesOwn hp (bx h4 fun _ s5 ⟨x,H5,I5,r5,y5,st5,fr5⟩=>?_);have I5':=I5.pinned (stat fr5) (T.obj _ _ st5);refine wpAny_passesOwn hp (bx (hg _ s5 σ3 H5 x u _ I5' r5 (step x H5 y5)) fun _ s6 ⟨σ6,H6,I6,q6⟩=>?_);refine wpAny_passesOwn hp (bx (hb _ s6 σ6 H6 _ I6 q6) fun f s7 q7=>?_)
  have again:∀ {σ7:St}{H7:Hp},au X (pins++i8 fp s5.heap) σ7 H7 s7->N σ7 H7->∃ m,m<n/\∃ i σ' H',au X pins σ' H' s7/\tn i s7.heap/\(∀ b∈fp,H' b=none)/\W i m σ' H':=fun {σ7 H7} I7 n7=>by
   obtain⟨m',hm,w7⟩:=hN σ7 H7 n7;refine⟨m',hm,i+1,σ7,H7,I7.unpinned,T.keep _ _ _ st5 fun b hb o e=>(I7.pin (b,o) (IF _ (IF _ (bU hb e)))).1,fun b hb=>?_,w7⟩;obtain⟨o,e,d⟩:=T.obj _ _ st5 b hb;exact (I7.pin (b,o) (IF _ (IF _ (bU hb e)))).2.1
  cases f with
  | next=>obtain⟨σ7,H7,I7,n7⟩:=q7;exact again I7 n7
  | cont=>obtain⟨σ7,H7,I7,n7⟩:=q7;exact again I7 n7
  | brk=>obtain⟨σ7,H7,I7,q7⟩:=q7;exact⟨σ7,H7,I7.unpinned,q7⟩
  | ret v=>obtain⟨x7,σ7,H7,I7,r7,q7⟩:=q7;exact⟨x7,σ7,H7,I7.unpinned,r7,q7⟩
end
theorem cC {K:PySem.W.Frag}{a:Addr}{xs:List V}{g:TG}{tb:TS}{D:hG}{σ:St}{H:Hp}(Pv:Nat->St->Hp->Prop)(h0:Pv 0 σ H)(hl:∀ i σ H,i<=xs.length->Pv i σ H->bF K H a xs)
  (hs:∀ i x σ H,xs[i]? = some x->Pv i σ H->g x σ H fun σ2 H2=>tb { D with nx:=Pv (i+1),ct:=Pv (i+1),bk:=D.nx } σ2 H2) (hd:∀ σ H,Pv xs.length σ H->D.nx σ H) :
  ∃ W:Nat->Nat->St->Hp->Prop,(∃ m,W 0 m σ H)/\∀ i m σ H,W i m σ H ->
   ((En K a).stop i H/\D.nx σ H)\/((En K a).go i H/\∃ N:St->Hp->Prop,(∀ σ' H',N σ' H'->∃ m',m'<m/\W (i+1) m' σ' H')/\∀ x H',(En K a).yld i H x H'->g x σ H' fun σ2 H2=>tb { D with nx:=N,ct:=N,bk:=D.nx } σ2 H2):=by
 refine⟨fun i m σ H=>m=xs.length-i/\i<=xs.length/\Pv i σ H,⟨xs.length,by simp,IX _,h0⟩,?_⟩;rintro i m σ H ⟨rfl,hi,p⟩;have q:=hl i σ H hi p
 by_cases hlt:i<xs.length
 ·refine .inr ⟨⟨xs,xs[i],q,by simp[hlt]⟩,Pv (i+1),fun σ' H' p'=>⟨xs.length-(i+1),by omega,rfl,hlt,p'⟩,fun x H' y=>?_⟩
  obtain⟨e,y⟩:=y;subst e;exact hs i x σ _ (y xs q) p
 ·have e:i=xs.length:=by omega
  subst e;exact .inl ⟨⟨xs,q,Iv _⟩,hd σ H p⟩
theorem CZ {K:PySem.W.Frag}{a:Addr}{xs:List V}{g:TG}{tb:TS}{D:hG}{σ:St}{H:Hp}(Pv:Nat->St->Hp->Prop)(h0:Pv 0 σ H)(hl:∀ i σ H,i<=xs.length->Pv i σ H->c6 K H a xs)
  (hs:∀ i x σ H,xs[i]? = some x->Pv i σ H->g x σ H fun σ2 H2=>tb { D with nx:=Pv (i+1),ct:=Pv (i+1),bk:=D.nx } σ2 H2) (hd:∀ σ H,Pv xs.length σ H->D.nx σ H) :
  ∃ W:Nat->Nat->St->Hp->Prop,(∃ m,W 0 m σ H)/\∀ i m σ H,W i m σ H ->
   ((FS K a).stop i H/\D.nx σ H)\/((FS K a).go i H/\∃ N:St->Hp->Prop,(∀ σ' H',N σ' H'->∃ m',m'<m/\W (i+1) m' σ' H')/\∀ x H',(FS K a).yld i H x H'->g x σ H' fun σ2 H2=>tb { D with nx:=N,ct:=N,bk:=D.nx } σ2 H2):=by
 refine⟨fun i m σ H=>m=xs.length-i/\i<=xs.length/\Pv i σ H,⟨xs.length,by simp,IX _,h0⟩,?_⟩;rintro i m σ H ⟨rfl,hi,p⟩;have q:=hl i σ H hi p
 by_cases hlt:i<xs.length
 ·refine .inr ⟨⟨xs,xs[i],q,by simp[hlt]⟩,Pv (i+1),fun σ' H' p'=>⟨xs.length-(i+1),by omega,rfl,hlt,p'⟩,fun x H' y=>?_⟩
  obtain⟨e,y⟩:=y;subst e;exact hs i x σ _ (y xs q) p
 ·have e:i=xs.length:=by omega
  subst e;exact .inl ⟨⟨xs,q,Iv _⟩,hd σ H p⟩
theorem nZ {lo:Int}{n:Nat}{g:TG}{tb:TS}{D:hG}{σ:St}{H:Hp}(Pv:Nat->St->Hp->Prop)(h0:Pv 0 σ H)
  (hs:∀ i σ H,i<n->Pv i σ H->g (.int (lo+i)) σ H fun σ2 H2=>tb { D with nx:=Pv (i+1),ct:=Pv (i+1),bk:=D.nx } σ2 H2) (hd:∀ σ H,Pv n σ H->D.nx σ H) :
  ∃ W:Nat->Nat->St->Hp->Prop,(∃ m,W 0 m σ H)/\∀ i m σ H,W i m σ H ->
   ((FJ lo n).stop i H/\D.nx σ H)\/((FJ lo n).go i H/\∃ N:St->Hp->Prop,(∀ σ' H',N σ' H'->∃ m',m'<m/\W (i+1) m' σ' H')/\∀ x H',(FJ lo n).yld i H x H'->g x σ H' fun σ2 H2=>tb { D with nx:=N,ct:=N,bk:=D.nx } σ2 H2):=by
 refine⟨fun i m σ H=>m=n-i/\i<=n/\Pv i σ H,⟨n,by simp,IX _,h0⟩,?_⟩;rintro i m σ H ⟨rfl,hi,p⟩
 by_cases hlt:i<n
 ·refine .inr ⟨hlt,Pv (i+1),fun σ' H' p'=>⟨n-(i+1),by omega,rfl,hlt,p'⟩,fun x H' y=>?_⟩
  obtain⟨e,y⟩:=y;subst e y;exact hs i σ _ hlt p
 ·have e:i=n:=by omega
  subst e;exact .inl ⟨Iv _,hd σ H p⟩
abbrev R2:=V->V->Hp->VK->Prop
def qr (X:Cx)(f:Value->Value->Sem Value)(r:R2):Prop :=
 ∀ (pins:List (Addr×Obj))(s:Shared)(σ:St)(H:Hp)(x y:V)(v u:Value)(Q:VK),au X pins σ H s->aY x v->aY y u->r x y H Q ->
  wpAny (model X.prog X.w) X.A (f v u) (EP X pins σ Q) X.xe s
def GW (X:Cx)(f:Value->Sem Value)(r:V->Hp->VK->Prop):Prop :=
 ∀ (pins:List (Addr×Obj))(s:Shared)(σ:St)(H:Hp)(x:V)(v:Value)(Q:VK),au X pins σ H s->aY x v->r x H Q ->
  wpAny (model X.prog X.w) X.A (f v) (EP X pins σ Q) X.xe s
def kA (X:Cx)(f:Value)(r:List V->Hp->VK->Prop):Prop :=
 ∀ (pins:List (Addr×Obj))(s:Shared)(σ:St)(H:Hp)(xs:List V)(us:List Value)(Q:VK),au X pins σ H s->bh xs us->r xs H Q ->
  wpAny (model X.prog X.w) X.A (call f us) (EP X pins σ Q) X.xe s
def GV (X:Cx)(r:V->Hp->(Bool->Hp->Prop)->Prop):Prop :=
 ∀ (pins:List (Addr×Obj))(s:Shared)(σ:St)(H:Hp)(x:V)(v:Value)(Q:Bool->Hp->Prop),au X pins σ H s->aY x v->r x H Q ->
  wpAny (model X.prog X.w) X.A (truthy v) (TP X pins σ Q) X.xe s
def GL (r:R2)(ta tb:TE):TE:=fun σ H Q=>ta σ H fun x H1=>tb σ H1 fun y H2=>r x y H2 Q
def Ih (r:V->Hp->VK->Prop)(ta:TE):TE:=fun σ H Q=>ta σ H fun x H1=>r x H1 Q
inductive RI (C:Int->Int->Prop) (g:Int->Int->V) (x y:V) (H:Hp) (Q:VK):Prop
 | mk (i j:Int) (e1:x=.int i) (e2:y=.int j) (c:C i j) (h:Q (g i j) H):RI C g x y H Q
def rI (C:Int->Int->Prop)(g:Int->Int->V):R2:=fun x y H Q=>RI C g x y H Q
inductive Hz (g:Int->Int->V) (x y:V) (H:Hp) (Q:VK):Prop
 | mk (i j:Int) (e1:x=.int i) (e2:y=.int j) (h:Q (g i j) H):Hz g x y H Q
def Ff (g:Int->Int->V):R2:=fun x y H Q=>Hz g x y H Q
def rU (g:Int->V):V->Hp->VK->Prop:=fun x H Q=>∃ i,x=.int i/\Q (g i) H
section
variable {X:Cx}{a b c:Expr}{ta tb tc:TE}{pos:Pos}
theorem Es (ha:PE X a ta)(hb:PE X b tb){pins:List (Addr×Obj)}{s:Shared}{σ:St}{H:Hp}{R:V->V->Hp->Prop}(I:au X pins σ H s)
  (h:ta σ H fun x H1=>tb σ H1 fun y H2=>R x y H2) {Q:Value->Shared->Prop} {f:Value->Value->Sem Value}
  (hf:∀ v u s2 x y H2,au X pins σ H2 s2->aY x v->aY y u->R x y H2->wpAny (model X.prog X.w) X.A (f v u) Q X.xe s2) :
  wpAny (model X.prog X.w) X.A (eval a X.env) (fun v s₁=>wpAny (model X.prog X.w) X.A (eval b X.env) (fun u s₂=>wpAny (model X.prog X.w) X.A (f v u) Q X.xe s₂) X.xe s₁) X.xe s:=by
 refine bx (ha pins s σ H _ I h) fun v s1 ⟨x,H1,I1,r1,q1⟩=>?_;refine bx (hb pins s1 σ H1 _ I1 q1) fun u s2 ⟨y,H2,I2,r2,q2⟩=>?_;exact hf v u s2 x y H2 I2 r1 r2 q2
theorem aL {op:Operator}{r:R2}(ho:qr X (binaryOp op) r)(ha:PE X a ta)(hb:PE X b tb):PE X (.BinOp a op b pos) (GL r ta tb):=by
 intro pins s σ H Q I h;exact wpAny_BinOp (Es ha hb I h fun v u s2 x y H2 I2 rx ry q=>ho pins s2 σ H2 x y v u Q I2 rx ry q)
theorem y4 {op:UnaryOp}{r:V->Hp->VK->Prop}(ho:GW X (unaryOp op) r)(ha:PE X a ta):PE X (.UnaryOp op a pos) (Ih r ta):=by
 intro pins s σ H Q I h;exact UnaryOp_ (bx (ha pins s σ H _ I h) fun v s1 ⟨x,H1,I1,r1,q1⟩=>ho pins s1 σ H1 x v Q I1 r1 q1)
theorem Ge {f:Value->Value->Sem Value}{C:Int->Int->Prop}{g:Int->Int->Int}
  (rule:∀ (i j:Int)(t u:Tok)(s:Shared)(Q:Value->Shared->Prop)(E:Value->Shared->Prop),C i j->Q (.int (g i j) s.toks) { s with toks:=s.toks+1 }->wpAny (model X.prog X.w) X.A (f (.int i t) (.int j u)) Q E s) :
  qr X f (rI C fun i j=>.int (g i j)):=by
 intro pins s σ H x y v u Q I rx ry h;obtain⟨i,j,rfl,rfl,hc,q⟩:=h;obtain⟨t,rfl⟩:=rx;obtain⟨t',rfl⟩:=ry;exact rule i j t t' s _ _ hc ⟨.int (g i j),H,I.tok _,⟨_,rfl⟩,q⟩
theorem Gf {f:Value->Value->Sem Value}{g:Int->Int->Int}
  (rule:∀ (i j:Int)(t u:Tok)(s:Shared)(Q:Value->Shared->Prop)(E:Value->Shared->Prop),Q (.int (g i j) s.toks) { s with toks:=s.toks+1 }->wpAny (model X.prog X.w) X.A (f (.int i t) (.int j u)) Q E s) :
  qr X f (Ff fun i j=>.int (g i j)):=by
 intro pins s σ H x y v u Q I rx ry h;obtain⟨i,j,rfl,rfl,q⟩:=h;obtain⟨t,rfl⟩:=rx;obtain⟨t',rfl⟩:=ry;exact rule i j t t' s _ _ ⟨.int (g i j),H,I.tok _,⟨_,rfl⟩,q⟩
theorem ER {f:Value->Value->Sem Value}{g:Int->Int->Bool}
  (rule:∀ (i j:Int)(t u:Tok)(s:Shared)(Q:Value->Shared->Prop)(E:Value->Shared->Prop),Q (.bool (g i j)) s->wpAny (model X.prog X.w) X.A (f (.int i t) (.int j u)) Q E s) :
  qr X f (Ff fun i j=>.bl (g i j)):=by
 intro pins s σ H x y v u Q I rx ry h;obtain⟨i,j,rfl,rfl,q⟩:=h;obtain⟨t,rfl⟩:=rx;obtain⟨t',rfl⟩:=ry;exact rule i j t t' s _ _ ⟨.bl (g i j),H,I,rfl,q⟩
def GN (i j:Int):Prop:=0<j/\j<1073741824
def GO (i j:Int):Prop:=0<=j/\j<=1000000/\i.natAbs<2 ^ 64
def Em (i j:Int):Prop:=(-(2 ^ 64)<i/\i<2 ^ 64)\/(-(2 ^ 64)<j/\j<2 ^ 64)
theorem Em.ok {i j:Int}(h:Em i j):IntMulOk i j:=by
 rcases h with ⟨h1,h2⟩ | ⟨h1,h2⟩
 ·exact .of_left (intBits_le_64 h1 h2)
 ·exact .of_right (intBits_le_64 h1 h2)
theorem eE:qr X (binaryOp .Add) (Ff fun i j=>.int (i+j)):=Gf fun _ _ _ _ _ _ _ q=>add_int q
theorem ES:qr X (binaryOp .Sub) (Ff fun i j=>.int (i-j)):=Gf fun _ _ _ _ _ _ _ q=>sub_int q
theorem rm:qr X (binaryOp .Mult) (rI Em fun i j=>.int (i*j)):=Ge fun _ _ _ _ _ _ _ hc q=>mul_int q hc.ok
theorem dC:qr X (binaryOp .FloorDiv) (rI GN fun i j=>.int (i/j)):=Ge fun i j _ _ _ _ _ hc q=>by
 have h1:(0:Int)<j:=hc.1;have h2:j<1073741824:=hc.2;exact floordiv_int (by omega) (by rw[Int.fdiv_eq_ediv_of_nonneg i (by omega)];exact q) (.inl (PyProof.noPylong_small (by omega)))
theorem bN:qr X (binaryOp .Mod) (rI (fun _ j=>0<j) fun i j=>.int (i%j)):=Ge fun i j _ _ _ _ _ hc q=>by
 have h1:(0:Int)<j:=hc;exact mod_int' (by omega) (by rw[Int.fmod_eq_emod_of_nonneg i (by omega)];exact q)
theorem Bx:qr X (binaryOp .Pow) (rI GO fun i j=>.int (i ^ j.toNat)):=Ge fun _ _ _ _ _ _ _ hc q=>pow_int_small hc.1 hc.2.1 hc.2.2 q
theorem Ij {f:Value->Sem Value}{g:Int->Int}
  (rule:∀ (i:Int)(t:Tok)(s:Shared)(Q:Value->Shared->Prop)(E:Value->Shared->Prop),Q (.int (g i) s.toks) { s with toks:=s.toks+1 }->wpAny (model X.prog X.w) X.A (f (.int i t)) Q E s) :
  GW X f (rU fun i=>.int (g i)):=by
 intro pins s σ H x v Q I rx h;obtain⟨i,rfl,q⟩:=h;obtain⟨t,rfl⟩:=rx;exact rule i t s _ _ ⟨.int (g i),H,I.tok _,⟨_,rfl⟩,q⟩
theorem vg:GW X (unaryOp .USub) (rU fun i=>.int (-i)):=Ij fun _ _ _ _ _ q=>neg_int q
end
def Gn:V->V->Bool
 | .non,.non=>true | .non,.int _=>true | .int _,.non=>true | .non,.bl _=>true | .bl _,.non=>true | .non,.str _=>true | .str _,.non=>true
 | .int _,.int _=>true | .bl _,.bl _=>true | .str _,.str _=>true | .byt _,.byt _=>true
 | .int _,.str _=>true | .str _,.int _=>true | .bl _,.str _=>true | .str _,.bl _=>true
 | _,_=>false
def HY:R2:=fun x y H Q=>Gn x y=true/\Q (.bl (decide (x=y))) H
def HZ:R2:=fun x y H Q=>Gn x y=true/\Q (.bl (!decide (x=y))) H
theorem yI {i j:Int}:decide (V.int i=V.int j)=(i == j):=by
 rw[Bool.eq_iff_iff];simp
theorem AT {i j:Bool}:decide (V.bl i=V.bl j)=(i == j):=by
 rw[Bool.eq_iff_iff];simp
theorem yJ {i j:Str}:decide (V.str i=V.str j)=(i == j):=by
 rw[Bool.eq_iff_iff];simp
theorem yH {i j:Array UInt8}:decide (V.byt i=V.byt j)=(i.toList == j.toList):=by
 rw[Bool.eq_iff_iff];cases i;cases j;simp
section
variable {X:Cx}{a b c:Expr}{ta tb tc:TE}{pos:Pos}
theorem bH {pins:List (Addr×Obj)}{σ:St}{H:Hp}{s:Shared}{Q:VK}{k k':Bool}(I:au X pins σ H s)(q:Q (.bl k) H)(e:k=k'):EP X pins σ Q (.bool k') s:=by
 subst e;exact⟨.bl k,H,I,rfl,q⟩
theorem cQ:qr X (compareOp .Eq) HY:=by
 intro pins s σ H x y v u Q I rx ry h;obtain⟨hs,q⟩:=h
 cases x with
 | non =>
  cases rx
  cases y with
  | non=>cases ry;exact PySem.EqNone.eq_none_none (bH I q (by simp))
  | bl j=>cases ry;exact PySem.EqNone.eq_none_bool (bH I q (by simp))
  | int j=>obtain⟨t',rfl⟩:=ry;exact PySem.EqNone.eq_none_int (bH I q (by simp))
  | str j=>obtain⟨t',rfl⟩:=ry;exact PySem.EqNone.eq_none_str (bH I q (by simp))
  | _=>exact absurd (show false=true from hs) Iw
 | bl i =>
  cases rx
  cases y with
  | non=>cases ry;exact PySem.EqNone.eq_bool_none (bH I q (by simp))
  | bl j=>cases ry;exact eq_bool (bH I q AT)
  | str j=>obtain⟨t',rfl⟩:=ry;exact PySem.EqMixed.eq_bool_str (bH I q (by simp))
  | _=>exact absurd (show false=true from hs) Iw
 | int i =>
  obtain⟨t,rfl⟩:=rx
  cases y with
  | non=>cases ry;exact PySem.EqNone.eq_int_none (bH I q (by simp))
  | int j=>obtain⟨t',rfl⟩:=ry;exact eq_int (bH I q yI)
  | str j=>obtain⟨t',rfl⟩:=ry;exact PySem.EqMixed.eq_int_str (bH I q (by simp))
  | _=>exact absurd (show false=true from hs) Iw
 | str i =>
  obtain⟨t,rfl⟩:=rx
  cases y with
  | non=>cases ry;exact PySem.EqNone.eq_str_none (bH I q (by simp))
  | bl j=>cases ry;exact PySem.EqMixed.eq_str_bool (bH I q (by simp))
  | int j=>obtain⟨t',rfl⟩:=ry;exact PySem.EqMixed.eq_str_int (bH I q (by simp))
  | str j=>obtain⟨t',rfl⟩:=ry;exact eq_str (bH I q yJ)
  | _=>exact absurd (show false=true from hs) Iw
 | byt i =>
  obtain⟨t,rfl⟩:=rx
  cases y with
  | byt j=>obtain⟨t',rfl⟩:=ry;exact PySem.W.eq_bytes (bH I q yH)
  | _=>exact absurd (show false=true from hs) Iw
 | _=>cases y<;>exact absurd (show false=true from hs) Iw
theorem pf:qr X (compareOp .NotEq) HZ:=by
 intro pins s σ H x y v u Q I rx ry h;obtain⟨hs,q⟩:=h
 cases x with
 | non =>
  cases rx
  cases y with
  | non=>cases ry;exact PySem.EqNone.ne_none_none (bH I q (by simp))
  | bl j=>cases ry;exact PySem.EqNone.ne_none_bool (bH I q (by simp))
  | int j=>obtain⟨t',rfl⟩:=ry;exact PySem.EqNone.ne_none_int (bH I q (by simp))
  | str j=>obtain⟨t',rfl⟩:=ry;exact PySem.EqNone.ne_none_str (bH I q (by simp))
  | _=>exact absurd (show false=true from hs) Iw
 | bl i =>
  cases rx
  cases y with
  | non=>cases ry;exact PySem.EqNone.ne_bool_none (bH I q (by simp))
  | bl j=>cases ry;exact ne_bool (bH I q (Jk not AT))
  | str j=>obtain⟨t',rfl⟩:=ry;exact PySem.EqMixed.ne_bool_str (bH I q (by simp))
  | _=>exact absurd (show false=true from hs) Iw
 | int i =>
  obtain⟨t,rfl⟩:=rx
  cases y with
  | non=>cases ry;exact PySem.EqNone.ne_int_none (bH I q (by simp))
  | int j=>obtain⟨t',rfl⟩:=ry;exact ne_int (bH I q (Jk not yI))
  | str j=>obtain⟨t',rfl⟩:=ry;exact PySem.EqMixed.ne_int_str (bH I q (by simp))
  | _=>exact absurd (show false=true from hs) Iw
 | str i =>
  obtain⟨t,rfl⟩:=rx
  cases y with
  | non=>cases ry;exact PySem.EqNone.ne_str_none (bH I q (by simp))
  | bl j=>cases ry;exact PySem.EqMixed.ne_str_bool (bH I q (by simp))
  | int j=>obtain⟨t',rfl⟩:=ry;exact PySem.EqMixed.ne_str_int (bH I q (by simp))
  | str j=>obtain⟨t',rfl⟩:=ry;exact ne_str (bH I q (Jk not yJ))
  | _=>exact absurd (show false=true from hs) Iw
 | byt i =>
  obtain⟨t,rfl⟩:=rx
  cases y with
  | byt j=>obtain⟨t',rfl⟩:=ry;exact PySem.W.ne_bytes (bH I q (Jk not yH))
  | _=>exact absurd (show false=true from hs) Iw
 | _=>cases y<;>exact absurd (show false=true from hs) Iw
theorem wu:qr X (compareOp .Lt) (Ff fun i j=>.bl (decide (i<j))):=ER fun _ _ _ _ _ _ _ q=>lt_int q
theorem D7:qr X (compareOp .Gt) (Ff fun i j=>.bl (decide (j<i))):=ER fun _ _ _ _ _ _ _ q=>gt_int q
theorem Gg:qr X (compareOp .GtE) (Ff fun i j=>.bl (decide (j<=i))):=ER fun _ _ _ _ _ _ _ q=>ge_int q
theorem aI (b:Expr){op:CmpOp}(h:op≠.In:=by decide)(h2:op≠.NotIn:=by decide):behindInMarks op b=false:=by
 have e1:(op == CmpOp.In)=false:=by cases op<;>first | rfl | exact absurd rfl h
 have e2:(op == CmpOp.NotIn)=false:=by cases op<;>first | rfl | exact absurd rfl h2
 cases b<;>simp[behindInMarks,e1,e2]
theorem p0 {op:CmpOp}{r:R2}(ho:qr X (compareOp op) r)(ha:PE X a ta)(hb:PE X b tb)(hm:behindInMarks op b=false):PE X (.Compare a [op] [b] pos) (GL r ta tb):=by
 intro pins s σ H Q I h;exact wpAny_Compare1 (Es ha hb I h fun v u s2 x y H2 I2 rx ry q=>ho pins s2 σ H2 x y v u Q I2 rx ry q) hm
def Gz (t:TE):TT:=fun σ H Q=>t σ H fun x H'=>GU Q x H'
theorem aw {op:CmpOp}{r:R2}(ho:qr X (compareOp op) r)(ha:PE X a ta)(hb:PE X b tb)(hm:behindInMarks op b=false):PT X (.Compare a [op] [b] pos) (Gz (GL r ta tb)):=by
 intro pins s σ H Q I h
 refine wpAny_isTrue_Compare1 (bx (ha pins s σ H _ I h) fun v s1 ⟨x,H1,I1,r1,q1⟩=>bx (hb pins s1 σ H1 _ I1 q1) fun u s2 ⟨y,H2,I2,r2,q2⟩ =>
  bx (ho pins s2 σ H2 x y v u _ I2 r1 r2 q2) fun c s3 ⟨z,H3,I3,r3,k,e,q3⟩=>?_) hm
 subst e;cases r3;exact Kh ⟨H3,I3,q3⟩
def FW (K:PySem.W.Frag)(x:V)(H:Hp)(k:Bool):Prop :=
 match x with
 | .non=>k=false
 | .bl b=>k=b
 | .int i=>k=(i != 0)
 | .str y=>y.length<=sizeLine/\k=((y.length:Int) != 0)
 | .byt y=>y.size<=sizeLine/\k=((y.size:Int) != 0)
 | .ref p=>(∃ xs,bF K H p xs/\k = !xs.isEmpty)\/(∃ xs,c6 K H p xs/\k = !xs.isEmpty)\/∃ kvs,H p=some (.dK kvs)/\k = !kvs.isEmpty
 | _=>False
theorem xG {κ:Type}{kvs:List (κ×V)}{vs:List (κ×Value)}(r:KV kvs vs):(!vs.isEmpty) = !kvs.isEmpty:=by
 cases r<;>rfl
theorem qK {xs:List V}{its:List Value}(r:bh xs its):(!its.toArray.isEmpty) = !xs.isEmpty:=by
 cases r<;>simp
theorem uD:(sizeLine:Nat)<2 ^ 63:=by rw[J9];decide
theorem FA:GV X (fun x H Q=>∃ k,FW X.K x H k/\Q k H):=by
 intro pins s σ H x v Q I rx h;obtain⟨k,e,q⟩:=h;have hl:=uD;have hs:sizeLine=16777216:=J9
 cases x with
 | non =>
  cases rx;have e':k=false:=e;subst e';exact truthy_none ⟨H,I,q⟩
 | bl b =>
  cases rx;have e':k=b:=e;subst e';exact Kh ⟨H,I,q⟩
 | int i =>
  obtain⟨t,rfl⟩:=rx;have e':k=(i != 0):=e;subst e';exact PySem.P.truthy_int ⟨H,I,q⟩
 | str y =>
  obtain⟨t,rfl⟩:=rx;obtain⟨hy,e'⟩:y.length<=sizeLine/\k=((y.length:Int) != 0):=e;subst e';exact PySem.P.truthy_str (by omega) ⟨H,I.tok _,q⟩
 | byt y =>
  obtain⟨t,rfl⟩:=rx;obtain⟨hy,e'⟩:y.size<=sizeLine/\k=((y.size:Int) != 0):=e;subst e';exact PySem.W.truthy_bytes (by omega) ⟨H,I.tok _,q⟩
 | ref p =>
  cases rx;have e':(∃ xs,bF X.K H p xs/\k = !xs.isEmpty)\/(∃ xs,c6 X.K H p xs/\k = !xs.isEmpty)\/∃ kvs,H p=some (.dK kvs)/\k = !kvs.isEmpty:=e;rcases e' with ⟨xs,hx,e'⟩ | ⟨xs,hx,e'⟩ | ⟨kvs,hx,e'⟩
  ·subst e'
   obtain⟨its,r,pl,hz⟩:=I.list hx;have hlen:=r.length;exact wpAny_truthy_list pl.isList (by simp only[IR];omega) ⟨H,I.tok _,by rw[qK r];exact q⟩
  ·subst e'
   obtain⟨its,r,pl,hz⟩:=I.tuple hx;have hlen:=r.length;exact truthy_tuple pl (by simp only[IR];omega) ⟨H,I.tok _,by rw[qK r];exact q⟩
  ·subst e'
   obtain⟨hz,hS,vs,r,m⟩:kvs.length<=sizeLine/\(p == sysModules)=false/\∃ vs,KV kvs vs/\s.heap.DictOf (aB X.prog X.w) p vs:=I.hok p _ hx;have hlen:kvs.length=vs.length:=Ix r;exact wpAny_truthy_dict hS m (by omega) ⟨H,I.tok _,by rw[xG r];exact q⟩
 | _=>exact (show False from e).elim
theorem rA (ha:PE X a ta)(he:∀ whole,isTrue a X.env whole=(do let v <-whole;standAt a.pos;holding [v] (truthy v))) :
  PT X a (fun σ H Q=>ta σ H fun x H'=>∃ k,FW X.K x H' k/\Q k H'):=by
 intro pins s σ H Q I h;exact isTrue_plain (bx (ha pins s σ H _ I h) fun v s1 ⟨x,H1,I1,r1,q1⟩=>FA pins s1 σ H1 x v Q I1 r1 q1) (he _)
theorem kW {x:V}{us:List Value}(r:bh [x] us):∃ u,us=[u]/\aY x u:=by
 cases r with
 | cons r1 r2=>cases r2;exact⟨_,rfl,r1⟩
end
structure xi (h:Heap)(x dx C:Addr)(mA:Str->Option Value):Prop where
 obj:h.get? x=some (PySem.W.instObj C dx)
 ns:h.Ns1 dx mA
 ne:dx≠x
theorem tP {h:Heap}{dx:Addr}{mA:Str->Option Value}(n:h.Ns1 dx mA):∃ od,h.get? dx=some od/\∀ name,PySem.W.lookIn name od=some (mA name):=by
 obtain⟨o,es,ep,ho,hd,hk,_,hm⟩:=n;refine⟨o,ho,fun name=>?_⟩;have e:=hm name;unfold nsFind findBy at e;rw[<-Array.find?_toList]at e;unfold PySem.W.lookIn;rw[hd];dsimp only;split
 ·rename_i y q
  rw[q]at e;exact Jk some e
 ·rename_i q
  rw[q]at e
  have a:es.toList.any (·.refKey)=false:=by
   rw[List.any_eq_false];intro y hy;obtain⟨z,t,hkey⟩:=hk y (Kj.mp hy);simp[DictEntry.refKey,hkey]
  have a':¬ es.toList.any (·.refKey)=true:=by rw[a];exact Iw
  rw[Ip a'];exact Jk some e
theorem xi.look {h:Heap}{x dx C:Addr}{mA:Str->Option Value}(I:xi h x dx C mA):∃ od,PySem.W.InstAt h x (PySem.W.instObj C dx) C (some od)/\∀ name,PySem.W.lookIn name od=some (mA name) :=
 let ⟨od,ho,hl⟩:=tP I.ns
 ⟨od,⟨I.obj,rfl,rfl,ho⟩,hl⟩
section
variable {prog:Program}{w:World}{A:Around}{E:Value->Shared->Prop}{s:Shared}{K:PySem.W.Frag}{x dx C f:Addr}{mA:Str->Option Value}{name:Str}{v:Value}
theorem C6 {expr:Bool}{Q:Value->Shared->Prop}(X:K.In s.heap)(I:xi s.heap x dx C mA)(hg:PySem.W.plainGet K C name=true)(hh:PySem.W.hasDictIn K C=true)
  (ha:PySem.W.findIn K (.ref C) name=some none) (hv:mA name=some v) (hv':PySem.W.handedIn v=true) (h:Q v { s with toks:=s.toks+1 }) :
  wpAny (model prog w) A (getAttr (.ref x) name expr) Q E s:=by
 obtain⟨od,J,hl⟩:=I.look;exact PySem.W.get_value X J (PySem.W.plainGet_of hg).1 (PySem.W.findObj_own hh ha rfl (by rw[hl,hv])) hv' h
theorem A8 {pl:Sem Bool}{Q:Value×List Value->Shared->Prop}(X:K.In s.heap)(I:xi s.heap x dx C mA)(hg:PySem.W.plainGet K C name=true)
  (hf:PySem.W.findIn K (.ref C) name=some (some (.ref f))) (ht:PySem.W.isFn K (.ref f)=true) (hv:mA name=none) (h:Q (.ref f,[.ref x]) s) :
  wpAny (model prog w) A (getMethod (.ref x) name pl) Q E s:=by
 obtain⟨od,J,hl⟩:=I.look;exact PySem.W.method_fn X J (PySem.W.plainGet_of hg).1 (PySem.W.plainGet_of hg).2 hf (JS.mp ht) (by show (PySem.W.lookIn name od).map (·.isSome)=some false;rw[hl,hv];rfl) h
theorem DD {ns:List Str}{Q:Unit->Shared->Prop}(X:K.In s.heap)(I:xi s.heap x dx C mA)
  (hs:PySem.W.findIn K (.ref C) "__setattr__" = some (some (.builtin "object.__setattr__"))) (hp:PySem.W.plainOver K C=true) (ht:PySem.W.takerIn K C name=some none) (hh:PySem.W.hasDictIn K C=true)
  (hw:PySem.Within mA ns) (hsz:ns.length<=sizeLine)
  (h:∀ h',xi h' x dx C (fun y=>if y=name then some v else mA y)->Heap.SameBut dx s.heap h'->Q () { s with heap:=h',toks:=s.toks+2 }) :
  wpAny (model prog w) A (setAttr (.ref x) name v) Q E s:=by
 obtain⟨od,J,hl⟩:=I.look;refine PySem.W.set_plain X J hs (PySem.W.osa_open (s:={ s with toks:=s.toks+1 }) (r:=none) X J hp ht fun b=>?_);obtain⟨cd,hc,hd'⟩:=PySem.W.any_some hh;have hx:s.heap.get? x=some ⟨.ref C,some dx,.plain,#[]⟩:=I.obj;refine Io (Iu (Io (Io (wpAny_loadPart hx (Io (PySem.W.Looks.here (s:={ s with toks:=s.toks+1 }) (PySem.W.looks_clsIn X hc) ?_))))));rw[hd'];refine Iu (a:=some dx) (Io (Iu (Io ?_)));refine wpAny_nsSet1 (s:={ s with toks:=s.toks+1 }) I.ns fun h' hn2 hs2=>?_;obtain⟨oD,esD,epD,hoD,hdD,hcD⟩:=hn2.count (PySem.Within.cons name v hw);refine Io (wpAny_lookBehind hoD (by rw[hdD];exact pastItsLine_dict (Jb hcD (by rw[Jc];omega))) ?_);exact Iu (h _ ⟨(hs2.2 _ (IN I.ne)).trans I.obj,hn2,I.ne⟩ hs2)
theorem Bn {R:Result->Shared->Prop}{vs:List Value}{kw:List (Str×Value)}(X:K.In s.heap)(hm:PySem.W.makesIn K C=true)
  (hi:PySem.W.findIn K (.ref C) "__init__" = some (some (.ref f))) (hf:PySem.W.typeIn K (.ref f)=some (.type "function"))
  (h:codeAny (model prog w) (A.under (.builtin "type.__call__" ⟨.ref C::vs,kw⟩)) (.call (.ref f) ⟨.ref (s.heap.objs.size+1)::vs,kw⟩) (PySem.W.InitBack (s.heap.objs.size+1) R)
   { s with heap:=(s.heap.push PySem.W.emptyDict).push (PySem.W.instObj C s.heap.objs.size) }) :
  codeAny (model prog w) A (.call (.ref C) ⟨vs,kw⟩) R s:=by
 obtain⟨hh,g,d,t,os⟩:=s;exact PySem.W.make_core (PySem.W.makes_of X hm) (PySem.W.looks_findIn X hi) (fun self=>PySem.W.bind_fn X self hf) (.inl rfl) h
end
def eI (f:Str)(v:V):List (Str×V)->List (Str×V)
 | []=>[(f,v)]
 | (g,x)::r=>if g=f then (g,v)::r else (g,x)::eI f v r
theorem bg (f g:Str)(v:V):∀ fs:List (Str×V),(eI f v fs).lookup g=if g=f then some v else fs.lookup g
 | []=>by
  show List.lookup g [(f,v)]=_
  by_cases h:g=f
  ·have hb:(g == f)=true:=JS.mpr h
   simp only[List.lookup,hb,Iq h]
  ·have hb:(g == f)=false:=JL.mpr h
   simp only[List.lookup,hb,Ip h]
 | (k,x)::r=>by
  have ih:=bg f g v r;rw[show eI f v ((k,x)::r)=(if k=f then (k,v)::r else (k,x)::eI f v r) from rfl]
  by_cases hk:k=f
  ·rw[Iq hk]
   by_cases h:g=k
   ·have hb:(g == k)=true:=JS.mpr h
    simp only[List.lookup,hb,Iq (h.trans hk)]
   ·have hb:(g == k)=false:=JL.mpr h
    simp only[List.lookup,hb,Ip (fun e:g=f=>h (e.trans hk.symm))]
  ·rw[Ip hk]
   by_cases h:g=k
   ·have hb:(g == k)=true:=JS.mpr h
    simp only[List.lookup,hb,Ip (fun e:g=f=>hk (h.symm.trans e))]
   ·have hb:(g == k)=false:=JL.mpr h
    simp only[List.lookup,hb];exact ih
theorem oh (f:Str)(v:V):∀ fs:List (Str×V),f∈(eI f v fs).map (·.1)/\∀ g,g∈fs.map (·.1)->g∈(eI f v fs).map (·.1)
 | []=>⟨by simp[eI],fun g h=>by simp at h⟩
 | (k,x)::r=>by
  obtain⟨i1,i2⟩:=oh f v r;rw[show eI f v ((k,x)::r)=(if k=f then (k,v)::r else (k,x)::eI f v r) from rfl]
  by_cases hk:k=f
  ·rw[Iq hk]
   subst hk;exact⟨by simp,fun g h=>by simpa using h⟩
  ·rw[Ip hk]
   refine⟨?_,fun g h=>?_⟩
   ·rw[IT]
    exact Iz _ i1
   ·rw[IT]at h ⊢
    rcases IE.mp h with e | e
    ·exact IE.mpr (.inl e)
    ·exact Iz _ (i2 g e)
theorem o8 (f:Str)(v:V):∀ fs:List (Str×V),(eI f v fs).length<=fs.length+1
 | []=>by simp[eI]
 | (k,x)::r=>by
  have ih:=o8 f v r;rw[show eI f v ((k,x)::r)=(if k=f then (k,v)::r else (k,x)::eI f v r) from rfl]
  by_cases hk:k=f
  ·rw[Iq hk,Jc,Jc];omega
  ·rw[Ip hk,Jc,Jc];omega
theorem ie.some_of {v:V}{o:Option Value}(r:ie (some v) o):∃ u,o=some u/\aY v u:=by
 cases o with
 | none=>exact (show False from r).elim
 | some u=>exact⟨u,rfl,r⟩
theorem ie.none_of {o:Option Value}(r:ie none o):o=none:=by
 cases o with
 | none=>rfl
 | some u=>exact (show False from r).elim
theorem tF {v:V}{u:Value}(r:aY v u):PySem.W.handedIn u=true:=by
 cases v with
 | non=>cases (show u=Value.none from r);rfl
 | bl b=>cases (show u=Value.bool b from r);rfl
 | int i=>obtain⟨t,e⟩:=(show ∃ t,u=Value.int i t from r);cases e;rfl
 | str x=>obtain⟨t,e⟩:=(show ∃ t,u=Value.str x t from r);cases e;rfl
 | byt b=>obtain⟨t,e⟩:=(show ∃ t,u=Value.bytes b t from r);cases e;rfl
 | flt b=>obtain⟨t,e⟩:=(show ∃ t,u=Value.float b t from r);cases e;rfl
 | ref a=>cases (show u=Value.ref a from r);rfl
 | ty n=>cases (show u=Value.type n from r);rfl
section
variable {P:Program}{w:World}{H H':Hp}{h h':Heap}{a C dx:Addr}{fs fs':List (Str×V)}
theorem pY (hok:iQ P w H h)(e:H a=some (.ins C dx fs)):∃ mA,xi h a dx C mA/\(∀ f,ie (fs.lookup f) (mA f))/\PySem.Within mA (fs.map (·.1))/\fs.length<=1000/\H dx=some (.own a):=by
 obtain⟨d,z,ne,ob,mA,n,r,q⟩:=(show bo P w H h a (.ins C dx fs) from hok a _ e);exact⟨mA,⟨ob,n,ne⟩,r,q,z,d⟩
end
structure yx (K:PySem.W.Frag)(C:Addr):Prop where
 pg:PySem.W.plainGet K C Str.empty=true
 hd:PySem.W.hasDictIn K C=true
 po:PySem.W.plainOver K C=true
 sa:PySem.W.findIn K (.ref C) "__setattr__" = some (some (.builtin "object.__setattr__"))
theorem yx.get {K:PySem.W.Frag}{C:Addr}(c:yx K C)(f:Str):PySem.W.plainGet K C f=true:=c.pg
def h9 (K:PySem.W.Frag)(C:Addr)(f:Str):Prop:=PySem.W.findIn K (.ref C) f=some none
theorem h9.taker {K:PySem.W.Frag}{C:Addr}{f:Str}(n:h9 K C f):PySem.W.takerIn K C f=some none:=by
 unfold PySem.W.takerIn;rw[show PySem.W.findIn K (.ref C) f=some none from n];rfl
structure CD (K:PySem.W.Frag)(C:Addr)(m:Str)(f:Addr):Prop where
 at_:PySem.W.findIn K (.ref C) m=some (some (.ref f))
 fn:PySem.W.isFn K (.ref f)=true
 kp:PySem.W.keepIn K (.ref f)=true
section
variable {X:Cx}{pins:List (Addr×Obj)}{σ:St}{H:Hp}{s:Shared}{a C dx:Addr}{fs:List (Str×V)}{f:Str}{v:V}{A:Around}{E:Value->Shared->Prop}
theorem xB {b:Bool}{Q:Value->Shared->Prop}(I:au X pins σ H s)(e:H a=some (.ins C dx fs))(c:yx X.K C)(n:h9 X.K C f)(l:fs.lookup f=some v)
  (h:∀ u s',au X pins σ H s'->aY v u->Q u s'):wpAny (model X.prog X.w) A (getAttr (.ref a) f b) Q E s:=by
 obtain⟨mA,O,r,_,_,_⟩:=pY I.hok e;obtain⟨u,hu,ru⟩:=ie.some_of (v:=v) (o:=mA f) (by rw[<-l];exact r f);exact C6 I.kIn O (c.get f) c.hd n hu (tF ru) (h u _ (I.tok _) ru)
theorem ll {m:Str}{g:Addr}{pl:Sem Bool}{Q:Value×List Value->Shared->Prop}(I:au X pins σ H s)(e:H a=some (.ins C dx fs))(c:yx X.K C)(k:CD X.K C m g)(l:fs.lookup m=none)
  (h:Q (.ref g,[.ref a]) s):wpAny (model X.prog X.w) A (getMethod (.ref a) m pl) Q E s:=by
 obtain⟨mA,O,r,_,_,_⟩:=pY I.hok e;have hn:mA m=none:=ie.none_of (by rw[<-l];exact r m);exact A8 I.kIn O (c.get m) k.at_ k.fn hn h
theorem yk {y:V}{u:Value}{Q:Unit->Shared->Prop}(I:au X pins σ H s)(e:H a=some (.ins C dx fs))(c:yx X.K C)(n:h9 X.K C f)(hl:fs.length<1000)(ry:aY y u)
  (h:∀ s',au X pins σ (upd H a (.ins C dx (eI f y fs))) s'->Q () s'):wpAny (model X.prog X.w) A (setAttr (.ref a) f u) Q E s:=by
 obtain⟨mA,O,r,wi,_,ho⟩:=pY I.hok e
 have hz:(fs.map (·.1)).length<=sizeLine:=by rw[Ir,J9];omega
 refine DD I.kIn O c.sa c.po n.taker c.hd wi hz fun h' O' sb=>h _ ?_;have hd:∃ o,h'.get? dx=some o:=let ⟨o,_,_,e',_⟩:=O'.ns;⟨o,e'⟩;refine I.write (x:=a) (e:=dx) (by rw[e];exact True.intro) (.inr ho) (fun b q hb z=>(sb.2 b hb).trans z) hd ?_;refine⟨by rw[ag O.ne];exact ho,?_,O.ne,O'.obj,_,O'.ns,fun g=>?_,fun g hg=>?_⟩
 ·have:=o8 f y fs;omega
 ·show ie ((eI f y fs).lookup g) (if g=f then some u else mA g)
  rw[bg]
  by_cases q:g=f
  ·rw[Iq q,Iq q];exact ry
  ·rw[Ip q,Ip q];exact r g
 ·by_cases q:g=f
  ·rw[q];exact (oh f y fs).1
  ·refine (oh f y fs).2 g (wi g fun z=>hg ?_)
   show (if g=f then some u else mA g)=none
   rw[Ip q];exact z
theorem au.made (I:au X pins σ H s):au X pins σ (upd (upd H s.heap.objs.size (.own (s.heap.objs.size+1))) (s.heap.objs.size+1) (.ins C s.heap.objs.size []))
  { s with heap:=(s.heap.push PySem.W.emptyDict).push (PySem.W.instObj C s.heap.objs.size) }:=by
 have e1:(s.heap.push PySem.W.emptyDict).get? s.heap.objs.size=some PySem.W.emptyDict:=Heap.get?_push_size s.heap rfl
 have e2:((s.heap.push PySem.W.emptyDict).push (PySem.W.instObj C s.heap.objs.size)).get? (s.heap.objs.size+1)=some (PySem.W.instObj C s.heap.objs.size):=by
  have:=Heap.get?_push_size (s.heap.push PySem.W.emptyDict) (o:=PySem.W.instObj C s.heap.objs.size) rfl
  rwa [JT]at this
 have e3:(s.heap.push PySem.W.emptyDict).Ns s.heap.objs.size (fun _=>none):=⟨PySem.W.emptyDict,#[],_,e1,rfl,(fun e he=>absurd he (by simp)),fun _=>rfl⟩;have I1:=I.laid (a:=s.heap.objs.size) (o:=.own (s.heap.objs.size+1)) (h':=s.heap.push PySem.W.emptyDict) (t':=s.toks) (fun b u q=>Heap.get?_push_of_some _ q) (Iv _) ⟨_,e1⟩;refine I1.laid (a:=s.heap.objs.size+1) (o:=.ins C s.heap.objs.size []) (t':=s.toks) (fun b u q=>Heap.get?_push_of_some _ q) (Nat.le_of_eq (JT _ _)) ?_;have ne:s.heap.objs.size≠s.heap.objs.size+1:=IC (Nat.lt_succ_self _);refine⟨by rw[ag ne,af],IX _,ne,e2,fun _=>none,(Heap.Ns1.of_empty e3).at fun o q=>Heap.get?_push_of_some _ q,fun _=>True.intro,fun y hy=>absurd rfl hy⟩
theorem yD {prog:Program}{w:World}{env:Env}{e:Expr}{f:Str}{pos:Pos}{s:Shared}{Q:Value->Shared->Prop}(hb:attributeBase e f env (eval e env)=eval e env)
  (h:wpAny (model prog w) A (eval e env) (fun o s₁=>wpAny (model prog w) A (getAttr o f true) Q E s₁) E s):wpAny (model prog w) A (eval (.Attribute e f pos) env) Q E s :=
 Attribute_any_ h (by rw[arm_eval_Attribute,hb])
end
inductive HE (K:PySem.W.Frag) (f:Str) (Q:VK) (x:V) (H:Hp):Prop
 | mk (a C dx:Addr) (fs:List (Str×V)) (v:V) (e:x=.ref a) (o:H a=some (.ins C dx fs)) (c:yx K C) (n:h9 K C f) (l:fs.lookup f=some v) (h:Q v H):HE K f Q x H
def Hj (K:PySem.W.Frag)(ta:TE)(f:Str):TE:=fun σ H Q=>ta σ H fun x H1=>HE K f Q x H1
def Hg (K:PySem.W.Frag)(ta tv:TE)(f:Str):TS:=fun D σ H=>tv σ H fun y H1=>ta σ H1 fun x H2=>∃ a C dx fs,x=.ref a/\H2 a=some (.ins C dx fs)/\yx K C/\h9 K C f/\fs.length<1000 /\
 D.nx σ (upd H2 a (.ins C dx (eI f y fs)))
section
variable {X:Cx}{o e value:Expr}{f:Str}{pos pos' tpos:Pos}{ta tv:TE}
theorem bW (he:PE X e ta)(hb:attributeBase e f X.env (eval e X.env)=eval e X.env):PE X (.Attribute e f pos) (Hj X.K ta f):=by
 intro pins s σ H Q I h;refine yD hb (bx (he pins s σ H _ I h) fun u s1 ⟨x,H1,I1,rx,a,C,dx,fs,v,ex,ea,c,n,l,q⟩=>?_);subst ex;obtain rfl:u=Value.ref a:=rx;exact xB I1 ea c n l fun u' s2 I2 ru=>⟨v,H1,I2,ru,q⟩
theorem jL (ha:PE X o ta)(hv:PE X value tv)(hs:swapsWith value (some (.Attribute o f pos')) pos.line X.env=pure false):PS X (.Assign [.Attribute o f pos'] value pos) (Hg X.K ta tv f):=by
 intro pins s σ H D I h;refine plainObj_wpAny_Assign_Attribute (bx (hv pins s σ H _ I h) fun u s1 ⟨y,H1,I1,ry,q⟩=>bx (ha pins s1 σ H1 _ I1 q) fun ov s2 ⟨x,H2,I2,rx,a,C,dx,fs,ex,ea,c,n,l,q2⟩=>?_) hs;subst ex;obtain rfl:ov=Value.ref a:=rx;exact yk I2 ea c n l ry fun s3 I3=>⟨σ,_,I3,q2⟩
end
section
variable {X:Cx}{pins:List (Addr×Obj)}{σ:St}{H:Hp}{s:Shared}{A:Around}{E:Value->Shared->Prop}{Q:Value->Shared->Prop}{c:Value}{b:Bool}
inductive lU (K:PySem.W.Frag) (H:Hp):V->Value->Prop where
 | non:lU K H .non (.type "NoneType")
 | bl (x:Bool):lU K H (.bl x) (.type "bool")
 | int (i:Int):lU K H (.int i) (.type "int")
 | str (x:Str):lU K H (.str x) (.type "str")
 | flt (x:UInt64):lU K H (.flt x) (.type "float")
 | lst {a:Addr} {xs:List V} (e:H a=some (.lst xs)):lU K H (.ref a) (.type "list")
 | frz {a:Addr} {o:Obj} {xs:List V} (e:H a=some (.frz o (.lst xs))):lU K H (.ref a) (.type "list")
 | tup {a:Addr} {xs:List V} (e:H a=some (.tup xs)):lU K H (.ref a) (.type "tuple")
 | dK {a:Addr} {kvs:List (bV×V)} (e:H a=some (.dK kvs)):lU K H (.ref a) (.type "dict")
 | dT {a:Addr} {kvs:List (List bV×V)} (e:H a=some (.dT kvs)):lU K H (.ref a) (.type "dict")
 | ins {a C dx:Addr} {fs:List (Str×V)} (e:H a=some (.ins C dx fs)) (cl:yx K C) (ha:PySem.W.findIn K (.ref C) "__class__" = some (some (.builtin "object.__class__")))
   (hn:PySem.W.specialIn K (.builtin "object.__class__") "__get__" = some (some (.builtin "getset_descriptor.__get__"))) (htk:PySem.W.takesIn K (.builtin "object.__class__")=some true)
   (hm:PySem.W.mroIn K C (.type "object")=some true):lU K H (.ref a) (.ref C)
theorem zV {x:V}{u t:Value}(I:au X pins σ H s)(rx:aY x u)(ty:lU X.K H x t)(e:PySem.W.kitOne X.K t c=some b)(h:∀ tk,Q (.bool b) { s with toks:=tk }) :
  wpAny (model X.prog X.w) A (call (.builtin "isinstance") [u,c]) Q E s:=by
 cases ty with
 | non=>cases (show u=Value.none from rx);exact JD PySem.W.kitx_none I.kIn True.intro e (fun z=>nomatch z) h
 | bl y=>cases (show u=Value.bool y from rx);exact JD PySem.W.kitx_bool I.kIn True.intro e (fun z=>nomatch z) h
 | int i=>obtain⟨t,q⟩:=(show ∃ t,u=Value.int i t from rx);cases q;exact JD PySem.W.kitx_int I.kIn True.intro e (fun z=>nomatch z) h
 | str y=>obtain⟨t,q⟩:=(show ∃ t,u=Value.str y t from rx);cases q;exact JD PySem.W.kitx_str I.kIn True.intro e (fun z=>nomatch z) h
 | flt y=>obtain⟨t,q⟩:=(show ∃ t,u=Value.float y t from rx);cases q;exact JD PySem.W.kitx_float I.kIn True.intro e (fun z=>nomatch z) h
 | @lst a xs ea =>
  cases (show u=Value.ref a from rx);obtain⟨_,_,n,_,h1⟩:=(show bo X.prog X.w H s.heap a (.lst xs) from I.hok a _ ea);exact JD PySem.W.kitx_list I.kIn ⟨_,h1,rfl⟩ e (fun z=>nomatch z) h
 | @frz a ob xs ea =>
  cases (show u=Value.ref a from rx);obtain⟨_,_,_,n,_,h1⟩:=(show bo X.prog X.w H s.heap a (.frz ob (.lst xs)) from I.hok a _ ea);exact JD PySem.W.kitx_list I.kIn ⟨_,h1,rfl⟩ e (fun z=>nomatch z) h
 | @tup a xs ea =>
  cases (show u=Value.ref a from rx);obtain⟨_,_,_,p⟩:=(show bo X.prog X.w H s.heap a (.tup xs) from I.hok a _ ea);obtain⟨o,h1,h2,_⟩:=p;exact JD PySem.W.kitx_tuple I.kIn ⟨o,h1,h2⟩ e (fun z=>nomatch z) h
 | @dK a kvs ea =>
  cases (show u=Value.ref a from rx);obtain⟨_,_,vs,_,p⟩:=(show bo X.prog X.w H s.heap a (.dK kvs) from I.hok a _ ea);obtain⟨o,es,ep,h1,h2,_⟩:=p;exact JD PySem.W.kitx_dict I.kIn ⟨o,h1,h2.1⟩ e (fun z=>nomatch z) h
 | @dT a kvs ea =>
  cases (show u=Value.ref a from rx);obtain⟨_,_,xs,_,o,es,ep,h1,h2,_⟩:=(show bo X.prog X.w H s.heap a (.dT kvs) from I.hok a _ ea);exact JD PySem.W.kitx_dict I.kIn ⟨o,h1,h2.1⟩ e (fun z=>nomatch z) h
 | @ins a C dx fs ea cl ha hn htk hm =>
  cases (show u=Value.ref a from rx);obtain⟨mA,O,_⟩:=pY I.hok ea;obtain⟨od,J,_⟩:=O.look;exact JD (PySem.W.kitx_own (cl.get _) cl.hd ha hn htk hm) I.kIn J e (fun z=>nomatch z) h
end
structure cu (k:Nat)(A:Around):Prop where
 hd:A.handled=none
 dp:A.depth+3*k+5<recursionLimit
 un:A.units+16*k+200<cLine
theorem cu.mono {j k:Nat}{A:Around}(r:cu k A)(h:j<=k):cu j A:=⟨r.hd,by have:=r.dp;omega,by have:=r.un;omega⟩
theorem cu.deeper {k:Nat}{A:Around}(r:cu (k+1) A)(env:Env):cu k (A.deeper env) :=
 ⟨r.hd,by have:=r.dp;show A.depth+1+3*k+5<_;omega,by have:=r.un;show A.units+3+16*k+200<_;omega⟩
theorem xO {A:Around}{C:Addr}{us:List Value}{kw:List (Str×Value)}:(A.under (.builtin "type.__call__" ⟨.ref C::us,kw⟩)).depth=A.depth+1:=by
 first | rfl | simp[Around.under,Code.weight,Code.isCreation,Code.isGuard,Code.isCaller,Code.frames,Code.isFrame,guardIds]
theorem xP {A:Around}{C:Addr}{us:List Value}{kw:List (Str×Value)}:(A.under (.builtin "type.__call__" ⟨.ref C::us,kw⟩)).units=A.units+1:=by
 first | rfl | simp[Around.under,Code.cUnits,Code.frames,Code.isFrame]
theorem cu.make {k:Nat}{A:Around}(r:cu (k+1) A)(C:Addr)(us:List Value)(kw:List (Str×Value)):cu k (A.under (.builtin "type.__call__" ⟨.ref C::us,kw⟩)) :=
 ⟨r.hd,by have:=r.dp;rw[xO];omega,by have:=r.un;rw[xP];omega⟩
theorem cu.depth {k:Nat}{A:Around}(r:cu k A):A.depth<recursionLimit:=by have:=r.dp;omega
theorem cu.units {k:Nat}{A:Around}(r:cu k A):A.units+64<cLine:=by have:=r.un;omega
def rT:TA:=fun _ H Q=>Q [] H
def jU (ta:TE)(tr:TA):TA:=fun σ H Q=>ta σ H fun x H1=>tr σ H1 fun xs H2=>Q (x::xs) H2
section
variable {X:Cx}{e:Expr}{es:List Expr}{te:TE}{t:TA}{pos:Pos}
theorem aN:PA X [] rT:=fun _ _ _ _ H Q I h=>J2 ⟨[],H,I,.nil,h⟩
theorem aq (ha:PE X e te)(hr:PA X es t)(hs:starEach (e::es) X.env=(false,eval e X.env)::starEach es X.env:=by rfl):PA X (e::es) (jU te t):=by
 intro pos pins s σ H Q I h;rw[hs]
 show wpAny _ _ (spliced ((false,eval e X.env)::backTo pos (starEach es X.env))) _ _ s
 refine Ju (bx (ha pins s σ H _ I h) fun u s1 ⟨x,H1,I1,r1,q1⟩=>?_);exact bx (hr pos pins s1 σ H1 _ I1 q1) fun us s2 ⟨xs,H2,I2,r2,q2⟩=>⟨x::xs,H2,I2,.cons r1 r2,q2⟩
def GB (t:TA):TE:=fun σ H Q=>t σ H fun xs H1=>xs.length<=sizeLine/\∀ p,H1 p=none->Q (.ref p) (upd H1 p (.tup xs))
def Hn (t:TA):TE:=fun σ H Q=>t σ H fun xs H1=>xs.length<=sizeLine/\∀ p,H1 p=none->Q (.ref p) (upd H1 p (.lst xs))
theorem aS {x1}(h:PA X es t):PE X (.Tuple es x1 pos) (GB t):=by
 intro pins s σ H Q I hq;refine wpAny_Tuple_spliced (bx (h pos pins s σ H _ I hq) fun us s1 ⟨xs,H1,I1,r,z,q⟩=>⟨by rw[<-r.length];exact z,?_⟩);have hf:H1 s1.heap.objs.size=none:=I1.hok.fresh (Iv _);refine⟨.ref s1.heap.objs.size,upd H1 s1.heap.objs.size (.tup xs),I1.laid (t':=s1.toks) (fun b u e=>Heap.get?_push_of_some _ e) (Iv _) ?_,rfl,q _ hf⟩;exact⟨z,us,r,⟨_,Heap.get?_push_size _ rfl,rfl,_,rfl⟩⟩
theorem eG (h:PA X es t):PE X (.List es pos) (Hn t):=by
 intro pins s σ H Q I hq;refine wpAny_List_spliced (bx (h pos pins s σ H _ I hq) fun us s1 ⟨xs,H1,I1,r,z,q⟩=>⟨by rw[<-r.length];exact z,?_⟩);have hf:H1 s1.heap.objs.size=none:=I1.hok.fresh (Iv _);refine⟨.ref s1.heap.objs.size,upd H1 s1.heap.objs.size (.lst xs),I1.laid (t':=s1.toks) (fun b u e=>Heap.get?_push_of_some _ e) (Iv _) ?_,rfl,q _ hf⟩;exact⟨z,us,0,r,Heap.get?_push_size _ rfl⟩
end
abbrev Sp:=List V->Hp->VK->XK->Prop
abbrev sQ:=List Env->Hp->Shared->XK->Value->Shared->Prop
structure t6 (P:Program)(w:World)(K:PySem.W.Frag)(mg:Str->Option Value)(base:Heap)(A:Around)(outer:List Env)(s:Shared)(H:Hp):Prop where
 frames:A.frames=some outer
 mod:Mod K mg base
 bs:∀ b o,base.get? b=some o->s.heap.get? b=some o/\H b=none
 bsz:base.objs.size<=s.heap.objs.size
 funs:s.heap.FunFrames base outer
 frf:∀ b∈iq outer,H b=none
 hok:iQ P w H s.heap
 bare:AllBare s.gens
def CE (outer:List Env)(P:Program)(w:World)(H:Hp)(s:Shared)(Q:VK)(u:Value)(s':Shared):Prop :=
 ∃ v H',s'.os=s.os/\AllBare s'.gens/\Un (iq outer) [] H H' s.heap s'.heap/\iQ P w H' s'.heap/\aY v u/\Q v H'
def CR (CX:sQ)(outer:List Env)(P:Program)(w:World)(H:Hp)(s:Shared)(Q:VK)(E:XK)(r:Result)(s':Shared):Prop :=
 match r with
 | .ok (.ret u)=>CE outer P w H s Q u s'
 | .ok _=>False
 | .error e=>CX outer H s E e s'
structure bd (P:Program)(w:World)(K:PySem.W.Frag)(mg:Str->Option Value)(base:Heap)(CX:sQ)(k:Nat)(f:Addr)(fd:FuncData)(ps:List Str)(sp:Sp):Prop where
 len:∀ vs H Q E,sp vs H Q E->vs.length=ps.length
 run:∀ (A:Around)(outer:List Env)(s:Shared)(H:Hp)(args:Args)(us:List Value)(vs:List V)(Q:VK)(E:XK),cu k A->t6 P w K mg base A outer s H->BindsTo s fd args (ps.zip us)->bh vs us->sp vs H Q E ->
  codeAny (model P w) A (.call (.ref f) args) (CR CX outer P w H s Q E) s
theorem t6.make {P:Program}{w:World}{K:PySem.W.Frag}{mg:Str->Option Value}{base:Heap}{A:Around}{outer:List Env}{s:Shared}{H:Hp}(e:t6 P w K mg base A outer s H)(C:Addr)(us:List Value)(kw:List (Str×Value)) :
  t6 P w K mg base (A.under (.builtin "type.__call__" ⟨.ref C::us,kw⟩)) outer s H:=⟨by first | exact e.frames | (simpa [Around.under,Code.envs,Code.isFrame,pushEnvs] using e.frames),e.mod,e.bs,e.bsz,e.funs,e.frf,e.hok,e.bare⟩
section
variable {X:Cx}{pins:List (Addr×Obj)}{σ:St}{H:Hp}{s s':Shared}
theorem au.env0 (I:au X pins σ H s):t6 X.prog X.w X.K X.mg X.base X.A X.stack s H :=
 ⟨I.ok.frames,I.ok.mod,I.bs,Jb I.ok.bsz I.sz,I.stack,I.stkFree,I.hok,I.bare⟩
theorem au.after {Q:VK}{u:Value}(I:au X pins σ H s)(h:CE X.stack X.prog X.w H s Q u s'):EP X pins σ Q u s':=by
 obtain⟨v,H',os,bare,un,hok,r,q⟩:=h;obtain⟨hh,g,d,t,os'⟩:=s';obtain rfl:os'=s.os:=os;exact⟨v,H',I.call (h':=hh) (g':=g) (d':=d) (t':=t) (ch:=[]) un hok bare (fun b z=>absurd z (by simp)),r,q⟩
end
def Cg (sp:Sp)(dvs:List V)(E:XK)(t:TA):TE:=fun σ H Q=>t σ H fun vs H1=>sp (vs++dvs) H1 Q E
inductive HG (C:Addr) (m:Str) (sp:Sp) (dvs:List V) (E:XK) (t:TA) (σ:St) (Q:VK) (x:V) (H:Hp):Prop
 | mk (a dx:Addr) (fs:List (Str×V)) (e:x=.ref a) (o:H a=some (.ins C dx fs)) (l:fs.lookup m=none) (h:t σ H fun vs H2=>sp (x::(vs++dvs)) H2 Q E):HG C m sp dvs E t σ Q x H
def wV (C:Addr)(m:Str)(sp:Sp)(dvs:List V)(E:XK)(ta:TE)(t:TA):TE:=fun σ H Q=>ta σ H fun x H1=>HG C m sp dvs E t σ Q x H1
def D9 (C:Addr)(sp:Sp)(dvs:List V)(E:XK)(t:TA):TE:=fun σ H Q=>t σ H fun vs H1=>∀ x dx,H1 x=none->H1 dx=none->dx≠x ->
 sp (.ref x::(vs++dvs)) (upd (upd H1 dx (.own x)) x (.ins C dx [])) (fun v H2=>v=.non/\Q (.ref x) H2) E
def eU (K:PySem.W.Frag)(fd:FuncData)(ps:List Str)(ds:List Value):Prop :=
 ∀ (s:Shared)(us:List Value),K.In s.heap->(us++ds).length=ps.length->BindsTo s fd ⟨us,[]⟩ (ps.zip (us++ds))
theorem eU.all {K:PySem.W.Frag}{fd:FuncData}{ps:List Str}(h:∀ us:List Value,us.length=ps.length->bindArgs fd ⟨us,[]⟩=pure (ps.zip us)):eU K fd ps []:=fun s us _ hl=>by
 rw[List.append_nil]at hl ⊢;exact .of_eq (h us hl)
def d9 (CX:sQ)(X:Cx)(E:XK):Prop:=∀ (pins:List (Addr×Obj))(σ:St)(H:Hp)(s:Shared)(e:Value)(s':Shared),au X pins σ H s->CX X.stack H s E e s'->X.xe e s'
section
variable {X:Cx}{CX:sQ}{k:Nat}{f C:Addr}{fd:FuncData}{ps:List Str}{sp:Sp}{dvs:List V}{ds:List Value}{E:XK}{x m:Str}{p pos apos:Pos}{e o:Expr}{es:List Expr}{ta:TE}{t:TA}
theorem ye {pins:List (Addr×Obj)}{σ:St}{H:Hp}{s:Shared}{Q:VK}{us:List Value}{vs:List V}(F:bd X.prog X.w X.K X.mg X.base CX k f fd ps sp)(hr:cu k X.A)(hb:eU X.K fd ps ds)(hd:bh dvs ds)(hx:d9 CX X E)
  (I:au X pins σ H s) (r:bh vs us) (h:sp (vs++dvs) H Q E):wpAny (model X.prog X.w) X.A (call (.ref f) us) (EP X pins σ Q) X.xe s:=by
 have r2:bh (vs++dvs) (us++ds):=r.append hd
 have hl:(us++ds).length=ps.length:=by rw[<-r2.length];exact F.len _ _ _ _ h
 refine Ka (JH (F.run X.A X.stack s H ⟨us,[]⟩ (us++ds) (vs++dvs) Q E hr I.env0 (hb s us I.kIn hl) r2 h) fun r s' hq=>?_)
 cases r with
 | error e=>exact hx pins σ H s e s' I hq
 | ok fl =>
  cases fl with
  | ret u=>exact I.after hq
  | next=>exact False.elim hq
  | brk=>exact False.elim hq
  | cont=>exact False.elim hq
theorem y3 (F:bd X.prog X.w X.K X.mg X.base CX k f fd ps sp)(hr:cu k X.A)(hg:Gl X x)(hm:X.mg x=some (.ref f))(hk:PySem.W.keepIn X.K (.ref f)=true)(hb:eU X.K fd ps ds)(hd:bh dvs ds)(hx:d9 CX X E)
  (ha:PA X (e::es) t) (hdb:(x == ("__debug__" : Str))=false:=by decide) (he:starEach (e::es) X.env=(false,eval e X.env)::starEach es X.env:=by rfl) (hpl:(backTo pos (starEach es X.env)).any (·.1)=false:=by rfl) :
  PE X (.Call (.Name x p) (e::es) [] pos) (Cg sp dvs E t):=by
 intro pins s σ H Q I h;refine JE (fJ I hg hm ?_ hdb);refine KA (h₀:=X.base) I.ok.mod.kin hk (bx (ha pos pins s σ H _ I h) fun us s1 ⟨vs,H1,I1,r,q⟩=>⟨I1.kIn,?_⟩) he hpl;exact ye F hr hb hd hx I1 r q
theorem Du {pl:Sem Bool}(he:PE X o ta)(c:yx X.K C)(hm:CD X.K C m f)(F:bd X.prog X.w X.K X.mg X.base CX k f fd ps sp)(hr:cu k X.A)(hb:eU X.K fd ps ds)(hd:bh dvs ds)(hx:d9 CX X E)(ha:PA X (e::es) t)
  (hst:starEach (e::es) X.env=(false,eval e X.env)::starEach es X.env:=by rfl) (hpl:(backTo pos (starEach es X.env)).any (·.1)=false:=by rfl)
  (ht:eval (.Call (.Attribute o m apos) (e::es) [] pos) X.env=(do
   let ov <-eval o X.env
   standAt apos.atName
   let (f,first) <-holding [ov] (getMethod ov m pl)
   callWith pos f first (backTo pos (starEach (e::es) X.env)) (backToKw pos (keywordEach [] X.env))):=by rfl) :
  PE X (.Call (.Attribute o m apos) (e::es) [] pos) (wV C m sp dvs E ta t):=by
 intro pins s σ H Q I h;refine PySem.W.methodCall_KW (pl:=pl) (bx (he pins s σ H _ I h) fun u s1 ⟨x,H1,I1,rx,a,dx,fs,ex,ea,l,q⟩=>?_) ht;subst ex;obtain rfl:u=Value.ref a:=rx;refine ll I1 ea c hm l ?_;refine KA (first:=[.ref a]) (h₀:=X.base) I.ok.mod.kin hm.kp (bx (ha pos pins s1 σ H1 _ I1 q) fun us s2 ⟨vs,H2,I2,r,q2⟩=>⟨I2.kIn,?_⟩) hst hpl;exact ye (us:=.ref a::us) (vs:=.ref a::vs) F hr hb hd hx I2 (.cons rfl r) q2
theorem BI {pl:Sem Bool}(he:PE X o ta)(c:yx X.K C)(hm:CD X.K C m f)(F:bd X.prog X.w X.K X.mg X.base CX k f fd ps sp)(hr:cu k X.A)(hb:eU X.K fd ps ds)(hd:bh dvs ds)(hx:d9 CX X E)
  (ht:eval (.Call (.Attribute o m apos) [] [] pos) X.env=(do
   let ov <-eval o X.env
   standAt apos.atName
   let (f,first) <-holding [ov] (getMethod ov m pl)
   callWith pos f first (backTo pos (starEach [] X.env)) (backToKw pos (keywordEach [] X.env))):=by rfl) :
  PE X (.Call (.Attribute o m apos) [] [] pos) (wV C m sp dvs E ta rT):=by
 intro pins s σ H Q I h;refine PySem.W.methodCall_KW (pl:=pl) (bx (he pins s σ H _ I h) fun u s1 ⟨x,H1,I1,rx,a,dx,fs,ex,ea,l,q⟩=>?_) ht;subst ex;obtain rfl:u=Value.ref a:=rx;refine ll I1 ea c hm l ?_;exact PySem.W.callWith_K0 (first:=[.ref a]) I1.kIn hm.kp (ye (us:=[.ref a]) (vs:=[.ref a]) F hr hb hd hx I1 (.cons rfl .nil) q)
structure Mk (K:PySem.W.Frag)(C f:Addr):Prop where
 makes:PySem.W.makesIn K C=true
 init:PySem.W.findIn K (.ref C) "__init__" = some (some (.ref f))
 fn:PySem.W.isFn K (.ref f)=true
 kp:PySem.W.keepIn K (.ref C)=true
theorem Ca {pins:List (Addr×Obj)}{σ:St}{H:Hp}{s:Shared}{Q:VK}{us:List Value}{vs:List V}(M:Mk X.K C f)(F:bd X.prog X.w X.K X.mg X.base CX k f fd ps sp)(hr:cu (k+1) X.A)(hb:eU X.K fd ps ds)(hd:bh dvs ds)
  (hx:d9 CX X E) (I:au X pins σ H s) (r:bh vs us)
  (h:∀ x dx,H x=none->H dx=none->dx≠x->sp (.ref x::(vs++dvs)) (upd (upd H dx (.own x)) x (.ins C dx [])) (fun v H2=>v=.non/\Q (.ref x) H2) E) :
  wpAny (model X.prog X.w) X.A (call (.ref C) us) (EP X pins σ Q) X.xe s:=by
 have hq:=h (s.heap.objs.size+1) s.heap.objs.size (I.hok.fresh (KH _)) (I.hok.fresh (Iv _)) (IC (Nat.lt_succ_self _));have I2:=au.made (C:=C) I;have r2:bh (V.ref (s.heap.objs.size+1)::(vs++dvs)) (Value.ref (s.heap.objs.size+1)::(us++ds)):=.cons rfl (r.append hd)
 have hl:(Value.ref (s.heap.objs.size+1)::us++ds).length=ps.length:=by
  have e:=r2.length;rw[F.len _ _ _ _ hq]at e;exact e.symm
 refine Ka (Bn (f:=f) I.kIn M.makes M.init (JS.mp M.fn) (JH (F.run _ X.stack _ _ ⟨Value.ref (s.heap.objs.size+1)::us,[]⟩ (Value.ref (s.heap.objs.size+1)::(us++ds)) _ _ E (hr.make C us [])
  (I2.env0.make C us []) (hb _ (Value.ref (s.heap.objs.size+1)::us) I2.kIn hl) r2 hq) fun r s' hq'=>?_))
 cases r with
 | error e=>exact hx pins σ _ _ e s' I2 hq'
 | ok fl =>
  cases fl with
  | ret u =>
   obtain⟨v,H',I3,rv,ev,q3⟩:=I2.after hq';subst ev;exact⟨rv,⟨V.ref (s.heap.objs.size+1),H',I3,rfl,q3⟩⟩
  | next=>exact False.elim hq'
  | brk=>exact False.elim hq'
  | cont=>exact False.elim hq'
theorem BH (M:Mk X.K C f)(F:bd X.prog X.w X.K X.mg X.base CX k f fd ps sp)(hr:cu (k+1) X.A)(hg:Gl X x)(hm:X.mg x=some (.ref C))(hb:eU X.K fd ps ds)(hd:bh dvs ds)(hx:d9 CX X E)
  (hdb:(x == ("__debug__" : Str))=false:=by decide):PE X (.Call (.Name x p) [] [] pos) (D9 C sp dvs E rT):=by
 intro pins s σ H Q I h;refine JE (fJ I hg hm ?_ hdb);exact PySem.W.callWith_K0 I.kIn M.kp (Ca (us:=[]) M F hr hb hd hx I .nil h)
end
def PK (X:Cx)(kws:List Keyword)(t:TA):Prop :=
 ∀ (pos:Pos)(pins:List (Addr×Obj))(s:Shared)(σ:St)(H:Hp)(Q:List V->Hp->Prop),au X pins σ H s->t σ H Q->wpAny (model X.prog X.w) X.A (evalAll ((backToKw pos (keywordEach kws X.env)).map (·.2))) (AP X pins σ Q) X.xe s
section
variable {X:Cx}{CX:sQ}{k:Nat}{f C:Addr}{fd:FuncData}{ps ks:List Str}{sp:Sp}{E:XK}{x m:Str}{p pos apos kpos:Pos}{e o:Expr}{es:List Expr}{kws:List Keyword}{te ta:TE}{t tk:TA}{nm:Option Str}
theorem EY:PK X [] rT:=fun _ _ _ _ H Q I h=>wpAny_evalAll_nil ⟨[],H,I,.nil,h⟩
theorem Dv (ha:PE X e te)(hr:PK X kws t):PK X (⟨nm,e,kpos⟩::kws) (jU te t):=by
 intro pos pins s σ H Q I h
 show wpAny _ _ (evalAll ((do let v <-eval e X.env;standAt pos;pure v)::(backToKw pos (keywordEach kws X.env)).map (·.2))) _ _ s
 refine wpAny_evalAll_cons (Io (bx (ha pins s σ H _ I h) fun u s1 ⟨x,H1,I1,r1,q1⟩=>Io (JA (Iu ?_))));exact bx (hr pos pins s1 σ H1 _ I1 q1) fun us s2 ⟨xs,H2,I2,r2,q2⟩=>⟨x::xs,H2,I2,.cons r1 r2,q2⟩
variable {g:List Value->List Value->List Value}{gV:List V->List V->List V}
end
structure av (N P:List Str)(sc:Scope):Prop where
 kind:sc.kind=.function
 co:sc.isCoroutine=false
 gen:sc.isGenerator=false
 nd:N.Nodup
 pre:N.take P.length=P
 par:∀ x∈P,sc.names.lookup x=some .local\/sc.names.lookup x=some .cell
 nofree:∀ y∈sc.names,y.2≠.free
theorem tu {kindOf:Str->Option NameKind}{x:Str}:∀ {binds:List (Str×Value)}{m:Str->Option Value},(∀ v,(x,v)∉binds)->bindL kindOf binds m x=m x
 | [],_,_=>rfl
 | (n,v)::r,m,h=>by
  unfold bindL;rw[tu fun w hw=>h w (Iz _ hw)];split
  ·have:x≠n:=by rintro rfl;exact h v IJ
   simp[this]
  ·rfl
theorem tj {kindOf:Str->Option NameKind}{x:Str}:∀ {binds:List (Str×Value)}{m:Str->Option Value},(∀ v,(x,v)∉binds)->bindC kindOf binds m x=m x
 | [],_,_=>rfl
 | (n,v)::r,m,h=>by
  unfold bindC;rw[tj fun w hw=>h w (Iz _ hw)];split
  ·rfl
  ·have:x≠n:=by rintro rfl;exact h v IJ
   simp[this]
theorem tq {kindOf:Str->Option NameKind}{x:Str}{v:Value}:∀ {P:List Str}{vs:List Value}{i:Nat}{m:Str->Option Value},P.Nodup->P[i]? = some x->vs[i]? = some v->kindOf x=some .local ->
  bindL kindOf (P.zip vs) m x=some v
 | [],_,_,_,_,h,_,_=>by simp at h
 | _::_,[],_,_,_,_,h,_=>by simp at h
 | p::P,w::vs,0,m,nd,h1,h2,hk=>by
  simp at h1 h2;subst h1;subst h2
  show bindL kindOf ((p,w)::P.zip vs) m p=_
  unfold bindL;rw[tu fun v hv=>(I0.mp nd).1 (List.of_mem_zip hv).1,Iq hk];simp
 | p::P,w::vs,i+1,m,nd,h1,h2,hk=>by
  show bindL kindOf ((p,w)::P.zip vs) m x=_
  unfold bindL;exact tq (i:=i) (I0.mp nd).2 (by simpa using h1) (by simpa using h2) hk
theorem ti {kindOf:Str->Option NameKind}{x:Str}{v:Value}:∀ {P:List Str}{vs:List Value}{i:Nat}{m:Str->Option Value},P.Nodup->P[i]? = some x->vs[i]? = some v->kindOf x≠some .local ->
  bindC kindOf (P.zip vs) m x=some v
 | [],_,_,_,_,h,_,_=>by simp at h
 | _::_,[],_,_,_,_,h,_=>by simp at h
 | p::P,w::vs,0,m,nd,h1,h2,hk=>by
  simp at h1 h2;subst h1;subst h2
  show bindC kindOf ((p,w)::P.zip vs) m p=_
  unfold bindC;rw[tj fun v hv=>(I0.mp nd).1 (List.of_mem_zip hv).1,Ip hk];simp
 | p::P,w::vs,i+1,m,nd,h1,h2,hk=>by
  show bindC kindOf ((p,w)::P.zip vs) m x=_
  unfold bindC;exact ti (i:=i) (I0.mp nd).2 (by simpa using h1) (by simpa using h2) hk
def kU (N:List Str)(vs:List V):St:=vs.map some++List.replicate (N.length-vs.length) none
def pG (CX:sQ)(P:Program)(w:World)(K:PySem.W.Frag)(mg:Str->Option Value)(base:Heap)(N:List Str)(qual:Str)(scope:Scope)(f:Addr)(cd:Value)(A:Around)(outer:List Env)(s:Shared)(H:Hp)(E:XK):Cx where
 prog:=P
 w:=w
 K:=K
 mg:=mg
 base:=base
 A:=A.deeper (envOfC qual scope s.heap.objs.size f cd)
 N:=N
 s₀:=s
 H₀:=H
 env:=envOfC qual scope s.heap.objs.size f cd
 outer:=outer
 stack:=envOfC qual scope s.heap.objs.size f cd::outer
 ex:=[]
 calm:=true
 fn:=fun _=>true
 pn:=[]
 xe:=fun e s'=>wpAny (model P w) (A.deeper (envOfC qual scope s.heap.objs.size f cd)) (leaving (envOfC qual scope s.heap.objs.size f cd) e) (fun _ s''=>CX outer H s E e s'') (fun e' s''=>CX outer H s E e' s'') s'
theorem vz {sc:Scope}{n:Nat}{x:Str}(h:sc.names.lookup x=some .cell):∃ c,(cellsFrom n sc.names []).lookup x=some c:=by
 have q:=PySem.W.cellsFrom_some sc.names n [] (.inl h);exact Jm.mp q
theorem zU {CX:sQ}{P:Program}{w:World}{K:PySem.W.Frag}{mg:Str->Option Value}{base:Heap}{N ps:List Str}{qual:Str}{scope:Scope}{f:Addr}{cd:Value}{A:Around}{outer:List Env}{s s1:Shared}{H:Hp}{E:XK}{us:List Value}{vs:List V}
  (S:av N ps scope) (hd:A.handled=none) (e0:t6 P w K mg base A outer s H) (hl:vs.length=ps.length) (r:bh vs us)
  (x:InCallC s s.heap.objs.size (bindL (envOfC qual scope s.heap.objs.size f cd).kindOf (ps.zip us) fun _=>none) (cellsFrom (s.heap.objs.size+1) scope.names []) (bindC (envOfC qual scope s.heap.objs.size f cd).kindOf (ps.zip us) fun _=>none) s1) :
  au (pG CX P w K mg base N qual scope f cd A outer s H E) [] (kU N vs) H s1:=by
 have hpl:ps.length<=N.length:=by have:=Jk List.length S.pre;rw[Jn]at this;omega
 obtain⟨h1,tk,rfl,hk⟩:=x.done;have noA:∀ b:Addr,b∉(pG CX P w K mg base N qual scope f cd A outer s H E).ex:=fun b z=>absurd (show b∈([]:List Addr) from z) (by simp)
 refine⟨⟨e0.mod,S.kind,rfl,rfl,Iv _,fun y z c h1 h2=>?_,fun y hy=>?_,fun y c _ h=>?_,fun _=>hd,Around.frames_deeper e0.frames,.inr ⟨rfl,rfl⟩,fun b z=>absurd z (noA b),e0.bs,e0.bsz,fun b _ _=>noA b,fun b z=>absurd z (noA b),e0.funs,e0.frf⟩,
  rfl,e0.bare,Un.kept hk,⟨_,x.toInCall.ns,fun i y v h1 h2 h3=>?_⟩,fun y c h=>⟨_,x.cell y c h⟩,e0.hok.fresh (Iv _),fun y c h=>?_,fun p hp=>absurd (show p∈([]:List (Addr×Obj)) from hp) (by simp),e0.hok.kept hk,?_⟩
 ·exact name_of_addr x.apart (JM h1) (JM h2)
 ·have hy:scope.names.lookup y=some .cell\/scope.names.lookup y=some .free:=hy
  rcases hy with hy | hy
  ·exact vz hy
  ·exact absurd rfl (S.nofree _ (JM hy))
 ·exact Kn (x.above y c (JM h))
 ·have hi:i<vs.length:=by
   unfold kU at h2
   by_cases hi:i<vs.length
   ·exact hi
   ·rw[List.getElem?_append_right (by simpa using hi)]at h2
    rw[List.getElem?_replicate]at h2;split at h2<;>cases h2
  have ha:vs[i]? = some v:=by
   unfold kU at h2;rw[List.getElem?_append_left (by simpa using hi),List.getElem?_map]at h2
   cases e:vs[i]? with
   | none=>rw[e]at h2;cases h2
   | some a=>rw[e]at h2;cases h2;rfl
  obtain⟨u,hu,rv⟩:=r.get ha
  have hp:ps[i]? = some y:=by
   rw[<-S.pre,List.getElem?_take_of_lt (by omega)];exact h1
  have ndP:ps.Nodup:=by rw[<-S.pre];exact S.nd.sublist (List.take_sublist _ _)
  refine⟨u,rv,?_⟩;rcases S.par y (IV hp) with k | k
  ·exact .inl ⟨k,tq ndP hp hu k⟩
  ·obtain⟨c,e⟩:=vz (n:=s.heap.objs.size+1) k
   refine .inr ⟨.inl k,c,e,?_⟩;have q:=x.cell y c e;rw[ti ndP hp hu (by show scope.names.lookup y≠_;rw[k];decide)]at q;exact q
 ·exact e0.hok.fresh (Kn (x.above y c (JM h)))
 ·unfold kU
  show _=N.length
  rw[ID,Ir,List.length_replicate];omega
theorem A4 {CX:sQ}{P:Program}{w:World}{K:PySem.W.Frag}{mg:Str->Option Value}{base:Heap}{k:Nat}{f:Addr}{name qual:Str}{params:Arguments}{body:List Stmt}{scope:Scope}{dV kV doc pm cdv ct oc:Value}{an od:Option Addr}
  {osl:Array (Option Value)} {N ps:List Str} {sp:Sp} (lk:K.lookup f=some ⟨oc,od,.func (PySem.W.fnOf name qual params body scope dV kV doc pm an cdv ct),osl⟩) (hcd:PySem.W.codeIn K cdv qual=true) (S:av N ps scope)
  (len:∀ vs H Q E,sp vs H Q E->vs.length=ps.length)
  (hbody:∀ (A:Around)(outer:List Env)(s:Shared)(H:Hp)(vs:List V)(Q:VK)(E:XK),cu k (A.deeper (envOfC qual scope s.heap.objs.size f cdv))->sp vs H Q E ->
   ∃ t,vk (pG CX P w K mg base N qual scope f cdv A outer s H E) body t/\t { nx:=fun _ H'=>Q .non H',rt:=Q } (kU N vs) H) :
  bd P w K mg base CX (k+1) f (PySem.W.fnOf name qual params body scope dV kV doc pm an cdv ct) ps sp:=by
 refine⟨len,fun A outer s H args us vs Q E hr e0 hb r hsp=>?_⟩;have hl:=len _ _ _ _ hsp;have KX:K.In s.heap:=e0.mod.kin.keeps fun b o e=>(e0.bs b o e).1;have lim:s.heap.NoLimit:=e0.mod.nolimit.keeps fun b o e=>(e0.bs b o e).1
 have hkind:∀ y∈ps.zip us,scope.names.lookup y.1=some .local\/(scope.names.lookup y.1=some .cell/\((cellsFrom (s.heap.objs.size+1) scope.names []).lookup y.1).isSome=true):=fun ⟨n,v⟩ hy=>by
  rcases S.par n (List.of_mem_zip hy).1 with q | q
  ·exact .inl q
  ·exact .inr ⟨q,PySem.W.cellsFrom_some _ _ _ (.inl q)⟩
 refine codeAny_call_function hr.depth (KX _ _ lk) rfl S.co S.gen rfl (PySem.W.codeRec_of KX hcd) (hb _ _ _ _ ?_);refine wpAny_newFunctionEnv_cells S.kind hkind fun env he s1 x=>?_;subst he;refine⟨lim.keeps x.toInCall.keep,codeAny_func ?_⟩;obtain⟨t,ht,hq⟩:=hbody A outer s H vs Q E (hr.deeper _) hsp;have I:au (pG CX P w K mg base N qual scope f cdv A outer s H E) [] (kU N vs) H s1:=zU S hr.hd e0 hl r x;refine IS (ht [] s1 (kU N vs) H _ I hq) (fun fl s' hs=>?_) fun e s' hs=>hs
 have fin:∀ {σ':St}{H':Hp}{v:V}{u:Value},au (pG CX P w K mg base N qual scope f cdv A outer s H E) [] σ' H' s'->aY v u->Q v H'->CE outer P w H s Q u s' :=
  fun {σ' H' v u} J rv q=>⟨v,H',J.os,J.bare,J.base,J.hok,rv,q⟩
 cases fl with
 | ret u =>
  obtain⟨v,σ',H',J,rv,q⟩:=hs;exact fin J rv q
 | next =>
  obtain⟨σ',H',J,q⟩:=hs;exact fin (v:=V.non) (u:=Value.none) J rfl q
 | brk =>
  obtain⟨_,_,_,q⟩:=hs;exact False.elim q
 | cont =>
  obtain⟨_,_,_,q⟩:=hs;exact False.elim q
section
variable {X:Cx}{x:Str}{p pos:Pos}{e:Expr}{es:List Expr}{t:TA}{id T:String}{r:List V->Hp->VK->Prop}
def HL (r:List V->Hp->VK->Prop)(t:TA):TE:=fun σ H Q=>t σ H fun vs H1=>r vs H1 Q
theorem cL (hc:kA X (.builtin id) r)(hg:Gl X x)(hm:X.mg x=none)(hv:bootBuiltins x=some (.builtin id))(ha:PA X (e::es) t)(hn:x≠"__name__":=by decide)(hdb:(x == ("__debug__" : Str))=false:=by decide)
  (he:starEach (e::es) X.env=(false,eval e X.env)::starEach es X.env:=by rfl) (hpl:(backTo pos (starEach es X.env)).any (·.1)=false:=by rfl):PE X (.Call (.Name x p) (e::es) [] pos) (HL r t):=by
 intro pins s σ H Q I h;refine JE (oj I hg hm hv ?_ hn hdb);exact PyProof.Rows.callWith_builtin1 (bx (ha pos pins s σ H _ I h) fun us s1 ⟨vs,H1,I1,r1,q1⟩=>hc pins s1 σ H1 vs us Q I1 r1 q1) he hpl
theorem dD (hc:kA X (.type T) r)(hg:Gl X x)(hm:X.mg x=none)(hv:bootBuiltins x=some (.type T))(ha:PA X (e::es) t)(hn:x≠"__name__":=by decide)(hdb:(x == ("__debug__" : Str))=false:=by decide)
  (he:starEach (e::es) X.env=(false,eval e X.env)::starEach es X.env:=by rfl) (hpl:(backTo pos (starEach es X.env)).any (·.1)=false:=by rfl):PE X (.Call (.Name x p) (e::es) [] pos) (HL r t):=by
 intro pins s σ H Q I h;refine JE (oj I hg hm hv ?_ hn hdb);exact PyProof.Rows.callWith_type1 (bx (ha pos pins s σ H _ I h) fun us s1 ⟨vs,H1,I1,r1,q1⟩=>hc pins s1 σ H1 vs us Q I1 r1 q1) he hpl
end
end L2
namespace HT
open PySem PyProof.Rows
section
open PySem.SeqAt
open PySem.AutoSeq1 (wpAny_loadPart')
open PySem.MeetsSeq PySem.MeetsSeq2 PySem.MeetsSeq3
end
section
variable {prog:Program}{w:World}{A:Around}{E:Value->Shared->Prop}{s:Shared}
def sIx (n d:Nat):Option Int->Nat
 | none=>d
 | some v=>if v<0 then (v+(n:Int)).toNat else min v.toNat n
theorem sIx_none (n d:Nat):sIx n d none=d:=rfl
theorem sIx_nat (n d k:Nat):sIx n d (some (k:Int))=min k n:=by
 show (if (k:Int)<0 then ((k:Int)+(n:Int)).toNat else min (k:Int).toNat n)=min k n
 rw[Ip (by omega),Int.toNat_natCast]
theorem Fh (n d:Nat)(hd:d<=n)(o:Option Int):sIx n d o<=n:=by
 cases o with
 | none=>exact hd
 | some v =>
  show (if v<0 then (v+(n:Int)).toNat else min v.toNat n)<=n
  by_cases hv:v<0
  ·rw[Iq hv];omega
  ·rw[Ip hv];exact Nat.min_le_right _ _
theorem yF (v:Int)(n d:Nat):(if v<0 then max (v+(n:Int)) 0 else min v (n:Int))=((sIx n d (some v):Nat):Int):=by
 show (if v<0 then max (v+(n:Int)) 0 else min v (n:Int))=(((if v<0 then (v+(n:Int)).toNat else min v.toNat n):Nat):Int)
 by_cases hv:v<0
 ·simp only[Iq hv];omega
 ·simp only[Ip hv];omega
theorem xp (lo hi:Option Int)(n:Nat):Builtin.Slice.sliceAdjust lo hi 1 (n:Int)=(((sIx n 0 lo:Nat):Int),((sIx n n hi:Nat):Int)):=by
 have h1:¬ ((1:Int)<0):=by omega
 unfold Builtin.Slice.sliceAdjust;simp only[h1,J5];refine Prod.ext ?_ ?_
 ·cases lo with
  | none=>rfl
  | some v=>exact yF v n 0
 ·cases hi with
  | none=>rfl
  | some v=>exact yF v n n
theorem x9 (i j:Nat):Builtin.Slice.slicePlaces (i:Int) (j:Int) 1=j-i:=by
 unfold Builtin.Slice.slicePlaces
 have h1:(1:Int)>0:=by omega
 simp only[h1,Kx,Int.ediv_one];split<;>omega
theorem rL {v:Value}{o:Option Int}{Q:Option Int->Shared->Prop}(p:IsPart v o)(h:Q o s):wpAny (model prog w) A (Builtin.Slice.slicePartIndex v) Q E s:=by
 cases p with
 | none=>exact slicePart_none h
 | int i t=>exact slicePart_int h
theorem oJ {sl:Addr}{vl vu:Value}{lo hi:Option Int}{n:Nat}{Q:Int×Int×Nat->Shared->Prop}(hs:s.heap.IsSliceOf sl vl vu .none)(pl:IsPart vl lo)(pu:IsPart vu hi)
  (h:Q (((sIx n 0 lo:Nat):Int),1,sIx n n hi-sIx n 0 lo) s):wpAny (model prog w) A (Builtin.Slice.sliceApplied (.ref sl) (pure (n:Int))) Q E s:=by
 obtain⟨os,hos,hcs,hds⟩:=id hs;unfold Builtin.Slice.sliceApplied Builtin.Slice.sliceFields;refine Io (Io (KI hos hds (x:=vl) rfl (Io (KI hos hds (x:=vu) rfl (Io (KI hos hds (x:=.none) rfl (Iu ?_)))))));refine Io (slicePart_none ?_)
 show wpAny _ _ (if ((1:Int) == 0)=true then _ else _) _ _ s
 rw[Ip (by decide)];refine Io (rL pl (Io (rL pu (Io (Iu ?_)))))
 show wpAny _ _ (match Builtin.Slice.sliceAdjust lo hi 1 (n:Int) with | (lo,hi)=>pure (lo,(1:Int),Builtin.Slice.slicePlaces lo hi 1)) _ _ s
 rw[xp lo hi n]
 show wpAny _ _ (pure (((sIx n 0 lo:Nat):Int),(1:Int),Builtin.Slice.slicePlaces ((sIx n 0 lo:Nat):Int) ((sIx n n hi:Nat):Int) 1)) _ _ s
 rw[x9];exact Iu h
theorem BR (xs:Array Value)(i k:Nat):((List.range k).filterMap fun (m:Nat)=>xs[((i:Int)+(m:Int)*1).toNat]?).toArray=((xs.toList.drop i).take k).toArray:=by
 have e:(fun (m:Nat)=>xs[((i:Int)+(m:Int)*1).toNat]?)=fun m=>xs[i+m]?:=by
  funext m
  have:((i:Int)+(m:Int)*1).toNat=i+m:=by omega
  rw[this]
 rw[e];have:=pick_run xs i k;rw[List.filterMap_map]at this;have e2:((fun x=>xs[x]?) ∘ fun x=>i+x)=fun m=>xs[i+m]?:=rfl;rw[e2]at this;rw[this]
theorem getItem_tuple_cut {t sl:Addr}{items:Array Value}{vl vu:Value}{lo hi:Option Int}{Q:Value->Shared->Prop}(ht:IsTup s.heap t items)(hs:s.heap.IsSliceOf sl vl vu .none)(pl:IsPart vl lo)(pu:IsPart vu hi)
  (hw:¬ (sIx items.size 0 lo=0/\sIx items.size items.size hi=items.size))
  (h:Q (.ref s.heap.objs.size) { s with heap:=s.heap.push { cls:=.type "tuple",data:=.seq ((items.toList.drop (sIx items.size 0 lo)).take (sIx items.size items.size hi-sIx items.size 0 lo)).toArray } })
  (hsz:items.size<=sizeLine):wpAny (model prog w) A (getItem (.ref t) (.ref sl)) Q E s:=by
 have htake:sizeOk (.seq ((items.toList.drop (sIx items.size 0 lo)).take (sIx items.size items.size hi-sIx items.size 0 lo)).toArray):=by
  show ((items.toList.drop (sIx items.size 0 lo)).take (sIx items.size items.size hi-sIx items.size 0 lo)).toArray.size<=sizeLine
  rw[IR,Jn,List.length_drop,IU];omega
 have hj:sIx items.size items.size hi<=items.size:=Fh _ _ (Iv _) hi;obtain⟨os,hos,hcs,hds⟩:=id hs;have hTs:s.TypeIs (.ref sl) "slice":=⟨os,hos,hcs⟩;unfold getItem
 try with_reducible refine Jv ?_
 first | refine Io (Iu ?_) | skip
 refine Io (wpAny_sequenceKey ht.typeIs (by decide) ?_)
 refine Io (wpAny_callSpecial?_slot (name:=Str.ofString "__getitem__") ht.typeIs PyProof.Rows.slot_tuple_getitem
  (J6 PyProof.Rows.slot_tuple_getitem ht.typeIs entry_tuple_getitem ?_ (args_tuple_getitem _ _)))
 show wpAny _ _ (Builtin.Tuple.tupleItemsOf (.ref t) >>= _) _ _ s
 refine Io (tupleItemsOf_ ht ?_);refine Io (wpAny_typeOf hTs ?_);rw[Iq (by decide)];refine Io (oJ hs pl pu ?_)
 have hno:¬ ((((sIx items.size 0 lo:Nat):Int) == 0&&(1:Int) == 1&&(sIx items.size items.size hi-sIx items.size 0 lo) == items.size)=true):=by
  intro q;rw[Ko,Ko]at q;have q1:((sIx items.size 0 lo:Nat):Int)=0:=eq_of_beq q.1.1;have q2:sIx items.size items.size hi-sIx items.size 0 lo=items.size:=eq_of_beq q.2;exact hw ⟨by omega,by omega⟩
 show wpAny _ _ (if (((sIx items.size 0 lo:Nat):Int) == 0&&(1:Int) == 1&&(sIx items.size items.size hi-sIx items.size 0 lo) == items.size)=true then _ else _) _ _ s
 rw[Ip hno,BR]
 first
  | exact Io (m:=Builtin.Tuple.tupleExact _) (Jq (Iu ⟨_,rfl,Iu h⟩) htake)
  | exact Io (m:=Builtin.Tuple.tupleExact _) (Jq (Io (Iu (Iu ⟨_,rfl,Iu h⟩))) htake)
  | exact Io (Io (m:=Builtin.Tuple.tupleExact _) (Jq (Iu (Iu ⟨_,rfl,Iu h⟩)) htake))
  | exact Io (Io (m:=Builtin.Tuple.tupleExact _) (Jq (Iu ⟨_,rfl,Iu h⟩) htake))
end
end HT
namespace L2
open PySem PySem.Spec PyProof.Rows
abbrev TO:=St->Hp->(Option Int->Hp->Prop)->Prop
def PO (X:Cx)(e:Option Expr)(t:TO):Prop :=
 ∀ (pins:List (Addr×Obj))(s:Shared)(σ:St)(H:Hp)(Q:Option Int->Hp->Prop),au X pins σ H s->t σ H Q ->
  wpAny (model X.prog X.w) X.A (evalPart e X.env) (fun u s'=>∃ o H',au X pins σ H' s'/\IsPart u o/\Q o H') X.xe s
def zm:TO:=fun _ H Q=>Q none H
def Gy (t:TE):TO:=fun σ H Q=>t σ H fun x H1=>∃ i,x=.int i/\Q (some i) H1
section
variable {X:Cx}{e:Expr}{te:TE}{lo hi:Option Expr}{tl th:TO}{pos p2:Pos}
theorem j8:PO X none zm:=by
 intro pins s σ H Q I h;rw[evalPart_none];exact Iu ⟨none,H,I,.none,h⟩
theorem gQ (h:PE X e te):PO X (some e) (Gy te):=by
 intro pins s σ H Q I hw;rw[evalPart_some];refine bx (h pins s σ H _ I hw) fun u s1 ⟨x,H1,I1,r1,q1⟩=>?_;obtain⟨i,rfl,q⟩:=q1;obtain⟨t,rfl⟩:=r1;exact⟨some i,H1,I1,.int i t,q⟩
def GS (X:Cx)(r:V->Option Int->Option Int->Hp->VK->Prop):Prop :=
 ∀ (pins:List (Addr×Obj))(s:Shared)(σ:St)(H:Hp)(x:V)(v vl vu:Value)(lo hi:Option Int)(sl:Addr)(Q:VK),au X pins σ H s->aY x v->s.heap.IsSliceOf sl vl vu .none->IsPart vl lo->IsPart vu hi->r x lo hi H Q ->
  ∃ T id,typeLookup (.type T) "__getitem__" = pure (some (.builtin id))/\s.TypeIs v T/\wpAny (model X.prog X.w) X.A (getItem v (.ref sl)) (EP X pins σ Q) X.xe s
def Ig (r:V->Option Int->Option Int->Hp->VK->Prop)(te:TE)(tl th:TO):TE:=fun σ H Q=>te σ H fun x H1=>tl σ H1 fun l H2=>th σ H2 fun u H3=>r x l u H3 Q
theorem gd {r:V->Option Int->Option Int->Hp->VK->Prop}(hr:GS X r)(he:PE X e te)(hl:PO X lo tl)(hu:PO X hi th):PE X (.Subscript e (.Slice lo hi none p2) pos) (Ig r te tl th):=by
 intro pins s σ H Q I h;refine Subscript_ (bx (he pins s σ H _ I h) fun v s1 ⟨x,H1,I1,r1,q1⟩=>?_);refine wpAny_Slice (bx (hl pins s1 σ H1 _ I1 q1) fun vl s2 ⟨l,H2,I2,pl,q2⟩=>bx (hu pins s2 σ H2 _ I2 q2) fun vu s3 ⟨u,H3,I3,pu,q3⟩=>?_);rw[evalPart_none];refine Iu ?_;have I4:au X pins σ H3 { s3 with heap:=s3.heap.push { cls:=.type "slice",data:=.fields #[vl,vu,.none] } }:=I3.kept (t':=s3.toks) fun b ob q=>Heap.get?_push_of_some _ q;obtain⟨T,id,hT,ht,hg⟩:=hr pins { s3 with heap:=s3.heap.push { cls:=.type "slice",data:=.fields #[vl,vu,.none] } } σ H3 x v vl vu l u s3.heap.objs.size Q I4 r1 (Heap.IsSliceOf.new ..) pl pu q3
 show wpAny (model X.prog X.w) X.A (subscriptTail e (.Slice lo hi none p2) v (.ref s3.heap.objs.size)) (EP X pins σ Q) X.xe { s3 with heap:=s3.heap.push { cls:=.type "slice",data:=.fields #[vl,vu,.none] } }
 exact tail_any (ops:=[.ref s3.heap.objs.size,v]) ht hT hg (by with_unfolding_all rfl)
def kr (xs:List V)(lo hi:Option Int):List V:=(xs.drop (HT.sIx xs.length 0 lo)).take (HT.sIx xs.length xs.length hi-HT.sIx xs.length 0 lo)
theorem o0 (xs:List V)(lo hi:Option Int):(kr xs lo hi).length<=xs.length:=by
 unfold kr;rw[Jn,List.length_drop];omega
def Hf (K:PySem.W.Frag):V->Option Int->Option Int->Hp->VK->Prop:=fun x lo hi H Q=>∃ a xs,x=.ref a/\c6 K H a xs /\
 ¬ (HT.sIx xs.length 0 lo=0/\HT.sIx xs.length xs.length hi=xs.length)/\∀ p,H p=none->Q (.ref p) (upd H p (.tup (kr xs lo hi)))
theorem Fk:GS X (Hf X.K):=by
 intro pins s σ H x v vl vu lo hi sl Q I rx hs pl pu h;obtain⟨a,xs,rfl,hx,hw,q⟩:=h;cases rx;obtain⟨its,r,ht,hz⟩:=I.tuple hx
 have hlen:its.toArray.size=xs.length:=by rw[IR];exact r.length.symm
 refine⟨"tuple",_,PyProof.Rows.slot_tuple_getitem.lookup,ht.typeIs,?_⟩;refine HT.getItem_tuple_cut ht hs pl pu (by rw[hlen];exact hw) ?_ (by rw[hlen];exact hz);rw[hlen];refine⟨.ref s.heap.objs.size,_,I.laid (t':=s.toks) (o:=.tup (kr xs lo hi)) (fun b ob q=>Heap.get?_push_of_some _ q) (Iv _) ?_,rfl,q _ (I.hok.fresh (Iv _))⟩;exact⟨Jb (o0 xs lo hi) hz,_,(r.drop (HT.sIx xs.length 0 lo)).take (HT.sIx xs.length xs.length hi-HT.sIx xs.length 0 lo),IsTup.new _ _⟩
end
def D3 (n:Nat)(i:Int):Option Nat:=if 0<=i then (if i<n then some i.toNat else none) else if -(n:Int)<=i then some (i+n).toNat else none
def rZ {α:Type}(xs:List α)(i:Int):Option α:=(D3 xs.length i).bind fun j=>xs[j]?
theorem Db {n:Nat}{i:Int}{j:Nat}(h:D3 n i=some j):seqIndex? i n=some j/\j<n/\-(n:Int)<=i/\i<n:=by
 unfold D3 at h
 by_cases h0:0<=i
 ·rw[Iq h0]at h
  by_cases h1:i<n
  ·rw[Iq h1]at h
   have e:i.toNat=j:=Iy h;exact⟨by rw[seqIndex_of h0 h1,e],by omega,by omega,h1⟩
  ·rw[Ip h1]at h;cases h
 ·rw[Ip h0]at h
  by_cases h1 : -(n:Int)<=i
  ·rw[Iq h1]at h
   have e:(i+n).toNat=j:=Iy h;exact⟨by rw[seqIndex_neg (by omega) h1,e],by omega,h1,by omega⟩
  ·rw[Ip h1]at h;cases h
theorem yC {α:Type}{xs:List α}{i:Int}{v:α}(h:rZ xs i=some v):∃ j,seqIndex? i xs.length=some j/\xs[j]? = some v/\j<xs.length/\-(xs.length:Int)<=i/\i<xs.length:=by
 unfold rZ at h
 cases e:D3 xs.length i with
 | none=>rw[e]at h;cases h
 | some j =>
  rw[e]at h;obtain⟨h1,h2,h3,h4⟩:=Db e;exact⟨j,h1,h,h2,h3,h4⟩
theorem df {α:Type}{xs:List α}{j:Nat}{v:α}(h:xs[j]? = some v):rZ xs (j:Int)=some v:=by
 have hj:j<xs.length:=(List.getElem?_eq_some_iff.mp h).1
 have e:D3 xs.length (j:Int)=some j:=by
  unfold D3;rw[Iq (by omega),Iq (by omega)];simp
 unfold rZ;rw[e];exact h
theorem vw {α:Type}(xs:List α)(v:α):rZ (xs++[v]) (-1)=some v:=by
 have hl:(xs++[v]).length=xs.length+1:=by simp
 have e:D3 (xs++[v]).length (-1)=some xs.length:=by
  unfold D3;rw[hl,Ip (by decide),Iq (by omega)]
  congr 1
  omega
 unfold rZ;rw[e]
 show (xs++[v])[xs.length]? = some v
 simp
def CG (b:Expr):Prop:=∀ o i,subscripted b false o i=operate [o,i] (getItem o i)
def GQ (X:Cx)(r:R2):Prop :=
 ∀ (value slice:Expr)(pins:List (Addr×Obj))(s:Shared)(σ:St)(H:Hp)(x y:V)(v u:Value)(Q:VK),au X pins σ H s->aY x v->aY y u->r x y H Q ->
  subscripted slice false v u=operate [v,u] (getItem v u)->wpAny (model X.prog X.w) X.A (subscriptTail value slice v u) (EP X pins σ Q) X.xe s
def HR (X:Cx)(id:String)(r:V->List V->Hp->VK->Prop):Prop :=
 ∀ (pins:List (Addr×Obj))(s:Shared)(σ:St)(H:Hp)(x:V)(xs:List V)(v:Value)(us:List Value)(Q:VK),au X pins σ H s->aY x v->bh xs us->r x xs H Q ->
  wpAny (model X.prog X.w) X.A (call (.builtin id) (v::us)) (EP X pins σ Q) X.xe s
section
variable {X:Cx}{a b:Expr}{ta tb:TE}{pos:Pos}
theorem aX {r:R2}(hr:GQ X r)(ha:PE X a ta)(hb:PE X b tb)(hs:CG b):PE X (.Subscript a b pos) (GL r ta tb):=by
 intro pins s σ H Q I h;exact Subscript_ (Es ha hb I h fun v u s2 x y H2 I2 rx ry q=>hr a b pins s2 σ H2 x y v u Q I2 rx ry q (hs _ _))
inductive HB (K:PySem.W.Frag) (x y:V) (H:Hp) (Q:VK):Prop
 | mk (p:Addr) (xs:List V) (i:Int) (v:V) (e1:x=.ref p) (e2:y=.int i) (q:bF K H p xs) (a:rZ xs i=some v) (h:Q v H):HB K x y H Q
def Hd (K:PySem.W.Frag):R2:=fun x y H Q=>HB K x y H Q
inductive HC (K:PySem.W.Frag) (x y:V) (H:Hp) (Q:VK):Prop
 | mk (p:Addr) (xs:List V) (i:Int) (v:V) (e1:x=.ref p) (e2:y=.int i) (q:c6 K H p xs) (a:rZ xs i=some v) (h:Q v H):HC K x y H Q
def He (K:PySem.W.Frag):R2:=fun x y H Q=>HC K x y H Q
theorem mj:GQ X (Hd X.K):=by
 intro value slice pins s σ H x y v u Q I rx ry h hs;obtain⟨p,xs,i,z,rfl,rfl,hq,he,q⟩:=h;cases rx;obtain⟨t,rfl⟩:=ry;obtain⟨its,r,pl,hz⟩:=I.list hq;obtain⟨j,h1,h2,h3,h4,h5⟩:=yC he;obtain⟨w,ew,rw'⟩:=r.get h2;have hl:=r.length;have hn:=uD;have fin:EP X pins σ Q w s:=⟨z,H,I,rw',q⟩
 by_cases h0:0<=i
 ·have hj:i.toNat=j:=by
   rw[seqIndex_of h0 h5]at h1;exact Iy h1
  exact item_listR pl.isList h0 (by omega) (by rw[hj];simpa using ew) fin hs
 ·have hj:(i+(its.toArray.size:Int)).toNat=j:=by
   rw[seqIndex_neg (by omega) h4]at h1;rw[IR,<-hl];exact Iy h1
  exact subscriptTail_builtinR (x:=w) pl.isList.typeIs slot_list_getitem.lookup
   (wpAny_getItem_list_neg (Q:=fun r s'=>r=w/\EP X pins σ Q r s') pl.isList (by omega) (by rw[IR]<;>omega) (by omega) (by rw[hj];simpa using ew) ⟨rfl,fin⟩) hs
theorem aQ:GQ X (He X.K):=by
 intro value slice pins s σ H x y v u Q I rx ry h hs;obtain⟨p,xs,i,z,rfl,rfl,hq,he,q⟩:=h;cases rx;obtain⟨t,rfl⟩:=ry;obtain⟨its,r,pl,hz⟩:=I.tuple hq;obtain⟨j,h1,h2,h3,h4,h5⟩:=yC he;obtain⟨w,ew,rw'⟩:=r.get h2;have hl:=r.length;have hn:=uD;have fin:EP X pins σ Q w s:=⟨z,H,I,rw',q⟩
 exact subscriptTail_builtinR (x:=w) pl.typeIs slot_tuple_getitem.lookup
  (getItem_tuple (j:=j) (Q:=fun r s'=>r=w/\EP X pins σ Q r s') pl (by omega) (by omega) (by rw[IR,<-hl];exact h1) (by simpa using ew) ⟨rfl,fin⟩) hs
theorem u8 (lo hi:Option Int)(n:Nat):(sliceBounds lo hi none n).1=((HT.sIx n 0 lo:Nat):Int)/\(sliceBounds lo hi none n).2.1=((HT.sIx n n hi:Nat):Int)/\(sliceBounds lo hi none n).2.2=1:=by
 refine⟨?_,?_,rfl⟩
 ·cases lo with
  | none=>simp[sliceBounds,HT.sIx]
  | some i =>
   simp only[sliceBounds,HT.sIx,Option.getD_none,show (1:Int)>0 by decide,Kx]
   by_cases h:i<0
   ·simp only[h,Kx]<;>omega
   ·simp only[h,J5]<;>omega
 ·cases hi with
  | none=>simp[sliceBounds,HT.sIx]
  | some i =>
   simp only[sliceBounds,HT.sIx,Option.getD_none,show (1:Int)>0 by decide,Kx]
   by_cases h:i<0
   ·simp only[h,Kx]<;>omega
   ·simp only[h,J5]<;>omega
theorem sO (its:List Value)(lo hi:Option Int):slicePick its.toArray lo hi none=((its.drop (HT.sIx its.length 0 lo)).take (HT.sIx its.length its.length hi-HT.sIx its.length 0 lo)).toArray:=by
 obtain⟨h1,h2,h3⟩:=u8 lo hi its.toArray.size;unfold slicePick;rw[h1,h2,h3];simp only[sliceRange_one,pick_run,IR]<;>rfl
inductive Fg (K:PySem.W.Frag) (x:V) (lo:Option Int) (hi:Option Int) (H:Hp) (Q:VK):Prop
 | mk (a:Addr) (xs:List V) (h_0:x=.ref a) (h_1:bF K H a xs) (h_2:∀ p,H p=none->Q (.ref p) (upd H p (.lst (kr xs lo hi)))):Fg K x lo hi H Q
theorem ka:GS X (Fg X.K):=by
 intro pins s σ H x v vl vu lo hi sl Q I rx hs pl pu h;obtain⟨a,xs,rfl,hx,q⟩:=h;cases rx;obtain⟨its,r,ht,hz⟩:=I.list hx;have hlen:=r.length;refine⟨"list",_,slot_list_getitem.lookup,ht.isList.typeIs,?_⟩;refine wpAny_getItem_list_slice ht.isList hs pl pu .none (by simp) ?_ (by rw[IR]<;>omega);rw[sO,<-hlen];refine⟨.ref s.heap.objs.size,_,I.laid (t':=s.toks) (o:=.lst (kr xs lo hi)) (fun b ob q=>Heap.get?_push_of_some _ q) (Iv _) ?_,rfl,q _ (I.hok.fresh (Iv _))⟩;exact⟨Jb (o0 xs lo hi) hz,_,0,(r.drop (HT.sIx xs.length 0 lo)).take (HT.sIx xs.length xs.length hi-HT.sIx xs.length 0 lo),Heap.get?_push_size _ rfl⟩
def A3:V->Bool
 | .non=>true
 | .bl _=>true
 | .int _=>true
 | .str _=>true
 | _=>false
def GK:V->V->Bool
 | .non,.non=>true
 | .bl a,.bl b=>a == b
 | .bl a,.int b=>(if a then 1 else 0) == b
 | .int a,.bl b=>a == (if b then 1 else 0)
 | .int a,.int b=>a == b
 | .str a,.str b=>a == b
 | _,_=>false
theorem Ew {A:Around}{s:Shared}{y x:V}{u v:Value}(ry:aY y u)(rx:aY x v)(fy:A3 y=true)(fx:A3 x=true):SeqAt.EqAt A s u v (GK y x):=by
 cases y with
 | non =>
  cases ry
  cases x with
  | non=>cases rx;exact SeqAt.EqAt.same _
  | bl b=>cases rx;exact SeqAt.EqAt.none_bool b
  | int b=>obtain⟨t,rfl⟩:=rx;exact SeqAt.EqAt.none_int b t
  | str b=>obtain⟨t,rfl⟩:=rx;exact SeqAt.EqAt.none_str b t
  | _=>exact absurd (show false=true from fx) Iw
 | bl a =>
  cases ry
  cases x with
  | non=>cases rx;exact SeqAt.EqAt.bool_none a
  | bl b=>cases rx;exact SeqAt.EqAt.bool_bool a b
  | int b=>obtain⟨t,rfl⟩:=rx;exact SeqAt.EqAt.bool_int a b t
  | str b=>obtain⟨t,rfl⟩:=rx;exact SeqAt.EqAt.bool_str a b t
  | _=>exact absurd (show false=true from fx) Iw
 | int a =>
  obtain⟨t',rfl⟩:=ry
  cases x with
  | non=>cases rx;exact SeqAt.EqAt.int_none a t'
  | bl b=>cases rx;exact SeqAt.EqAt.int_bool a t' b
  | int b=>obtain⟨t,rfl⟩:=rx;exact SeqAt.EqAt.int_int a t' b t
  | str b=>obtain⟨t,rfl⟩:=rx;exact SeqAt.EqAt.int_str a t' b t
  | _=>exact absurd (show false=true from fx) Iw
 | str a =>
  obtain⟨t',rfl⟩:=ry
  cases x with
  | non=>cases rx;exact SeqAt.EqAt.str_none a t'
  | bl b=>cases rx;exact SeqAt.EqAt.str_bool a t' b
  | int b=>obtain⟨t,rfl⟩:=rx;exact SeqAt.EqAt.str_int a t' b t
  | str b=>obtain⟨t,rfl⟩:=rx;exact SeqAt.EqAt.str_str a t' b t
  | _=>exact absurd (show false=true from fx) Iw
 | _=>exact absurd (show false=true from fy) Iw
theorem dy:kA X (.builtin "len") (fun xs H Q=>∃ p ys,xs=[.ref p]/\(bF X.K H p ys\/c6 X.K H p ys)/\Q (.int ys.length) H):=by
 intro pins s σ H xs us Q I r h;obtain⟨p,ys,rfl,hq,q⟩:=h;obtain⟨u,rfl,rx⟩:=kW r;cases rx;have hn:=uD;rcases hq with hq | hq
 ·obtain⟨its,r',pl,hz⟩:=I.list hq
  have hlen:=r'.length;exact Calls.call_len_list pl.isList (by simp only[IR]<;>omega) ⟨.int ys.length,H,I.tok _,⟨s.toks+1,by rw[IR,hlen]⟩,q⟩
 ·obtain⟨its,r',pl,hz⟩:=I.tuple hq
  have hlen:=r'.length;exact len_tuple pl (by simp only[IR]<;>omega) ⟨.int ys.length,H,I.tok _,⟨s.toks+1,by rw[IR,hlen]⟩,q⟩
theorem fE:kA X (.type "list") (fun xs H Q=>∃ p ys,xs=[.ref p]/\(bF X.K H p ys\/c6 X.K H p ys)/\∀ l,H l=none->Q (.ref l) (upd H l (.lst ys))):=by
 intro pins s σ H xs us Q I r h;obtain⟨p,ys,rfl,hq,q⟩:=h;obtain⟨u,rfl,rx⟩:=kW r;cases rx
 have fin:∀ (its:List Value),bh ys its->ys.length<=sizeLine->∀ (h':Heap)(c':Nat),(∀ b o',s.heap.get? b=some o'->h'.get? b=some o') ->
   h'.get? s.heap.objs.size=some { cls:=.type "list",dict:=none,data:=.seq its.toArray c',slots:=#[] }->EP X pins σ Q (.ref s.heap.objs.size) { s with heap:=h' }:=fun its r' hz h' c' kp e =>
  ⟨.ref s.heap.objs.size,_,I.laid (t':=s.toks) kp (Iv _) (show bo X.prog X.w _ h' _ (.lst ys) from ⟨hz,its,c',r',e⟩),rfl,q _ (I.hok.fresh (Iv _))⟩
 rcases hq with hq | hq
 ·obtain⟨its,r',pl,hz⟩:=I.list hq
  have hlen:=r'.length;obtain⟨o,ho,hc,n,hd⟩:=pl.isList;exact call_list_seq p (.inl rfl) ho hc hd (fun h' c' kp e=>fin its r' hz h' c' kp e) (by simp only[IR]<;>omega)
 ·obtain⟨its,r',pl,hz⟩:=I.tuple hq
  have hlen:=r'.length;obtain⟨o,ho,hc,n,hd⟩:=pl;exact call_list_seq p (.inr rfl) ho hc hd (fun h' c' kp e=>fin its r' hz h' c' kp e) (by simp only[IR]<;>omega)
def HN (K:PySem.W.Frag)(T:String)(x:V)(H:Hp):Prop:=match x with
 | .str _=>T="str"
 | .int _=>T="int"
 | .ref p=>(T="list"/\∃ xs,bF K H p xs)\/(T="tuple"/\∃ o,K.lookup p=some o/\o.cls=.type "tuple"/\o.dict=none) \/
   (T="dict"/\((∃ kvs,H p=some (.dK kvs))\/∃ kvs,H p=some (.dT kvs)))\/(T="set"/\∃ S n,H p=some (.set S n))
 | _=>False
theorem FC {pins:List (Addr×Obj)}{σ:St}{H:Hp}{s:Shared}{T:String}{x:V}{v:Value}(I:au X pins σ H s)(r:aY x v)(ty:HN X.K T x H) :
  s.TypeIs v T/\∀ a,v=.ref a->∃ ob,s.heap.get? a=some ob/\ob.dict=none:=by
 cases x with
 | str z =>
  obtain⟨t,rfl⟩:=r;cases (show T="str" from ty);exact⟨typeIs_str s z t,fun _ e=>nomatch e⟩
 | int i =>
  obtain⟨t,rfl⟩:=r;cases (show T="int" from ty);exact⟨typeIs_int s i t,fun _ e=>nomatch e⟩
 | ref p =>
  cases r;rcases ty with ⟨rfl,xs,hq⟩ | ⟨rfl,o,hk,hc,hd⟩ | ⟨rfl,hk⟩ | ⟨rfl,S,n,hk⟩
  ·obtain⟨its,_,pl,_⟩:=I.list hq
   refine⟨pl.isList.typeIs,fun a e=>?_⟩;cases e;obtain⟨o,n,e,c,hd,_⟩:=pl;exact⟨o,e,hd⟩
  ·refine⟨⟨o,I.kIn p o hk,hc⟩,fun a e=>?_⟩
   cases e;exact⟨o,I.kIn _ o hk,hd⟩
  ·have z:∃ o,s.heap.get? p=some o/\o.ExactDict:=by
    rcases hk with ⟨kvs,hk⟩ | ⟨kvs,hk⟩
    ·obtain⟨_,_,_,_,o,_,_,e,ex,_⟩:=I.hok p _ hk
     exact⟨o,e,ex⟩
    ·obtain⟨_,_,_,_,o,_,_,e,ex,_⟩:=I.hok p _ hk
     exact⟨o,e,ex⟩
   obtain⟨o,e,ex⟩:=z;refine⟨⟨o,e,ex.1⟩,fun a e2=>?_⟩;cases e2;exact⟨o,e,ex.2.1⟩
  ·obtain⟨o,_,_,_,e,ex,_⟩:=I.hok p _ hk
   refine⟨⟨o,e,ex.1⟩,fun a e2=>?_⟩;cases e2;exact⟨o,e,ex.2.1⟩
 | _=>exact False.elim ty
def Ia (K:PySem.W.Frag)(T:String)(r:V->List V->Hp->VK->Prop)(to:TE)(t:TA):TE:=fun σ H Q=>to σ H fun x H1=>HN K T x H1/\t σ H1 fun xs H2=>r x xs H2 Q
variable {o e:Expr}{es:List Expr}{to:TE}{t:TA}{name:Str}{apos cpos:Pos}{T id:String}{r:V->List V->Hp->VK->Prop}
theorem jK (pa:PlainAttrs T)(slot:Slot T name id)(hty:typeOf (.builtin id)=pure (.type "method_descriptor"))(hm:HR X id r)(ho:PE X o to)(ha:PA X (e::es) t)
  (hbase:attributeBase o name X.env (eval o X.env)=eval o X.env:=by rfl)
  (hfew:((backTo cpos (starEach (e::es) X.env)).all (fun x=>!x.1)&&(backToKw cpos (keywordEach [] X.env)).all (fun x=>x.1.isSome)
   && decide ((e::es).length+([]:List Keyword).length+(if ([]:List Keyword).isEmpty then 0 else 1)<30))=true:=by rfl)
  (hline:(apos.endLine == cpos.line)=true:=by rfl) (hs:starEach (e::es) X.env=(false,eval e X.env)::starEach es X.env:=by rfl) (hplain:(backTo cpos (starEach es X.env)).any (·.1)=false:=by rfl) :
  PE X (.Call (.Attribute o name apos) (e::es) [] cpos) (Ia X.K T r to t):=by
 intro pins s σ H Q I h;refine wpAny_Call_method_late hbase hfew hline rfl (bx (ho pins s σ H _ I h) fun v s1 ⟨x,H1,I1,r1,ty,q1⟩=>?_);obtain⟨h1,h2⟩:=FC I1 r1 ty;refine⟨T,id,pa,slot,hty,h1,h2,?_⟩;have hA:=ha cpos pins s1 σ H1 _ I1 q1;rw[hs]at hA ⊢;refine Kb (by show (false||(backTo cpos (starEach es X.env)).any (·.1))=false;rw[hplain]<;>rfl) (JP ?_);exact bx hA fun us s2 ⟨vs,H2,I2,r2,q2⟩=>hm pins s2 σ H2 x vs v us Q I2 r1 r2 q2
end
def HQ (X:Cx)(id:String)(r:V->List V->Hp->VK->Prop):Prop :=
 ∀ (pins:List (Addr×Obj))(s:Shared)(σ:St)(H:Hp)(x:V)(xs:List V)(v:Value)(us:List Value)(Q:VK),au X pins σ H s->aY x v->bh xs us->r x xs H Q ->
  wpAny (model X.prog X.w) X.A (call (.builtin id) (v::us)) (EP X pins σ Q) X.xe s
theorem bh.one:∀ {x:V}{us:List Value},bh [x] us->∃ u,us=[u]/\aY x u
 | _,_,.cons r .nil=>⟨_,rfl,r⟩
theorem bh.two:∀ {x y:V}{us:List Value},bh [x,y] us->∃ u v,us=[u,v]/\aY x u/\aY y v
 | _,_,_,.cons r (.cons q .nil)=>⟨_,_,rfl,r,q⟩
section
variable {X:Cx}{pins:List (Addr×Obj)}{σ:St}{H:Hp}{s:Shared}{l b:Addr}{xs ys zs:List V}
theorem au.lset {its its':List Value}{n:Nat}{f:Array Value->Array Value}{t':Nat}(I:au X pins σ H s)(hH:H l=some (.lst xs))
  (e:s.heap.get? l=some { cls:=.type "list",data:=.seq its.toArray n }) (hf:f its.toArray=its'.toArray) (hv:bh ys its') (hz:ys.length<=sizeLine) :
  au X pins σ (upd H l (.lst ys)) { s with heap:=s.heap.update l (Obj.mapSeq f),toks:=t' }:=by
 have q:=PySem.IsL.update e f;rw[hf]at q;refine I.write (x:=l) (e:=l) (by rw[hH];exact trivial) (.inl rfl) (fun b' u hb hu=>(Heap.get?_update_other s.heap (Obj.mapSeq f) (IN hb)).trans hu) ⟨_,q⟩ ?_;exact⟨hz,its',_,hv,q⟩
theorem au.lnew {its:List Value}{t':Nat}(I:au X pins σ H s)(hv:bh ys its)(hz:ys.length<=sizeLine) :
  au X pins σ (upd H s.heap.objs.size (.lst ys)) { s with heap:=s.heap.push { cls:=.type "list",data:=.seq its.toArray },toks:=t' } :=
 I.laid (fun _ _ q=>Heap.get?_push_of_some _ q) (Iv _) ⟨hz,its,0,hv,Heap.get?_push_size _ rfl⟩
theorem au.fresh (I:au X pins σ H s):H s.heap.objs.size=none:=I.hok.fresh (Iv _)
theorem au.lstM (I:au X pins σ H s)(hH:H l=some (.lst xs)):xs.length<=sizeLine/\∃ (its:List Value)(n:Nat),bh xs its/\xs.length=its.length/\s.heap.get? l=some { cls:=.type "list",data:=.seq its.toArray n }:=by
 obtain⟨z,its,n,r,e⟩:=I.hok l _ hH;exact⟨z,its,n,r,r.length,e⟩
end
section
variable {X:Cx}
inductive ze (x:V) (vs:List V) (H:Hp) (Q:VK):Prop
 | mk (l:Addr) (xs:List V) (y:V) (h_0:x=.ref l) (h_1:vs=[y]) (h_2:H l=some (.lst xs)) (h_3:xs.length<sizeLine) (h_4:Q .non (upd H l (.lst (xs++[y])))):ze x vs H Q
theorem cK:HQ X "list.append" ze:=by
 intro pins s σ H x vs v us Q I rx rv h;obtain⟨l,xs,y,rfl,rfl,hH,hz,q⟩:=h;cases rx;obtain⟨u,rfl,ru⟩:=rv.one;obtain⟨z,its,n,r,hl,e⟩:=I.lstM hH;refine call_meets F.slot_list_append ⟨_,e,rfl⟩ F.entry_list_append (F.args_list_append_2 _ _) (PySem.list_append l its.toArray n u (by rw[IR];omega)) ⟨e,?_⟩;refine⟨.non,_,I.lset (its':=its++[u]) hH e (by simp) (r.append (.cons ru .nil)) ?_,rfl,q⟩;rw[ID,IY];omega
inductive DA (x:V) (y:V) (H:Hp) (Q:VK):Prop
 | mk (l b:Addr) (xs zs:List V) (h_0:x=.ref l) (h_1:y=.ref b) (h_2:H l=some (.lst xs)) (h_3:H b=some (.lst zs)) (h_4:xs.length+zs.length<=sizeLine) (h_5:∀ p,H p=none->Q (.ref p) (upd H p (.lst (xs++zs)))):DA x y H Q
theorem lv:qr X (binaryOp .Add) DA:=by
 intro pins s σ H x y v u Q I rx ry h;obtain⟨l,b,xs,zs,rfl,rfl,hH,hB,hz,q⟩:=h;cases rx;cases ry;obtain⟨z,its,n,r,hl,e⟩:=I.lstM hH;obtain⟨z2,its2,n2,r2,hl2,e2⟩:=I.lstM hB;refine PySem.P.add_list e e2 ?_ (by rw[IR,IR];omega)
 have ea:its.toArray++its2.toArray=(its++its2).toArray:=by simp
 rw[ea];exact⟨.ref _,_,I.lnew (t':=s.toks) (r.append r2) (by rw[ID];omega),rfl,q _ I.fresh⟩
end
section
variable {prog:Program}{w:World}{A:Around}{E:Value->Shared->Prop}{s:Shared}
end
section
variable {X:Cx}
end
section
variable {κ:Type} [DecidableEq κ]
def dN (kvs:List (κ×V))(k:κ):Option V:=(kvs.find? fun kv=>decide (kv.1=k)).map (·.2)
def fq (kvs:List (κ×V))(k:κ)(v:V):List (κ×V) :=
 if (kvs.any fun kv=>decide (kv.1=k))=true then kvs.map (fun kv=>if kv.1=k then (kv.1,v) else kv) else kvs++[(k,v)]
def qA (kvs:List (κ×V))(k:κ):List (κ×V):=kvs.filter fun kv=>decide (kv.1≠k)
theorem jW {p:κ×V}{r:List (κ×V)}{k:κ}(e:p.1=k):dN (p::r) k=some p.2:=by simp[dN,List.find?_cons,e]
theorem iK {p:κ×V}{r:List (κ×V)}{k:κ}(e:¬ p.1=k):dN (p::r) k=dN r k:=by simp[dN,List.find?_cons,e]
theorem jV (k:κ):∀ kvs:List (κ×V),(kvs.any fun kv=>decide (kv.1=k))=(dN kvs k).isSome
 | []=>rfl
 | p::r=>by
  rw[Ky]
  by_cases e:p.1=k
  ·simp only[jW e,IG e,Bool.true_or,Option.isSome_some]
  ·rw[iK e,IM e,Bool.false_or];exact jV k r
theorem gO (kvs:List (κ×V))(k:κ)(v:V):(fq kvs k v).length<=kvs.length+1:=by
 unfold fq;split
 ·rw[Ir];omega
 ·rw[ID,Jc,List.length_nil];omega
theorem wD {kvs:List (κ×V)}{k:κ}(v:V)(h:dN kvs k=none):fq kvs k v=kvs++[(k,v)]:=by
 unfold fq;rw[jV,h];exact Ip (by decide)
theorem ie.isSome_eq {o:Option V}{u:Option Value}(r:ie o u):o.isSome=u.isSome:=by
 cases o with
 | none=>cases u with
  | none=>rfl
  | some _=>exact (show False from r).elim
 | some _=>cases u with
  | none=>exact (show False from r).elim
  | some _=>rfl
theorem ie.getD {o:Option V}{u:Option Value}{d:V}{d':Value}(r:ie o u)(rd:aY d d'):aY (o.getD d) (u.getD d'):=by
 cases o with
 | none=>cases u with
  | none=>exact rd
  | some _=>exact (show False from r).elim
 | some _=>cases u with
  | none=>exact (show False from r).elim
  | some _=>exact r
theorem KV.val {kvs:List (κ×V)}{vs:List (κ×Value)}(r:KV kvs vs)(k:κ):ie (dN kvs k) (valueAt vs k):=by
 unfold KV at r
 induction r with
 | nil=>exact True.intro
 | @cons p q ps qs h t ih =>
  obtain⟨h1,h2⟩:=h
  by_cases e:p.1=k
  ·have e':q.1=k:=h1.symm.trans e
   have b:valueAt (q::qs) k=some q.2:=by simp[valueAt,List.find?_cons,e']
   rw[jW e,b];exact h2
  ·have e':¬ q.1=k:=fun z=>e (h1.trans z)
   have b:valueAt (q::qs) k=valueAt qs k:=by simp[valueAt,List.find?_cons,e']
   rw[iK e,b];exact ih
theorem KV.any {kvs:List (κ×V)}{vs:List (κ×Value)}(r:KV kvs vs)(k:κ):(kvs.any fun kv=>decide (kv.1=k))=vs.any fun kv=>decide (kv.1=k):=by
 unfold KV at r
 induction r with
 | nil=>rfl
 | cons h t ih=>rw[Ky,Ky,ih,h.1]
theorem KV.repl {kvs:List (κ×V)}{vs:List (κ×Value)}(r:KV kvs vs)(k:κ){y:V}{u:Value}(ry:aY y u) :
  KV (kvs.map fun kv=>if kv.1=k then (kv.1,y) else kv) (vs.map fun kv=>if kv.1=k then (kv.1,u) else kv):=by
 unfold KV at r ⊢
 induction r with
 | nil=>exact .nil
 | @cons p q ps qs h t ih =>
  rw[IT,IT];refine .cons ?_ ih;obtain⟨h1,h2⟩:=h
  by_cases e:p.1=k
  ·rw[Iq e,Iq (h1.symm.trans e)];exact⟨h1,ry⟩
  ·rw[Ip e,Ip (fun z=>e (h1.trans z))];exact⟨h1,h2⟩
theorem KV.put {kvs:List (κ×V)}{vs:List (κ×Value)}(r:KV kvs vs)(k:κ){y:V}{u:Value}(ry:aY y u):KV (fq kvs k y) (stored vs k u):=by
 unfold fq stored;rw[r.any k]
 by_cases e:(vs.any fun kv=>decide (kv.1=k))=true
 ·rw[Iq e,Iq e];exact r.repl k ry
 ·rw[Ip e,Ip e];exact Paired.snoc r ⟨rfl,ry⟩
theorem KV.drop {kvs:List (κ×V)}{vs:List (κ×Value)}(r:KV kvs vs)(k:κ):KV (qA kvs k) (without vs k):=by
 unfold KV at r ⊢;unfold qA without
 induction r with
 | nil=>exact .nil
 | @cons p q ps qs h t ih =>
  obtain⟨h1,h2⟩:=h;rw[List.filter_cons,List.filter_cons]
  by_cases e:p.1=k
  ·have a:¬ decide (p.1≠k)=true:=by simp[e]
   have b:¬ decide (q.1≠k)=true:=by simp[h1.symm.trans e]
   rw[Ip a,Ip b];exact ih
  ·have e':¬ q.1=k:=fun z=>e (h1.trans z)
   have a:decide (p.1≠k)=true:=by simp[e]
   have b:decide (q.1≠k)=true:=by simp[e']
   rw[Iq a,Iq b];exact .cons ⟨h1,h2⟩ ih
theorem KV.keys {kvs:List (κ×V)}{vs:List (κ×Value)}(r:KV kvs vs):kvs.map (·.1)=vs.map (·.1):=by
 unfold KV at r
 induction r with
 | nil=>rfl
 | cons h t ih=>rw[IT,IT,ih,h.1]
theorem KV.length {kvs:List (κ×V)}{vs:List (κ×Value)}(r:KV kvs vs):kvs.length=vs.length:=Ix r
theorem AV (kvs:List (κ×V))(k:κ):(qA kvs k).length<=kvs.length:=JU _ _
end
theorem mq {P:Program}{w:World}{k:bV}{u:Value}(r:aY (kV k) u):(aB P w).is k u=true:=by
 cases k with
 | inl i=>obtain⟨t,e⟩:=(show ∃ t,u=Value.int i t from r);subst e;exact vT P w i t
 | inr x=>obtain⟨t,e⟩:=(show ∃ t,u=Value.str x t from r);subst e;exact vU P w x t
theorem tH {P:Program}{w:World}:∀ {ks:List bV}{us:List Value},bh (ks.map kV) us->ItemsAre (aB P w) ks us
 | [],_,r=>by rw[List.map_nil]at r;cases r;exact .nil
 | k::ks,_,r=>by
  rw[IT]at r
  cases r with
  | cons h t=>exact .cons (mq h) (tH t)
abbrev KT (H:Hp):List (List bV×V)->List (List bV×Addr×Value)->Prop:=Paired fun p q=>p.1=q.1/\H q.2.1=some (.tup (p.1.map kV))/\aY p.2 q.2.2
theorem KT.val {H:Hp}{kvs:List (List bV×V)}{xs:List (List bV×Addr×Value)}(r:KT H kvs xs)(k:List bV):ie (dN kvs k) ((atKey xs k).map (·.2)):=by
 induction r with
 | nil=>exact True.intro
 | @cons p q ps qs h t ih =>
  obtain⟨h1,_,h2⟩:=h
  by_cases e:p.1=k
  ·have e':q.1=k:=h1.symm.trans e
   have b:atKey (q::qs) k=some q.2:=by simp[atKey,List.find?_cons,e']
   rw[jW e,b];exact h2
  ·have e':¬ q.1=k:=fun z=>e (h1.trans z)
   have b:atKey (q::qs) k=atKey qs k:=by simp[atKey,List.find?_cons,e']
   rw[iK e,b];exact ih
theorem KT.repl {H:Hp}{kvs:List (List bV×V)}{xs:List (List bV×Addr×Value)}(r:KT H kvs xs)(k:List bV){y:V}{u:Value}(ry:aY y u) :
  KT H (kvs.map fun kv=>if kv.1=k then (kv.1,y) else kv) (xs.map (putAt k u)):=by
 induction r with
 | nil=>exact .nil
 | @cons p q ps qs h t ih =>
  rw[IT,IT];refine .cons ?_ ih;obtain⟨h1,h2,h3⟩:=h;unfold putAt
  by_cases e:p.1=k
  ·rw[Iq e,Iq (h1.symm.trans e)];exact⟨h1,h2,ry⟩
  ·rw[Ip e,Ip (fun z=>e (h1.trans z))];exact⟨h1,h2,h3⟩
theorem KT.put {H:Hp}{kvs:List (List bV×V)}{xs:List (List bV×Addr×Value)}(r:KT H kvs xs)(k:List bV){b:Addr}{y:V}{u:Value}(hb:H b=some (.tup (k.map kV)))(ry:aY y u) :
  KT H (fq kvs k y) (storedH xs k b u):=by
 have e:(kvs.any fun kv=>decide (kv.1=k))=(atKey xs k).isSome:=by
  rw[jV,(r.val k).isSome_eq,Ki]
 unfold fq storedH;rw[e]
 by_cases q:(atKey xs k).isSome=true
 ·rw[Iq q,Iq q];exact r.repl k ry
 ·rw[Ip q,Ip q];exact Paired.snoc r ⟨rfl,hb,ry⟩
theorem KT.keeps {H H':Hp}{kvs:List (List bV×V)}{xs:List (List bV×Addr×Value)}(r:KT H kvs xs)(ht:∀ b ys,H b=some (.tup ys)->H' b=some (.tup ys)):KT H' kvs xs :=
 Paired.mapP r fun _ _ z=>⟨z.1,ht _ _ z.2.1,z.2.2⟩
section
variable {P:Program}{w:World}{H:Hp}{h:Heap}{a:Addr}
theorem D8 {u:HO}(ok:iQ P w H h)(e:Rd H a u):bo P w H h a u:=e.ok ok
theorem qz {kvs:List (bV×V)}(ok:iQ P w H h)(e:Rd H a (.dK kvs)):kvs.length<=sizeLine/\(a == sysModules)=false/\∃ vs,KV kvs vs/\h.DictOf (aB P w) a vs :=
 show bo P w H h a (.dK kvs) from D8 ok e
theorem yK {kvs:List (bV×V)}(ok:iQ P w H h)(e:H a=some (.dK kvs)):kvs.length<=sizeLine/\(a == sysModules)=false/\∃ vs,KV kvs vs/\h.DictOf (aB P w) a vs:=qz ok (.inl e)
theorem og {ks:List bV}(ok:iQ P w H h)(e:H a=some (.tup (ks.map kV))):(tupleKind (aB P w)).is h ks a:=by
 obtain⟨_,its,r,o,h1,h2,n,h3⟩:=(show bo P w H h a (.tup (ks.map kV)) from ok a _ e);exact⟨o,its.toArray,n,h1,h2,h3,by simpa using tH r⟩
theorem qD {kvs:List (List bV×V)}(ok:iQ P w H h)(e:Rd H a (.dT kvs)):kvs.length<=sizeLine/\(a == sysModules)=false /\
  ∃ xs,KT H kvs xs/\h.DictOfH (tupleKind (aB P w)) a xs:=by
 obtain⟨z,y,xs,r,o,es,ep,h1,h2,h3,h4,h5⟩:=(show bo P w H h a (.dT kvs) from D8 ok e);refine⟨z,y,xs,r,o,es,ep,h1,h2,h3,h4,fun x hx=>?_,h5⟩
 have all:∀ {l:List (List bV×V)}{m:List (List bV×Addr×Value)},KT H l m->∀ x∈m,(tupleKind (aB P w)).is h x.1 x.2.1:=by
  intro l m q
  induction q with
  | nil=>intro x hx;exact nomatch hx
  | @cons p q ps qs hq t ih =>
   intro x hx;rcases IE.mp hx with e | hx
   ·subst e
    exact og ok (by rw[<-hq.1];exact hq.2.1)
   ·exact ih x hx
 exact all r x hx
theorem DV {kvs:List (List bV×V)}(ok:iQ P w H h)(e:H a=some (.dT kvs)):kvs.length<=sizeLine/\(a == sysModules)=false /\
  ∃ xs,KT H kvs xs/\h.DictOfH (tupleKind (aB P w)) a xs:=qD ok (.inl e)
end
def da (H:Hp)(a:Addr)(y:V)(r:Option V):Prop :=
 (∃ kvs k,Rd H a (.dK kvs)/\y=kV k/\r=dN kvs k)\/∃ kvs k b,Rd H a (.dT kvs)/\y=.ref b/\H b=some (.tup (k.map kV))/\r=dN kvs k
def k7 (H:Hp)(a:Addr)(y v:V)(H':Hp):Prop :=
 (∃ kvs k,H a=some (.dK kvs)/\y=kV k/\kvs.length<sizeLine/\H'=upd H a (.dK (fq kvs k v))) \/
 ∃ kvs k b,H a=some (.dT kvs)/\y=.ref b/\H b=some (.tup (k.map kV))/\kvs.length<sizeLine/\H'=upd H a (.dT (fq kvs k v))
theorem da.k {H:Hp}{a:Addr}{kvs:List (bV×V)}{k:bV}(e:H a=some (.dK kvs)):da H a (kV k) (dN kvs k):=.inl ⟨kvs,k,.inl e,rfl,rfl⟩
theorem da.t {H:Hp}{a b:Addr}{kvs:List (List bV×V)}{k:List bV}(e:H a=some (.dT kvs))(eb:H b=some (.tup (k.map kV))):da H a (.ref b) (dN kvs k):=.inr ⟨kvs,k,b,.inl e,rfl,eb,rfl⟩
theorem k7.k {H:Hp}{a:Addr}{kvs:List (bV×V)}{k:bV}{v:V}(e:H a=some (.dK kvs))(hl:kvs.length<sizeLine):k7 H a (kV k) v (upd H a (.dK (fq kvs k v))):=.inl ⟨kvs,k,e,rfl,hl,rfl⟩
theorem k7.t {H:Hp}{a b:Addr}{kvs:List (List bV×V)}{k:List bV}{v:V}(e:H a=some (.dT kvs))(eb:H b=some (.tup (k.map kV)))(hl:kvs.length<sizeLine) :
  k7 H a (.ref b) v (upd H a (.dT (fq kvs k v))):=.inr ⟨kvs,k,b,e,rfl,eb,hl,rfl⟩
section
variable {X:Cx}{pins:List (Addr×Obj)}{σ:St}{H:Hp}{s:Shared}{a:Addr}{y v:V}{u r:Value}{o:Option V}{A:Around}{E:Value->Shared->Prop}
theorem au.big (I:au X pins σ H s):sysModules<s.heap.objs.size:=by
 have h:mainGlobals<s.heap.objs.size:=(I.mod.glob.keeps I.bk).lt;exact Nat.lt_trans (by decide) h
theorem zG {Q:Value->Shared->Prop}(hu:A.units+1<cLine)(I:au X pins σ H s)(g:da H a y (some v))(ry:aY y u)(h:∀ w' s',au X pins σ H s'->aY v w'->Q w' s') :
  wpAny (model X.prog X.w) A (getItem (.ref a) u) Q E s:=by
 rcases g with ⟨kvs,k,e,ey,l⟩ | ⟨kvs,k,b,e,ey,eb,l⟩
 ·subst ey
  obtain⟨z,hd,vs,rel,dd⟩:=qz I.hok e;obtain⟨w',hw,rw'⟩:=ie.some_of (v:=v) (o:=valueAt vs k) (by rw[l];exact rel.val k);exact wpAny_getItem_of (mq ry) dd.mapOf hw (h w' _ (I.tok _) rw')
 ·subst ey
  cases (show u=Value.ref b from ry);obtain⟨z,hd,xs,rel,dd⟩:=qD I.hok e;obtain⟨w',hw,rw'⟩:=ie.some_of (v:=v) (o:=(atKey xs k).map (·.2)) (by rw[l];exact rel.val k);obtain⟨p,hp,hp2⟩:=Option.map_eq_some_iff.mp hw;refine wpAny_getItem_heap (KB hu) (og I.hok eb) dd hp ?_;rw[hp2];exact h w' _ (I.tok _) rw'
theorem G0 {Q:Value->Shared->Prop}(hu:A.units+1<cLine)(I:au X pins σ H s)(g:da H a y o)(ry:aY y u)(h:∀ s',au X pins σ H s'->Q (.bool o.isSome) s') :
  wpAny (model X.prog X.w) A (compareOp .In u (.ref a)) Q E s:=by
 rcases g with ⟨kvs,k,e,ey,l⟩ | ⟨kvs,k,b,e,ey,eb,l⟩
 ·subst ey
  obtain⟨z,hd,vs,rel,dd⟩:=qz I.hok e;refine wpAny_in_of (mq ry) hd dd.mapOf ?_;rw[<-(rel.val k).isSome_eq,<-l];exact h _ (I.tok _)
 ·subst ey
  cases (show u=Value.ref b from ry);obtain⟨z,hd,xs,rel,dd⟩:=qD I.hok e;refine wpAny_in_heap (KB hu) (og I.hok eb) hd dd ?_;have q:=(rel.val k).isSome_eq;rw[Ki]at q;rw[<-q,<-l];exact h _ (I.tok _)
theorem CN {Q:Value->Shared->Prop}(hu:A.units+1<cLine)(I:au X pins σ H s)(g:da H a y o)(ry:aY y u)(h:∀ s',au X pins σ H s'->Q (.bool (!o.isSome)) s') :
  wpAny (model X.prog X.w) A (compareOp .NotIn u (.ref a)) Q E s:=by
 rcases g with ⟨kvs,k,e,ey,l⟩ | ⟨kvs,k,b,e,ey,eb,l⟩
 ·subst ey
  obtain⟨z,hd,vs,rel,dd⟩:=qz I.hok e;refine wpAny_notIn_of (mq ry) hd dd.mapOf ?_;rw[<-(rel.val k).isSome_eq,<-l];exact h _ (I.tok _)
 ·subst ey
  cases (show u=Value.ref b from ry);obtain⟨z,hd,xs,rel,dd⟩:=qD I.hok e;refine wpAny_notIn_heap (KB hu) (og I.hok eb) hd dd ?_;have q:=(rel.val k).isSome_eq;rw[Ki]at q;rw[<-q,<-l];exact h _ (I.tok _)
theorem lX {h':Heap}{t':Nat}{ob:HO}(I:au X pins σ H s)(mu:FT (H a))(hs:Heap.SameBut a s.heap h')(he:∃ q,h'.get? a=some q)(new:bo X.prog X.w (upd H a ob) h' a ob) :
  au X pins σ (upd H a ob) { s with heap:=h',toks:=t' } :=
 I.write (x:=a) (e:=a) mu (.inl rfl) (fun b q hb z=>(hs.2 b hb).trans z) he new
theorem uj {P:Program}{w:World}{H':Hp}{h':Heap}{kvs:List (bV×V)}{vs:List (bV×Value)}(z:kvs.length<=sizeLine)(hd:(a == sysModules)=false)(rel:KV kvs vs)(dd:h'.DictOf (aB P w) a vs) :
  bo P w H' h' a (.dK kvs):=⟨z,hd,vs,rel,dd⟩
theorem zH {H':Hp}{Q:Unit->Shared->Prop}(hu:A.units+1<cLine)(I:au X pins σ H s)(g:k7 H a y v H')(ry:aY y u)(rv:aY v r)(h:∀ s',au X pins σ H' s'->Q () s') :
  wpAny (model X.prog X.w) A (setItem (.ref a) u r) Q E s:=by
 rcases g with ⟨kvs,k,e,ey,l,eH⟩ | ⟨kvs,k,b,e,ey,eb,l,eH⟩
 ·subst ey eH
  obtain⟨z,hd,vs,rel,dd⟩:=yK I.hok e
  have hz:vs.length<=sizeLine:=by rw[<-rel.length];exact z
  have hl:(fq kvs k v).length<=sizeLine:=by have:=gO kvs k v;omega
  refine wpAny_setItem_pairs (hsz:=hz) (mq ry) dd fun h' dd' hs=>h _ ?_;have he:∃ q,h'.get? a=some q:=let ⟨q,_,_,hq,_⟩:=dd';⟨q,hq⟩;exact lX I (by rw[e];exact True.intro) hs he (uj hl hd (rel.put k rv) dd')
 ·subst ey eH
  cases (show u=Value.ref b from ry);obtain⟨z,hd,xs,rel,dd⟩:=DV I.hok e
  have hz:xs.length<=sizeLine:=by rw[<-Ix rel];exact z
  have hl:(fq kvs k v).length<=sizeLine:=by have:=gO kvs k v;omega
  refine wpAny_setItem_heap (hsz:=hz) (KB hu) (og I.hok eb) dd fun h' dd' hs=>h _ ?_;obtain⟨q,es,ep,hq,h2,h3,h4,_,h5⟩:=dd';refine lX I (by rw[e];exact True.intro) hs ⟨q,hq⟩ ⟨hl,hd,_,(rel.put k eb rv).keeps fun c ys ec=>?_,q,es,ep,hq,h2,h3,h4,h5⟩;rw[ag (cJ ec e (fun z=>nomatch z))];exact ec
end
section
variable {X:Cx}{pins:List (Addr×Obj)}{σ:St}{H:Hp}{s:Shared}{a:Addr}{kvs:List (bV×V)}{k:bV}{u:Value}{A:Around}{E:Value->Shared->Prop}
theorem FY {v:V}{more:List Value}{Q:Value->Shared->Prop}(I:au X pins σ H s)(e:H a=some (.dK kvs))(ry:aY (kV k) u)(l:dN kvs k=some v)(hm:more=[]\/∃ x,more=[x])
  (h:∀ w' s',au X pins σ (upd H a (.dK (qA kvs k))) s'->aY v w'->Q w' s'):wpAny (model X.prog X.w) A (call (.builtin "dict.pop") (.ref a::u::more)) Q E s:=by
 obtain⟨z,hd,vs,rel,dd⟩:=yK I.hok e;obtain⟨w',hw,rw'⟩:=ie.some_of (v:=v) (o:=valueAt vs k) (by rw[<-l];exact rel.val k)
 have hp:(keyPart u).isSome=true:=by
  cases k with
  | inl i=>obtain⟨t,q⟩:=(show ∃ t,u=Value.int i t from ry);subst q;rfl
  | inr x=>obtain⟨t,q⟩:=(show ∃ t,u=Value.str x t from ry);subst q;rfl
 have ha:argsOk "dict.pop" ⟨.ref a::u::more,[]⟩:=by
  rcases hm with q | ⟨x,q⟩
  ·subst q;exact PySem.F.args_dict_pop_2 _ _
  ·subst q;exact PySem.F.args_dict_pop_3 _ _ _
 refine call_meetsIn PySem.F.slot_dict_pop dd.typeIs PySem.F.entry_dict_pop ha (meets_dict_pop_there (aB X.prog X.w) a (mq ry) more hm hp)
  ⟨vs,w',dd,by rw[<-rel.length];exact z,hw,fun h' dd' hs=>h w' _ ?_ rw'⟩
 have he:∃ q,h'.get? a=some q:=let ⟨q,_,_,hq,_⟩:=dd';⟨q,hq⟩;exact lX I (by rw[e];exact True.intro) hs he (uj (Jb (AV kvs k) z) hd (rel.drop k) dd')
end
def FU (i:Expr):Prop:=∀ ov iv,subscripted i false ov iv=operate [ov,iv] (getItem ov iv)
theorem DG {prog:Program}{w:World}{A:Around}{E:Value->Shared->Prop}{s:Shared}{env:Env}{value slice:Expr}{pos:Pos}{T id:String}{Q:Value->Shared->Prop}
  (hl:typeLookup (.type T) "__getitem__" = pure (some (.builtin id))) (hs:FU slice)
  (h:wpAny (model prog w) A (eval value env) (fun o s₁=>wpAny (model prog w) A (eval slice env) (fun i s₂=>s₂.TypeIs o T/\wpAny (model prog w) A (getItem o i) Q E s₂) E s₁) E s) :
  wpAny (model prog w) A (eval (.Subscript value slice pos) env) Q E s:=by
 refine Subscript_ (IS h (fun o s₁ h₁=>IS h₁ (fun i s₂ h₂=>?_) fun _ _ x=>x) fun _ _ x=>x);obtain⟨hT,h₂⟩:=h₂;unfold subscriptTail;refine Io ?_;rw[getitemInPython_of_ne hT.not_modules];refine Io (wpAny_specialOf hT hl ?_)
 have fin:wpAny (model prog w) A (subscripted slice false o i) (fun r s₃=>wpAny (model prog w) A (letTemporaryGo value o r >>= fun _=>pure r) Q E s₃) E s₂:=by
  rw[hs o i];exact wpAny_operating (IS h₂ (fun r s₃ h₃=>Io (wpAny_letTemporaryGo (Iu h₃))) fun _ _ x=>x)
 first
  | exact Iu (Io fin)
  | exact Io (Iu (Io fin))
  | exact Io fin
theorem vC {X:Cx}{pins:List (Addr×Obj)}{σ:St}{H:Hp}{s:Shared}{a:Addr}{y:V}{o:Option V}(I:au X pins σ H s)(g:da H a y o):s.TypeIs (.ref a) "dict":=by
 rcases g with ⟨kvs,k,e,_,_⟩ | ⟨kvs,k,b,e,_,_,_⟩
 ·obtain⟨_,_,vs,_,dd⟩:=qz I.hok e
  exact dd.typeIs
 ·obtain⟨_,_,xs,_,dd⟩:=qD I.hok e
  exact dd.typeIs
inductive HD (x y:V) (Q:VK) (H:Hp):Prop
 | mk (a:Addr) (v:V) (e:x=.ref a) (g:da H a y (some v)) (h:Q v H):HD x y Q H
def Gu (td ty:TE):TE:=fun σ H Q=>td σ H fun x H1=>ty σ H1 fun y H2=>HD x y Q H2
def Hi (ty td:TE):TE:=fun σ H Q=>ty σ H fun y H1=>td σ H1 fun x H2=>∃ a o,x=.ref a/\da H2 a y o/\Q (.bl o.isSome) H2
def DH (ty td:TE):TE:=fun σ H Q=>ty σ H fun y H1=>td σ H1 fun x H2=>∃ a o,x=.ref a/\da H2 a y o/\Q (.bl (!o.isSome)) H2
def Gm (td ty tv:TE):TS:=fun D σ H=>tv σ H fun v H1=>td σ H1 fun x H2=>ty σ H2 fun y H3=>∃ a H4,x=.ref a/\k7 H3 a y v H4/\D.nx σ H4
section
variable {X:Cx}{o i e value:Expr}{pos pos' tpos:Pos}{td ty tv:TE}
theorem i6 (hu:X.A.units+1<cLine)(ho:PE X o td)(hi:PE X i ty)(hs:FU i):PE X (.Subscript o i pos) (Gu td ty):=by
 intro pins s σ H Q I h;refine DG PySem.F.slot_dict_getitem.lookup hs (bx (ho pins s σ H _ I h) fun u s1 ⟨x,H1,I1,rx,q1⟩=>bx (hi pins s1 σ H1 _ I1 q1) fun iv s2 ⟨y,H2,I2,ry,a,v,ex,g,q2⟩=>?_);subst ex;obtain rfl:u=Value.ref a:=rx;exact⟨vC I2 g,zG hu I2 g ry fun w' s3 I3 rw'=>⟨v,H2,I3,rw',q2⟩⟩
theorem lC (hu:X.A.units+1<cLine)(hi:PE X i ty)(ho:PE X o td):PC X .In i o (Hi ty td):=by
 intro pins s σ H Q I h;refine bx (hi pins s σ H _ I h) fun iv s1 ⟨y,H1,I1,ry,q1⟩=>bx (ho pins s1 σ H1 _ I1 q1) fun u s2 ⟨x,H2,I2,rx,a,ov,ex,g,q2⟩=>?_;subst ex;obtain rfl:u=Value.ref a:=rx;exact G0 hu I2 g ry fun s3 I3=>⟨.bl ov.isSome,H2,I3,rfl,q2⟩
theorem iE (hu:X.A.units+1<cLine)(hi:PE X i ty)(ho:PE X o td):PC X .NotIn i o (DH ty td):=by
 intro pins s σ H Q I h;refine bx (hi pins s σ H _ I h) fun iv s1 ⟨y,H1,I1,ry,q1⟩=>bx (ho pins s1 σ H1 _ I1 q1) fun u s2 ⟨x,H2,I2,rx,a,ov,ex,g,q2⟩=>?_;subst ex;obtain rfl:u=Value.ref a:=rx;exact CN hu I2 g ry fun s3 I3=>⟨.bl (!ov.isSome),H2,I3,rfl,q2⟩
theorem gR (hu:X.A.units+1<cLine)(ho:PE X o td)(hi:PE X i ty)(hv:PE X value tv)(hs:swapsWith value (some (.Subscript o i pos')) pos.line X.env=pure false) :
  PS X (.Assign [.Subscript o i pos'] value pos) (Gm td ty tv):=by
 intro pins s σ H D I h;refine wpAny_Assign_Subscript (bx (hv pins s σ H _ I h) fun r s1 ⟨v,H1,I1,rv,q1⟩=>bx (ho pins s1 σ H1 _ I1 q1) fun u s2 ⟨x,H2,I2,rx,q2⟩=>bx (hi pins s2 σ H2 _ I2 q2) fun iv s3 ⟨y,H3,I3,ry,a,H4,ex,g,q3⟩=>?_) hs;subst ex;obtain rfl:u=Value.ref a:=rx;exact zH hu I3 g ry rv fun s4 I4=>⟨σ,H4,I4,q3⟩
end
theorem lY {P:Program}{w:World}{H:Hp}(h:Heap)(hb:sysModules<h.objs.size):bo P w H (h.push { cls:=.type "dict",data:=.dict #[] }) h.objs.size (.dK []) :=
 ⟨IX _,JL.mpr (IN (IC hb)),[],.nil,Heap.DictOf.new h⟩
theorem AW {P:Program}{w:World}{H:Hp}(h:Heap)(hb:sysModules<h.objs.size):bo P w H (h.push { cls:=.type "dict",data:=.dict #[] }) h.objs.size (.dT []) :=
 ⟨IX _,JL.mpr (IN (IC hb)),[],.nil,_,#[],0,Heap.get?_push_size _ rfl,⟨rfl,rfl,rfl⟩,rfl,rfl,J8⟩
def Fu:TE:=fun _ H Q=>∀ p,H p=none->Q (.ref p) (upd H p (.dK []))
def Fv:TE:=fun _ H Q=>∀ p,H p=none->Q (.ref p) (upd H p (.dT []))
section
variable {X:Cx}{pos:Pos}
theorem f7:PE X (.Dict [] [] pos) Fu:=fun pins s σ H Q I h =>
 wpAny_Dict_empty ⟨.ref s.heap.objs.size,_,I.laid (a:=s.heap.objs.size) (o:=.dK []) (t':=s.toks) (fun _ _ q=>Heap.get?_push_of_some _ q) (Iv _) (lY s.heap I.big),rfl,h _ (I.hok.fresh (Iv _))⟩
theorem wA:PE X (.Dict [] [] pos) Fv:=fun pins s σ H Q I h =>
 wpAny_Dict_empty ⟨.ref s.heap.objs.size,_,I.laid (a:=s.heap.objs.size) (o:=.dT []) (t':=s.toks) (fun _ _ q=>Heap.get?_push_of_some _ q) (Iv _) (AW s.heap I.big),rfl,h _ (I.hok.fresh (Iv _))⟩
end
structure M1 (X:Cx)(o:Expr)(m:Str)(apos:Pos)(e:Expr)(cpos:Pos):Prop where
 base:attributeBase o m X.env (eval o X.env)=eval o X.env
 few:((backTo cpos (starEach [e] X.env)).all (fun x=>!x.1)&&(backToKw cpos (keywordEach [] X.env)).all (fun x=>x.1.isSome)
  && decide (([e]:List Expr).length+([]:List Keyword).length+(if ([]:List Keyword).isEmpty then 0 else 1)<30))=true
 line:(apos.endLine == cpos.line)=true
 trees:backTo cpos (starEach [e] X.env)=[(false,eval e X.env)]
structure M2 (X:Cx)(o:Expr)(m:Str)(apos:Pos)(e f:Expr)(cpos:Pos):Prop where
 base:attributeBase o m X.env (eval o X.env)=eval o X.env
 few:((backTo cpos (starEach [e,f] X.env)).all (fun x=>!x.1)&&(backToKw cpos (keywordEach [] X.env)).all (fun x=>x.1.isSome)
  && decide (([e,f]:List Expr).length+([]:List Keyword).length+(if ([]:List Keyword).isEmpty then 0 else 1)<30))=true
 line:(apos.endLine == cpos.line)=true
 trees:backTo cpos (starEach [e,f] X.env)=[(false,eval e X.env),(false,eval f X.env)]
def GH (H:Hp)(a:Addr):Prop:=(∃ kvs,Rd H a (.dK kvs))\/∃ kvs,Rd H a (.dT kvs)
theorem ux {X:Cx}{pins:List (Addr×Obj)}{σ:St}{H:Hp}{s:Shared}{a:Addr}(I:au X pins σ H s)(d:GH H a) :
  s.TypeIs (.ref a) "dict"/\(∀ b,Value.ref a=.ref b->∃ ob,s.heap.get? b=some ob/\ob.dict=none)/\(a == sysModules)=false:=by
 rcases d with ⟨kvs,e⟩ | ⟨kvs,e⟩
 ·obtain⟨_,hd,vs,_,dd⟩:=qz I.hok e
  refine⟨dd.typeIs,fun b q=>?_,hd⟩;cases q;obtain⟨ob,_,_,h1,h2,_⟩:=dd;exact⟨ob,h1,h2.2.1⟩
 ·obtain⟨_,hd,xs,_,dd⟩:=qD I.hok e
  refine⟨dd.typeIs,fun b q=>?_,hd⟩;cases q;obtain⟨ob,_,_,h1,h2,_⟩:=dd;exact⟨ob,h1,h2.2.1⟩
section
variable {X:Cx}{pins:List (Addr×Obj)}{σ:St}{H:Hp}{s:Shared}{a:Addr}{y d:V}{u r:Value}{o:Option V}{A:Around}{E:Value->Shared->Prop}
theorem Eu {Q:Value->Shared->Prop}(hu:A.units+1<cLine)(I:au X pins σ H s)(g:da H a y o)(ry:aY y u)(rd:aY d r)(h:∀ w' s',au X pins σ H s'->aY (o.getD d) w'->Q w' s') :
  wpAny (model X.prog X.w) A (call (.builtin "dict.get") [.ref a,u,r]) Q E s:=by
 rcases g with ⟨kvs,k,e,ey,l⟩ | ⟨kvs,k,b,e,ey,eb,l⟩
 ·subst ey
  obtain⟨z,hd,vs,rel,dd⟩:=qz I.hok e;refine call_meetsIn PySem.F.slot_dict_get dd.typeIs PySem.F.entry_dict_get (PySem.F.args_dict_get_3 _ _ _) (meets_dict_get_default (aB X.prog X.w) a (mq ry) hd r) ⟨_,dd.mapOf,h _ _ (I.tok _) ?_⟩;rw[l];exact (rel.val k).getD rd
 ·subst ey
  cases (show u=Value.ref b from ry);obtain⟨z,hd,xs,rel,dd⟩:=qD I.hok e;refine call_meetsIn PySem.F.slot_dict_get dd.typeIs PySem.F.entry_dict_get (PySem.F.args_dict_get_3 _ _ _) (meetsH_dict_get_default (tupleKind (aB X.prog X.w)) a b hd r) ⟨KB hu,k,xs,og I.hok eb,dd,h _ _ (I.tok _) ?_⟩;rw[l];exact (rel.val k).getD rd
end
def Ft (td ty tx:TE):TE:=fun σ H Q=>td σ H fun x H1=>∃ a,x=.ref a/\GH H1 a/\ty σ H1 fun y H2=>tx σ H2 fun z H3=>∃ o,da H3 a y o/\Q (o.getD z) H3
def Fw (td ty:TE):TE:=fun σ H Q=>td σ H fun x H1=>∃ a,x=.ref a/\GH H1 a/\ty σ H1 fun y H2=>∃ kvs k v,H2 a=some (.dK kvs)/\y=kV k/\dN kvs k=some v/\Q v (upd H2 a (.dK (qA kvs k)))
section
variable {X:Cx}{o e f:Expr}{apos cpos:Pos}{td ty tx:TE}
theorem wz (hu:X.A.units+1<cLine)(ho:PE X o td)(he:PE X e ty)(hf:PE X f tx)(m:M2 X o "get" apos e f cpos):PE X (.Call (.Attribute o "get" apos) [e,f] [] cpos) (Ft td ty tx):=by
 intro pins s σ H Q I h;refine wpAny_Call_method m.base m.few m.line PySem.F.plainAttrs_dict PySem.F.slot_dict_get PySem.F.type_dict_get (bx (ho pins s σ H _ I h) fun u s1 ⟨x,H1,I1,rx,a,ex,d,q1⟩=>?_);subst ex;obtain rfl:u=Value.ref a:=rx;obtain⟨t1,t2,_⟩:=ux I1 d;refine⟨t1,t2,?_⟩;rw[m.trees]
 refine Kb rfl (JP (Ju (bx (he pins s1 σ H1 _ I1 q1) fun iv s2 ⟨y,H2,I2,ry,q2⟩ =>
  Ju (bx (hf pins s2 σ H2 _ I2 q2) fun fv s3 ⟨z,H3,I3,rz,ov,g,q3⟩=>J2 ?_))))
 exact Eu hu I3 g ry rz fun w' s4 I4 rw'=>⟨_,H3,I4,rw',q3⟩
theorem rp (ho:PE X o td)(he:PE X e ty)(m:M1 X o "pop" apos e cpos):PE X (.Call (.Attribute o "pop" apos) [e] [] cpos) (Fw td ty):=by
 intro pins s σ H Q I h;refine wpAny_Call_method m.base m.few m.line PySem.F.plainAttrs_dict PySem.F.slot_dict_pop PySem.F.type_dict_pop (bx (ho pins s σ H _ I h) fun u s1 ⟨x,H1,I1,rx,a,ex,d,q1⟩=>?_);subst ex;obtain rfl:u=Value.ref a:=rx;obtain⟨t1,t2,_⟩:=ux I1 d;refine⟨t1,t2,?_⟩;rw[m.trees];refine Kb rfl (JP (Ju (bx (he pins s1 σ H1 _ I1 q1) fun iv s2 ⟨y,H2,I2,ry,kvs,k,v,ea,ey,l,q2⟩=>J2 ?_)));subst ey;exact FY I2 ea ry l (.inl rfl) fun w' s3 I3 rw'=>⟨v,_,I3,rw',q2⟩
end
section
variable {X:Cx}{pins:List (Addr×Obj)}{σ:St}{H:Hp}{s:Shared}{a:Addr}{kvs:List (bV×V)}{A:Around}{E:Value->Shared->Prop}
end
section
variable {X:Cx}{pins:List (Addr×Obj)}{σ:St}{H:Hp}{s:Shared}{a:Addr}{y:V}{u:Value}{A:Around}{E:Value->Shared->Prop}
end
end L2
namespace Att
open PySem PySem.W PySem.Calls PyProof.Rows
theorem pI {P:Params}{h:Heap}:∀ (ns:List Int)(vs:List Value),WellAll P h vs (ns.map WData.int)->IntsAre vs ns:=by
 intro ns
 induction ns with
 | nil =>
  intro vs w;rw[List.map_nil]at w;cases w;exact .nil
 | cons n ns ih =>
  intro vs w;rw[IT]at w
  cases w with
  | cons a b =>
   cases a;exact .cons _ _ (ih _ b)
theorem Ax {l:OpenLaw}{n:Nat}(hn:l.most=some n){P:Params}{h:Heap}{args:List WData}{vals:List Value}
  (hpre:l.row.toRowW.claim.pre args=true) (hwl:WellAll P h vals args) :
  ∃ a vs ns,vals=[Value.ref a]/\args=[WData.list (ns.map WData.int)]/\h.get? a=some { cls:=.type "list",data:=.seq vs.toArray }/\IntsAre vs ns/\ns.length<=n:=by
 have hsh:WShape.hasAll [] args [.list .int]=true:=(pre_splitW hpre).1;have hc:l.pre.holds [] { args:=args }=true:=(pre_splitW hpre).2;obtain⟨d,r,rfl,h1,h2⟩:=hasAllW_cons hsh;obtain rfl:=hasAllW_nil h2;obtain⟨xs,rfl,h3⟩:=hasW_list h1;obtain⟨ns,rfl⟩:=items_int h3
 have hlen:ns.length<=n:=by
  unfold OpenLaw.pre at hc
  have h4:(WTm.not (.lt (.lit (.int (n:Int))) (.len (.arg 0)))).holds [] { args:=[.list (ns.map .int)] }=true:=by
   have h4:=(holds_andW hc).1;rw[hn]at h4;exact h4
  have h5:=condW_of h4 (w_not (w_lt w_lit (w_len_list (w_arg rfl))));rw[Ir]at h5;refine Nat.le_of_not_lt fun q=>?_
  have q':(n:Int)<((ns.length:Nat):Int):=by omega
  first
   | (rw[IG q']at h5;exact absurd h5 (by decide))
   | (simp at h5;omega)
 cases hwl with
 | cons w1 w2 =>
  cases w2
  cases w1 with
  | list ho hall=>exact⟨_,_,ns,rfl,rfl,ho,pI ns _ hall,hlen⟩
theorem Ap (l:OpenLaw)(args:List WData):l.row.toRowW.claim.post args (.bool true) args=true :=
 postW_of (r:=l.row.toRowW) (X:=(true == true))
  (show WShape.has [] (.bool true) .bool=true by first | rfl | decide | simp[WShape.has,WShape.arms,WShape.armsAll])
  (show (WTm.eq .res (.lit (.bool true))).value [] { args:=args,res:=some (.bool true),after:=args }=some (.bool (true == true)) from w_eq_bool (w_res rfl) w_lit) rfl
theorem attach_call {l:OpenLaw}{n:Nat}{q:Program}{loose:List Str}{XP:(Str->Option Value)->Heap->Prop}{YP:World->Heap->Prop}{d:DefRec}
  (hn:l.most=some n) (hdf:d.params.defaults=[])
  (call:∀ (w:World)(s₀ s₁:Shared)(mg mb:Str->Option Value)(fa:Addr)(o:Obj)(pm cd doc:Value)(a:Addr)(vs:List Value)(ns:List Int),
   Ground q loose [] XP w s₀ mg mb s₁.heap->YP w s₁.heap ->
   s₁.heap.get? fa=some o->o.data=.func (docDef d.name d.params d.body d.scope pm cd doc)->s₁.heap.CodeRec cd d.name->mg d.name=some (.ref fa) ->
   s₁.heap.get? a=some { cls:=.type "list",data:=.seq vs.toArray }->IntsAre vs ns->ns.length<=n->s₁.gens = #[] ->
   codeAny (model l.prog w) callerA (.call (.ref fa) ⟨[.ref a],[]⟩) (fun r s'=>r=.ok (.ret (.bool true))/\OldK s₁.heap s'.heap/\s'.os=s₁.os/\AllBare s'.gens) s₁) :
  WalkO q loose XP YP l.row.toRowW d [] (fun f vs=>PySem.call f vs):=by
 intro w s₀ s₁ mg mb G Y fa o pm cd doc dV kV ho hd hcd hD hmg hg args vals as hpre hlay hrd hwl hlo;obtain rfl:dV=.none:=Dflts.none hD hdf;obtain rfl:kV=.none:=Dflts.noKw hD;obtain⟨a,vs,ns,rfl,rfl,hobj,hints,hlen⟩:=Ax hn hpre hwl;refine enter_call (JH (call w s₀ s₁ mg mb fa o pm cd doc a vs ns G Y ho (fd_plain hd) hcd hmg hobj hints hlen hg) fun r s' hq=>?_);obtain⟨rfl,h2,h3,h4⟩:=hq;exact⟨.inl ⟨.bool true,.bool true,[],rfl,fun _=>rfl,.bool true,Ap l _,fun _=>⟨List.Pairwise.nil,fun _ hm=>(nomatch hm)⟩⟩,h2,h3,h4⟩
section
variable {prog:Program}{w:World}{A:Around}{E:Value->Shared->Prop}{s:Shared}{K:Frag}
def Ha (h:Heap):Heap:={ h with objs:=#[] }
def G9 (h:Heap)(L d:Addr):List (Addr×Obj):=(List.range h.objs.size).filterMap fun a=>if a=L\/a=d then none else (h.get? a).map fun o=>(a,o)
end
end Att
namespace L2
open PySem PySem.Spec PyProof.Rows
theorem tX:∀ {vs:List Value}{ns:List Int},IntsAre vs ns->bh (ns.map V.int) vs
 | _,_,.nil=>.nil
 | _,_,.cons n t h=>.cons ⟨t,rfl⟩ (tX h)
def cD (s:Stmt)(j:Nat):Stmt:=match s with
 | .ClassDef _ _ _ body _ _ _ _ _ _ _=>body.getD j (.Pass ⟨0,0,0,0⟩)
 | _=>.Pass ⟨0,0,0,0⟩
def fG (s:Stmt):Arguments:=match s with
 | .FunctionDef _ a _ _ _ _ _ _ _ _=>a
 | _=>{ posonlyargs:=[],args:=[],vararg:=none,kwonlyargs:=[],kw_defaults:=[],kwarg:=none,defaults:=[] }
def dz (s:Stmt):List Stmt:=match s with
 | .FunctionDef _ _ b _ _ _ _ _ _ _=>b
 | _=>[]
def ao (s:Stmt):Scope:=match s with
 | .FunctionDef _ _ _ _ _ _ sc _ _ _=>sc
 | _=>{ kind:=.function,names:=[],isGenerator:=false,isCoroutine:=false }
abbrev c7:sQ:=fun _ _ _ _ _ _=>False
abbrev E0:XK:=fun _ _ _=>False
theorem dQ {X:Cx}:d9 c7 X E0:=fun _ _ _ _ _ _ _ h=>h.elim
structure d6 (K:PySem.W.Frag)(x qual:Str)(st:Stmt)(f:Addr)(fd:FuncData):Prop where
 ex:∃ (oc:Value)(od:Option Addr)(kV doc pm:Value)(an:Option Addr)(cdv ct:Value)(osl:Array (Option Value)),
  fd=PySem.W.fnOf x qual (fG st) (dz st) (ao st) .none kV doc pm an cdv ct/\K.lookup f=some ⟨oc,od,.func fd,osl⟩/\PySem.W.codeIn K cdv qual=true
 kp:PySem.W.keepIn K (.ref f)=true
section
variable {P:Program}{w:World}{K:PySem.W.Frag}{mg:Str->Option Value}{base:Heap}
theorem d6.ok {x qual:Str}{st:Stmt}{f:Addr}{fd:FuncData}{N ps:List Str}{k:Nat}{sp:Sp}(F:d6 K x qual st f fd)(S:av N ps (ao st))(len:∀ vs H Q E,sp vs H Q E->vs.length=ps.length)
  (hbody:∀ (cdv:Value)(A:Around)(outer:List Env)(s:Shared)(H:Hp)(vs:List V)(Q:VK)(E:XK),cu k (A.deeper (envOfC qual (ao st) s.heap.objs.size f cdv))->sp vs H Q E ->
   ∃ t,vk (pG c7 P w K mg base N qual (ao st) f cdv A outer s H E).nox (dz st) t/\t { nx:=fun _ H'=>Q .non H',rt:=Q } (kU N vs) H):bd P w K mg base c7 (k+1) f fd ps sp:=by
 obtain⟨oc,od,kV,doc,pm,an,cdv,ct,osl,rfl,lk,hcd⟩:=F.ex;refine A4 lk hcd S len fun A outer s H vs Q E hr hsp=>?_;obtain⟨t,h,q⟩:=hbody cdv A outer s H vs Q E hr hsp;exact⟨t,h.nox,q⟩
theorem d6.binds {x qual:Str}{st:Stmt}{f:Addr}{fd:FuncData}{ps:List Str}(F:d6 K x qual st f fd)
  (h:∀ (kV doc pm:Value)(an:Option Addr)(cdv ct:Value)(us:List Value),us.length=ps.length->bindArgs (PySem.W.fnOf x qual (fG st) (dz st) (ao st) .none kV doc pm an cdv ct) ⟨us,[]⟩=pure (ps.zip us)):eU K fd ps []:=by
 obtain⟨oc,od,kV,doc,pm,an,cdv,ct,osl,rfl,lk,hcd⟩:=F.ex;exact .all (h kV doc pm an cdv ct)
theorem A6 {x qual:Str}{st:Stmt}{f:Addr}{oc:Value}{od an:Option Addr}{osl:Array (Option Value)}{kV doc pm cdv ct:Value}(l:K.lookup f=some ⟨oc,od,.func (PySem.W.fnOf x qual (fG st) (dz st) (ao st) .none kV doc pm an cdv ct),osl⟩)
  (c:PySem.W.codeIn K cdv qual=true) (k:PySem.W.keepIn K (.ref f)=true):d6 K x qual st f (PySem.W.fnOf x qual (fG st) (dz st) (ao st) .none kV doc pm an cdv ct):=⟨⟨oc,od,kV,doc,pm,an,cdv,ct,osl,rfl,l,c⟩,k⟩
end
theorem dJ {A:Around}{k:Nat}(hr:cu k A):A.units+1<cLine:=KC (Nat.add_le_add_left (by decide:1<=64) _) hr.units
theorem aW {n:Nat}(h:n<=1000):n<sizeLine:=KC h (by decide)
section
variable {X:Cx}
theorem pv (i:Nat){x:Str}{pos:Pos}(hN:X.N[i]? = some x:=by rfl)(hv:GJ X.env.scope x:=by first | exact Or.inl rfl | exact Or.inr (Or.inl rfl) | exact Or.inr (Or.inr rfl))(hd:(x == ("__debug__" : Str))=false:=by decide)
  (hcd:(x == ("__classdict__" : Str))=false:=by decide):PE X (.Name x pos) (DI i):=BL hN hv hd hcd
end
theorem aR {A B:Prop}(h:B):if false=true then A else B:=by
 rw[Ip Iw];exact h
theorem bI {A B:Prop}(h:A):if true=true then A else B:=by
 rw[Iq rfl];exact h
theorem uz {c A B:Prop} [Decidable c] (h1:c->A)(h2:¬ c->B):if c then A else B:=by
 by_cases h:c
 ·rw[Iq h]
  exact h1 h
 ·rw[Ip h]
  exact h2 h
def aA (H H':Hp):Prop:=∀ b o,H b=some o->H' b=some o
theorem aA.refl (H:Hp):aA H H:=fun _ _ h=>h
theorem aA.trans {H H1 H2:Hp}(a:aA H H1)(b:aA H1 H2):aA H H2:=fun c o h=>b c o (a c o h)
theorem aA.free {H H':Hp}(e:aA H H'){l:Addr}(h:H' l=Option.none):H l=Option.none:=by
 cases q:H l with
 | none=>rfl
 | some o =>
  rw[e l o q]at h;cases h
theorem aA.seq {K:PySem.W.Frag}{H H':Hp}{a:Addr}{xs:List V}(e:aA H H')(h:bF K H a xs):bF K H' a xs:=by
 rcases h with (h | ⟨o,h⟩) | h
 ·exact .inl (.inl (e _ _ h))
 ·exact .inl (.inr ⟨o,e _ _ h⟩)
 ·exact .inr h
section
variable {κ:Type} [DecidableEq κ]
theorem mD:∀ {l:List κ}{k:κ},l.Nodup->¬ k∈l->(l++[k]).Nodup
 | [],k,_,_=>by simp
 | a::r,k,h,hk=>by
  obtain⟨h1,h2⟩:=I0.mp h
  show (a::(r++[k])).Nodup
  refine I0.mpr ⟨fun m=>?_,mD h2 fun m=>hk (IE.mpr (Or.inr m))⟩;rcases IP.mp m with q | q
  ·exact h1 q
  ·exact hk (IE.mpr (Or.inl (IB.mp q).symm))
end
end L2
set_option maxHeartbeats 4000000
namespace L2
open PySem PySem.Spec PyProof.Rows
structure sR (so sc:Scope)(N N':List Str)(src:List (Option Nat)):Prop where
 kind:sc.kind=.function
 nocell:∀ y∈sc.names,y.2≠.cell
 loc:∀ y∈sc.names,y.2=.local->sc.names.lookup y.1=some .local
 fre:∀ y∈sc.names,y.2=.free->so.names.lookup y.1=some .cell\/so.names.lookup y.1=some .free
 nd:N'.Nodup
 len:src.length=N'.length
 cap:∀ p∈N'.zip src,(match p.2 with | none=>true | some j=>decide (N[j]? = some p.1/\sc.names.lookup p.1=some .free))=true
def iV (src:List (Option Nat))(σ:St):St:=src.map fun o=>o.bind fun j=>(σ[j]?).join
def cH (X:Cx)(sc:Scope)(cl:List (Str×Addr))(C:Addr)(N':List Str)(s:Shared)(H:Hp)(ex:List Addr):Cx where
 prog:=X.prog
 w:=X.w
 K:=X.K
 mg:=X.mg
 base:=X.base
 A:=X.A
 N:=N'
 s₀:=s
 H₀:=H
 env:=compEnvC sc cl C X.env
 outer:=X.stack
 stack:=X.stack
 ex:=ex
 fn:=fun _=>false
 calm:=X.calm
 pn:=[]
 xe:=fun _ _=>False
theorem iT {env:Env}:∀ (names:List (Str×NameKind))(cs:List (Str×Addr)),(∀ y∈names,y.2=.free->∃ c,env.cells.lookup y.1=some c) ->
  (∀ x c,cs.lookup x=some c->env.cells.lookup x=some c) ->
  ∃ cl:List (Str×Addr),(forIn names cs fun x r=>if (x.2 == NameKind.free)=true then (do let a <-cellOf env x.1;pure (ForInStep.yield ((x.1,a)::r))) else pure (ForInStep.yield r):Sem (List (Str×Addr)))=pure cl /\
   (∀ x c,cl.lookup x=some c->env.cells.lookup x=some c)/\(∀ x,(∃ c,cs.lookup x=some c)->∃ c,cl.lookup x=some c)/\∀ y∈names,y.2=.free->∃ c,cl.lookup y.1=some c
 | [],cs,_,h2=>⟨cs,by rw[List.forIn_nil],h2,fun _ h=>h,fun _ h=>nomatch h⟩
 | (n,k)::r,cs,h1,h2=>by
  by_cases hk:k=.free
  ·subst hk
   obtain⟨c,hc⟩:=h1 (n,.free) IJ rfl
   have h2':∀ x d,((n,c)::cs).lookup x=some d->env.cells.lookup x=some d:=fun x d e=>by
    rw[Jp]at e;split at e
    ·rename_i hx
     cases e
     have:x=n:=by simpa using hx
     rw[this];exact hc
    ·exact h2 x d e
   obtain⟨cl,e,q1,q2,q3⟩:=iT r ((n,c)::cs) (fun y hy=>h1 y (Iz _ hy)) h2';have has:∃ d,((n,c)::cs).lookup n=some d:=⟨c,by simp⟩;refine⟨cl,?_,q1,fun x ⟨d,hd⟩=>q2 x ?_,fun y hy hf=>?_⟩
   ·rw[List.forIn_cons,<-e]
    simp[cellOf,hc]
   ·rw[Jp]
    split
    ·exact⟨_,rfl⟩
    ·exact⟨d,hd⟩
   ·rcases IE.mp hy with rfl | hy
    ·exact q2 _ has
    ·exact q3 y hy hf
  ·obtain⟨cl,e,q1,q2,q3⟩:=iT r cs (fun y hy=>h1 y (Iz _ hy)) h2
   have hb:(k == NameKind.free)=false:=by simpa using hk
   refine⟨cl,?_,q1,q2,fun y hy hf=>?_⟩
   ·rw[List.forIn_cons,<-e]
    simp[hb]
   ·rcases IE.mp hy with rfl | hy
    ·exact absurd hf hk
    ·exact q3 y hy hf
theorem iU {sc:Scope}{env:Env}(h:∀ y∈sc.names,y.2=.free->∃ c,env.cells.lookup y.1=some c) :
  ∃ cl:List (Str×Addr),closureFor sc env=pure cl/\(∀ x c,cl.lookup x=some c->env.cells.lookup x=some c)/\∀ y∈sc.names,y.2=.free->∃ c,cl.lookup y.1=some c:=by
 obtain⟨cl,e,q1,_,q3⟩:=iT sc.names [] h (fun x c z=>by simp at z);refine⟨cl,?_,q1,q3⟩;unfold closureFor
 show (forIn sc.names [] _ >>= fun cs=>pure cs)=_
 refine Eq.trans (Jk (fun t=>t >>= fun cs=>pure cs) (Eq.trans ?_ e)) (by simp)
 congr 1
theorem mR {env:Env}:∀ {names:List (Str×NameKind)}{x:Str},(∀ y∈names,y.2≠.cell) ->
  ((names.map fun (n,k)=>if (k == NameKind.free&&env.scope.kind == .function&&env.kindOf n == some .cell) then (n,NameKind.cell) else (n,k)).lookup x=some .cell \/
    (names.map fun (n,k)=>if (k == NameKind.free&&env.scope.kind == .function&&env.kindOf n == some .cell) then (n,NameKind.cell) else (n,k)).lookup x=some .free)->(x,NameKind.free)∈names
 | [],_,_,h=>by simp at h
 | (n,k)::r,x,hc,h=>by
  have ih:=@mR env r x (fun y hy=>hc y (Iz _ hy));have h:List.lookup x ((if (k == NameKind.free&&env.scope.kind == .function&&env.kindOf n == some .cell)=true then (n,NameKind.cell) else (n,k))::_)=some .cell\/List.lookup x ((if (k == NameKind.free&&env.scope.kind == .function&&env.kindOf n == some .cell)=true then (n,NameKind.cell) else (n,k))::_)=some .free:=h
  by_cases hb:(k == NameKind.free&&env.scope.kind == .function&&env.kindOf n == some .cell)=true
  ·rw[Iq hb]at h
   cases hx:x == n with
   | true =>
    have e:x=n:=by simpa using hx
    subst e
    have:k=NameKind.free:=by
     simp only[Ko,JS]at hb;exact hb.1.1
    subst this;exact IJ
   | false =>
    simp only[Jp,hx]at h;exact Iz _ (ih h)
  ·rw[Ip hb]at h
   cases hx:x == n with
   | true =>
    have e:x=n:=by simpa using hx
    subst e;have hk:=hc (x,k) IJ;simp only[Jp,Kq,Option.some.injEq]at h;rcases h with h | h
    ·exact absurd h hk
    ·subst h;exact IJ
   | false =>
    simp only[Jp,hx]at h;exact Iz _ (ih h)
theorem kR {env:Env}:∀ {names:List (Str×NameKind)}{x:Str},names.lookup x=some .free ->
  ((names.map fun (n,k)=>if (k == NameKind.free&&env.scope.kind == .function&&env.kindOf n == some .cell) then (n,NameKind.cell) else (n,k)).lookup x=some .cell \/
    (names.map fun (n,k)=>if (k == NameKind.free&&env.scope.kind == .function&&env.kindOf n == some .cell) then (n,NameKind.cell) else (n,k)).lookup x=some .free)
 | [],_,h=>by simp at h
 | (n,k)::r,x,h=>by
  have ih:=@kR env r x
  show List.lookup x ((if (k == NameKind.free&&env.scope.kind == .function&&env.kindOf n == some .cell)=true then (n,NameKind.cell) else (n,k))::_)=some .cell\/List.lookup x ((if (k == NameKind.free&&env.scope.kind == .function&&env.kindOf n == some .cell)=true then (n,NameKind.cell) else (n,k))::_)=some .free
  cases hx:x == n with
  | true =>
   simp only[Jp,hx,Option.some.injEq]at h;subst h
   by_cases hb:(NameKind.free == NameKind.free&&env.scope.kind == .function&&env.kindOf n == some .cell)=true
   ·rw[Iq hb];left;simp only[Jp,hx]
   ·rw[Ip hb];right;simp only[Jp,hx]
  | false =>
   simp only[Jp,hx]at h
   by_cases hb:(k == NameKind.free&&env.scope.kind == .function&&env.kindOf n == some .cell)=true
   ·rw[Iq hb];simp only[Jp,hx];exact ih h
   ·rw[Ip hb];simp only[Jp,hx];exact ih h
theorem fk {prog:Program}{w:World}{A:Around}{R:Result->Shared->Prop}{s:Shared}{elt target iter:Expr}{ifs:List Expr}{scope:Scope}{pos:Pos}{it acc:Value}{env:Env}(I:Nat->Shared->Prop)
  (turn:∀ n s,I n s->wpAny (model prog w) A (pyNext it) (fun r s₁=>match r with
   | none=>R (.ok .next) s₁
   | some v=>wpAny (model prog w) A (letOwnedTupleGo target it v) (fun _ s₁'=>wpAny (model prog w) A (assign target env v) (fun _ s₂ =>
     wpAny (model prog w) A (forIn ifs true fun c r=>if r=true then do let ok <-isTrue c env (eval c env);pure (ForInStep.yield ok) else pure (ForInStep.yield r)) (fun ok s₃ =>
      if ok=true then wpAny (model prog w) A (eval elt env) (fun x s₄ =>
       wpAny (model prog w) A (call (.builtin "list.append") [acc,x]) (fun _ s₅=>∃ m,m<n/\I m s₅) (fun _ _=>False) s₄) (fun _ _=>False) s₃
      else ∃ m,m<n/\I m s₃) (fun _ _=>False) s₂) (fun _ _=>False) s₁') (fun _ _=>False) s₁) (fun _ _=>False) s)
  (n:Nat) (h:I n s) :
  codeAny (model prog w) A (.compLoop (.ListComp elt [⟨target,iter,ifs,0⟩] scope pos) 0 it acc env) R s:=by
 refine codeAny_loop rfl I (fun n s hI=>?_) n h
 show wpAny _ A ((compTurn (.ListComp elt [⟨target,iter,ifs,0⟩] scope pos) 0 it acc env).onRaise (fun x=>do noteFrame x env;theTreesLotGoes x)) _ _ s
 refine wpAny_noted ?_;rw[compTurn_list];refine Io (JA (Io (IS (turn n s hI) (fun r s₁ h₁=>?_) fun _ _ h'=>h'.elim)))
 cases r with
 | none=>exact Iu h₁
 | some v =>
  refine Io (IS h₁ (fun _ s₁' h₁'=>?_) fun _ _ h'=>h'.elim);refine Io (IS h₁' (fun _ s₂ h₂=>Io (IS h₂ (fun ok s₃ h₃=>?_) fun _ _ h'=>h'.elim)) fun _ _ h'=>h'.elim)
  cases ok with
  | false=>exact Iu ⟨rfl,h₃⟩
  | true =>
   exact Io (Io (IS h₃ (fun x s₄ h₄=>Io (IS h₄ (fun _ s₅ h₅=>Iu (Iu ⟨rfl,h₅⟩)) fun _ _ h'=>h'.elim)) fun _ _ h'=>h'.elim))
def DT (X:Cx)(ifs:List Expr)(t:TT):Prop :=
 ∀ (pins:List (Addr×Obj))(s:Shared)(σ:St)(H:Hp)(Q:Bool->Hp->Prop),au X pins σ H s->t σ H Q ->
  wpAny (model X.prog X.w) X.A (forIn ifs true fun c r=>if r=true then do let ok <-isTrue c X.env (eval c X.env);pure (ForInStep.yield ok) else pure (ForInStep.yield r)) (TP X pins σ Q) X.xe s
def ve:TT:=fun _ H Q=>Q true H
theorem j9 {X:Cx}:DT X [] ve:=fun pins s σ H Q I h=>wpAny_tests_nil ⟨H,I,h⟩
theorem zd {X:Cx}{c:Expr}{t:TT}(h:PT X c t):DT X [c] t:=fun pins s σ H Q I hq=>wpAny_tests_one (h pins s σ H Q I hq)
def CB (tt:TT)(te:TE)(a:Addr):TS:=fun D σ H=>tt σ H fun b H1=>if b=true then te σ H1 fun y H2=>∃ ys,H2 a=some (.lst ys)/\ys.length<sizeLine/\D.nx σ (upd H2 a (.lst (ys++[y]))) else D.nx σ H1
def lT (J:It)(g:TG)(tb:TS)(D:hG)(σ:St)(H:Hp):Prop:=∃ W:Nat->Nat->St->Hp->Prop,(∃ m,W 0 m σ H)/\∀ i m σ H,W i m σ H ->
 (J.stop i H/\D.nx σ H)\/(J.go i H/\∃ N:St->Hp->Prop,(∀ σ' H',N σ' H'->∃ m',m'<m/\W (i+1) m' σ' H')/\∀ x H',J.yld i H x H'->g x σ H' fun σ2 H2=>tb { D with nx:=N,ct:=N,bk:=D.nx } σ2 H2)
def Gr (wi:TI)(g:TG)(tt:TT)(te:TE)(src:List (Option Nat)):TE:=fun σ H Q=>wi σ H fun J H1=>∀ a,H1 a=none ->
 lT J g (CB tt te a) { nx:=fun _ H'=>Q (.ref a) H',rt:=fun _ _=>False } (iV src σ) (upd H1 a (.lst []))
theorem mh {X:Cx}{pins:List (Addr×Obj)}{σ:St}{H:Hp}{s:Shared}{sc so:Scope}{N':List Str}{src:List (Option Nat)}{cl:List (Str×Addr)}{fp:List Addr}{h':Heap}
  (I:au X pins σ H s) (hso:X.env.scope=so) (S:sR so sc X.N N' src) (q1:∀ x c,cl.lookup x=some c->X.env.cells.lookup x=some c) (q3:∀ y∈sc.names,y.2=.free->∃ c,cl.lookup y.1=some c)
  (hf:∀ b∈fp,fT X pins H b) (hlt:∀ b∈fp,b<s.heap.objs.size) (hns:h'.Ns s.heap.objs.size fun _=>none) (hk:∀ b o,s.heap.get? b=some o->h'.get? b=some o) (tk:Nat) :
  au (cH X sc cl s.heap.objs.size N' s H fp) [] (iV src σ) H { s with heap:=h',toks:=tk }:=by
 have hb:∀ b∈fp,b≠s.heap.objs.size/\∀ x c,cl.lookup x=some c->c≠b:=fun b z=>⟨IC (hlt b z),fun x c e=>(hf b z).2.2.2.2.1 x c (q1 x c e)⟩
 refine⟨⟨I.ok.mod,?_,I.ok.glob,I.ok.blt,Iv _,fun x y c h1 h2=>I.ok.inj x y c (q1 _ _ h1) (q1 _ _ h2),fun x hx=>?_,fun x c hx _=>(by cases hx),I.ok.hd,I.ok.frames,.inl rfl,hb,I.bs,Jb I.ok.bsz I.sz,fun b o e z=>?_,fun b z hz=>?_,I.stack,I.stkFree⟩,
  rfl,I.bare,Un.kept hk,⟨_,hns,fun i x v h1 h2 h3=>?_⟩,fun x c e=>?_,I.hok.fresh (Iv _),fun x c e=>I.freeC x c (q1 x c e),fun p hp=>absurd (show p∈([]:List (Addr×Obj)) from hp) (by simp),I.hok.kept hk,?_⟩
 ·show (relabel sc X.env).kind=_
  exact S.kind
 ·have hx':(x,NameKind.free)∈sc.names:=mR S.nocell hx
  exact q3 _ hx' rfl
 ·rcases (hf b z).2.2.2.1 with y | y
  ·exact I.ok.noex b o e y
  ·exact absurd (IQ (IA e) (Jb I.ok.bsz y)) (Kw _)
 ·rcases IE.mp (I.stkSub b hz) with y | y
  ·exact (hf b z).2.1 y
  ·exact (hf b z).2.2.1 y
 ·-- the captured names
  have h1':N'[i]? = some x:=h1;have h2':(iV src σ)[i]? = some (some v):=h2;unfold iV at h2';rw[List.getElem?_map]at h2'
  cases hs:src[i]? with
  | none=>rw[hs]at h2';cases h2'
  | some o =>
   rw[hs]at h2';have h2'':(o.bind fun j=>(σ[j]?).join)=some v:=Iy h2'
   cases o with
   | none=>cases h2''
   | some j =>
    have hj:(σ[j]?).join=some v:=h2''
    have hσ:σ[j]? = some (some v):=by
     cases e:σ[j]? with
     | none=>rw[e]at hj;cases hj
     | some z=>rw[e]at hj;rw[show z=some v from hj]
    have hzip:(x,some j)∈N'.zip src:=by
     have:(N'.zip src)[i]? = some (x,some j):=by
      rw[List.getElem?_zip_eq_some];exact⟨h1',hs⟩
     exact IV this
    have hc:=JK (S.cap _ hzip);obtain⟨hN,hfr⟩:X.N[j]? = some x/\sc.names.lookup x=some .free:=hc;have hmem:(x,NameKind.free)∈sc.names:=JM hfr;have hvis:=S.fre _ hmem rfl;rw[<-hso]at hvis;obtain⟨m,hn,hl⟩:=I.loc;obtain⟨u,ru,lk⟩:=hl j x v hN hσ (.inr hvis);refine⟨u,ru,.inr ⟨kR hfr,?_⟩⟩;obtain⟨c,hcl⟩:=q3 _ hmem rfl;refine⟨c,hcl,?_⟩;rcases lk with ⟨k,_⟩ | ⟨_,c',e',z⟩
    ·have k:X.env.scope.names.lookup x=some .local:=k
     rcases hvis with y | y<;>(rw[k]at y;cases y)
    ·have:=q1 x c hcl
     rw[e']at this;cases this;obtain⟨ob,e1,e2⟩:=z;exact⟨ob,hk _ _ e1,e2⟩
 ·obtain⟨v,ob,e1,e2⟩:=I.cell x c (q1 x c e)
  exact⟨v,ob,hk _ _ e1,e2⟩
 ·show (iV src σ).length=N'.length
  unfold iV;rw[Ir];exact S.len
theorem jB {X:Cx}{pins:List (Addr×Obj)}{σ:St}{H:Hp}{s:Shared}{l:Addr}{xs:List V}{y:V}{u:Value}{E:Value->Shared->Prop}(I:au X pins σ H s)(hH:H l=some (.lst xs))(hz:xs.length<sizeLine)(ru:aY y u) :
  wpAny (model X.prog X.w) X.A (call (.builtin "list.append") [.ref l,u]) (fun _ s'=>au X pins σ (upd H l (.lst (xs++[y]))) s') E s:=by
 obtain⟨z,its,n,r,hl,e⟩:=I.lstM hH;refine call_meets F.slot_list_append ⟨_,e,rfl⟩ F.entry_list_append (F.args_list_append_2 _ _) (PySem.list_append l its.toArray n u (by rw[IR];omega)) ⟨e,?_⟩;refine I.lset (its':=its++[u]) hH e (by simp) (r.append (.cons ru .nil)) ?_;rw[ID,IY];omega
theorem p6 {X:Cx}{elt tg iter:Expr}{ifs:List Expr}{sc so:Scope}{pos:Pos}{N':List Str}{src:List (Option Nat)}{wi:TI}{g:TG}{tt:TT}{te:TE}{N:List Str}(hso:X.env.scope=so)(hXN:X.N=N)(S:sR so sc N N' src)(hc:X.calm=true)(hi:PI X tg iter wi)
  (hb:∀ (cl:List (Str×Addr))(C:Addr)(s:Shared)(H:Hp)(ex:List Addr),PG (cH X sc cl C N' s H ex) tg g/\DT (cH X sc cl C N' s H ex) ifs tt/\PE (cH X sc cl C N' s H ex) elt te)
  (hs:∀ x,foldedSetIterable iter X.env x=pure x:=by intro _;rfl):PE X (.ListComp elt [⟨tg,iter,ifs,0⟩] sc pos) (Gr wi g tt te src):=by
 subst hXN;intro pins s σ H Q I h
 obtain⟨cl,hcl,q1,q3⟩:=iU (sc:=sc) (env:=X.env) fun y hy hf=>by
  have:=S.fre y hy hf;rw[<-hso]at this;exact I.ok.has y.1 this
 rw[eval_ListComp];refine wpAny_comprehension_free (use:=none) rfl hs hcl S.kind S.loc (bx (hi pins s σ H _ I h) fun v s1 h1=>bx h1 fun itv s2 h2=>?_);obtain⟨it,fp,tn,J,H2,e,I2,T,st2,f2,hR⟩:=h2;subst e;refine Jq ?_
 have I3:au X pins σ (upd H2 s2.heap.objs.size (.lst [])) { s2 with heap:=s2.heap.push { cls:=.type "list",dict:=none,data:=.seq ([]:List Value).toArray } } :=
  I2.laid (t':=s2.toks) (fun b u q=>Heap.get?_push_of_some _ q) (Iv _) ⟨IX _,[],0,.nil,Heap.get?_push_size _ rfl⟩
 have hfr:=I2.hok.fresh (Iv s2.heap.objs.size);obtain⟨W,⟨m0,w0⟩,turn⟩:=hR _ hfr
 have flt:∀ b∈fp,b<s2.heap.objs.size:=fun b hb=>by obtain⟨o,e,_⟩:=T.obj _ _ st2 b hb;exact IA e
 generalize hs3:({ s2 with heap:=s2.heap.push { cls:=.type "list",dict:=none,data:=.seq ([]:List Value).toArray } }:Shared)=s3 at I3 ⊢
 have e3:s3.heap=s2.heap.push { cls:=.type "list",dict:=none,data:=.seq ([]:List Value).toArray }:=by rw[<-hs3]
 have sz3:s3.heap.objs.size=s2.heap.objs.size+1:=by rw[e3,JT]
 have hf3:∀ b∈fp,fT X pins (upd H2 s2.heap.objs.size (.lst [])) b:=fun b hb=>⟨by rw[ag (IC (flt b hb))];exact (f2 b hb).1,(f2 b hb).2⟩
 have flt3:∀ b∈fp,b<s3.heap.objs.size:=fun b hb=>by rw[sz3];exact JR (flt b hb)
 have st3:tn 0 s3.heap:=T.keep _ _ _ st2 fun b _ o e=>by rw[e3];exact Heap.get?_push_of_some _ e
 refine Kk S.nocell (by intro y hy;simp at hy) (fun h4 hns4 hsb4=>?_) S.kind;have kp4:∀ b o,s3.heap.get? b=some o->h4.get? b=some o:=fun b o e=>hsb4.extBut b o (IC (IA e)) (Heap.get?_push_of_some _ e);have I4:=mh (h':=h4) I3 hso S q1 q3 hf3 flt3 (by simpa using hns4) kp4 (s3.toks+([]:List (Str×Value)).length);have st4:tn 0 h4:=T.keep _ _ _ st3 fun b _ o e=>kp4 b o e;generalize hC:s3.heap.objs.size=C at I4 hns4 hsb4 ⊢;obtain⟨hg,ht,he⟩:=hb cl C s3 (upd H2 s2.heap.objs.size (.lst [])) fp
 let Y:Cx:=cH X sc cl C N' s3 (upd H2 s2.heap.objs.size (.lst [])) fp
 have loop:∀ s5:Shared,s5={ s3 with heap:=h4,toks:=s3.toks+([]:List (Str×Value)).length }->codeAny (model X.prog X.w) X.A (.compLoop (.ListComp elt [⟨tg,iter,ifs,0⟩] sc pos) 0 (.ref it) (.ref s2.heap.objs.size) (compEnvC sc cl C X.env))
   (compPost (model X.prog X.w) X.A X.xe none (EP X pins σ Q) (.ref s2.heap.objs.size) C) s5:=by
  rintro s5 rfl
  have stat:∀ {H':Hp},(∀ b∈fp,H' b=none)->∀ b∈fp,fT Y [] H' b:=fun {H'} hn b hb=>by
   obtain⟨f0,f1,f2',f3,f4,f5⟩:=hf3 b hb;refine⟨hn b hb,?_,fun z=>?_,.inl hb,fun x c e=>f4 x c (q1 x c e),fun p hp=>absurd (show p∈([]:List (Addr×Obj)) from hp) (by simp)⟩
   ·show b≠C
    rw[<-hC];exact IC (flt3 b hb)
   ·have z:b∈iq X.stack:=z
    rcases IE.mp (I3.stkSub b z) with y | y
    ·exact f1 y
    ·exact f2' y
  refine fk (fun n s'=>∃ i σ' H',au Y [] σ' H' s'/\tn i s'.heap/\(∀ b∈fp,H' b=none)/\W i n σ' H') ?_ m0 ⟨0,_,_,I4,st4,fun b hb=>(hf3 b hb).1,w0⟩;rintro n s6 ⟨i,σ6,H6,I6,st6,fr6,w6⟩;rcases turn i n σ6 H6 w6 with ⟨stop,qn⟩ | ⟨go,Nx,hN,step⟩
  ·refine bx (T.done Y rfl rfl rfl hc i [] s6 σ6 H6 _ I6 (stat fr6) st6 stop) fun r s7 ⟨hr,I7⟩=>?_
   subst hr;obtain⟨m,hn,_⟩:=id I7.loc;refine⟨m,hn,fun h' hsb=>?_⟩
   have neC:∀ b o,s3.heap.get? b=some o->b≠C:=fun b o e=>by rw[<-hC];exact IC (IA e)
   have freeC:H6 C=none:=I7.free
   have un:Un (iq X.stack) fp (upd H2 s2.heap.objs.size (.lst [])) H6 s3.heap h' :=
    ⟨fun b o e n hb hx=>(hsb.2 b (neC b o e)).trans (I7.base.keep b o e n hb hx),fun b o e n hb hx=>by
      obtain⟨sl,q⟩:=I7.base.slot b o e n hb hx
      exact⟨sl,(hsb.2 b (neC b o e)).trans q⟩,I7.base.free,fun b o e hx=>by
      obtain⟨o',q⟩:=I7.base.there b o e hx
      exact⟨o',(hsb.2 b (neC b o e)).trans q⟩,I7.base.tups,I7.base.frzs,I7.base.tbls⟩
   have hok:iQ X.prog X.w H6 h':=fun b ob e=>by
    refine (I7.hok b ob e).stay (fun c w' hc' q=>(hsb.2 c ?_).trans q) (fun _ q=>q) fun _ _ q=>q;rintro rfl;rcases hc' with z | z
    ·rw[<-z,freeC]at e;cases e
    ·rw[freeC]at z;cases z
   have J7:au X pins σ H6 { s7 with heap:=h' }:=I3.call' (ch:=fp) (s':={ s7 with heap:=h' }) I7.os un hok I7.bare fun b hb=>⟨(hf3 b hb).2.2.2.1,(hf3 b hb).2.1,(hf3 b hb).2.2.2.2.1,(hf3 b hb).2.2.2.2.2⟩;exact⟨.ref s2.heap.objs.size,H6,J7,rfl,qn⟩
  ·refine bx (T.item Y rfl rfl rfl hc i [] s6 σ6 H6 _ I6 (stat fr6) st6 go) fun r s7 ⟨u,hr,h7⟩=>?_
   subst hr;refine bx h7 fun _ s8 ⟨x,H8,I8,r8,y8,st8,fr8⟩=>?_;have I8':=I8.pinned (stat fr8) (T.obj _ _ st8);refine bx (hg _ s8 σ6 H8 x u _ I8' r8 (step x H8 y8)) fun _ s9 ⟨σ9,H9,I9,q9⟩=>?_
   have again:∀ {s':Shared}{σ7:St}{H7:Hp},au Y ([]++i8 fp s8.heap) σ7 H7 s'->Nx σ7 H7->∃ m,m<n/\∃ i σ' H',au Y [] σ' H' s'/\tn i s'.heap/\(∀ b∈fp,H' b=none)/\W i m σ' H':=fun {s' σ7 H7} I7 n7=>by
    obtain⟨m',hm,w7⟩:=hN σ7 H7 n7;refine⟨m',hm,i+1,σ7,H7,I7.unpinned,T.keep _ _ _ st8 fun b hb o e=>(I7.pin (b,o) (IF _ (IF _ (bU hb e)))).1,fun b hb=>?_,w7⟩;obtain⟨o,e,d⟩:=T.obj _ _ st8 b hb;exact (I7.pin (b,o) (IF _ (IF _ (bU hb e)))).2.1
   refine bx (ht _ s9 σ9 H9 _ I9 q9) fun ok s10 ⟨H10,I10,q10⟩=>?_
   cases ok with
   | false =>
    rw[Ip Iw]at q10 ⊢;exact again I10 q10
   | true =>
    rw[Iq rfl]at q10 ⊢;refine bx (he _ s10 σ9 H10 _ I10 q10) fun y s11 ⟨yv,H11,I11,ry,ys,hys,hlen,q11⟩=>?_;exact bx (jB (X:=Y) I11 hys hlen ry) fun _ s12 I12=>again I12 q11
 exact codeAny_compStart_list (loop _ rfl) (T.self _ 0 _ _ _ st4 (loop _ rfl))
def Fp (wi:TI)(g:TG)(tt:TT)(te:TE)(src:List (Option Nat))(i:Nat):TS:=fun D σ H=>wi σ H fun J H1=>∀ a,H1 a=none ->
 lT J g (CB tt te a) { nx:=fun _ H'=>D.nx (σ.set i (some (.ref a))) H',rt:=fun _ _=>False } (iV src σ) (upd H1 a (.lst []))
theorem Dw {X:Cx}{ix:Nat}{x:Str}{px spos:Pos}{elt tg iter:Expr}{ifs:List Expr}{sc so:Scope}{pos:Pos}{N':List Str}{src:List (Option Nat)}{wi:TI}{g:TG}{tt:TT}{te:TE}{N:List Str}(hso:X.env.scope=so)(hXN:X.N=N)(S:sR so sc N N' src)(hc:X.calm=true)(hi:PI X tg iter wi)
  (hb:∀ (cl:List (Str×Addr))(C:Addr)(s:Shared)(H:Hp)(ex:List Addr),PG (cH X sc cl C N' s H ex) tg g/\DT (cH X sc cl C N' s H ex) ifs tt/\PE (cH X sc cl C N' s H ex) elt te)
  (hnd:X.N.Nodup) (hix:X.N[ix]? = some x) (hx:X.env.scope.names.lookup x=some .local)
  (hsw:swapsWith (.ListComp elt [⟨tg,iter,ifs,0⟩] sc pos) (some (.Name x px)) spos.line X.env=pure true:=by rfl)
  (hs:∀ x,foldedSetIterable iter X.env x=pure x:=by intro _;rfl):PS X (.Assign [.Name x px] (.ListComp elt [⟨tg,iter,ifs,0⟩] sc pos) spos) (Fp wi g tt te src ix):=by
 subst hXN;intro pins s σ H D I h
 obtain⟨cl,hcl,q1,q3⟩:=iU (sc:=sc) (env:=X.env) fun y hy hf=>by
  have:=S.fre y hy hf;rw[<-hso]at this;exact I.ok.has y.1 this
 rw[exec_Assign_Name_used _ _ _ _ hsw];refine Io (JA (Io ?_))
 show wpAny _ X.A (do let _ <-comprehension (.ListComp elt [⟨tg,iter,ifs,0⟩] sc pos) sc X.env _ (newList []) false (eval iter X.env) (some (assign (.Name x px) X.env))) _ _ s
 refine Io (IS (wpAny_comprehension_free (use:=some (assign (.Name x px) X.env)) (Q:=fun _ s'=>SP X pins D .next s') rfl hs hcl S.kind S.loc (bx (hi pins s σ H _ I h) fun v s1 h1=>bx h1 fun itv s2 h2=>?_)) (fun _ s' hq=>Iu (Iu hq)) fun _ _ e=>e);obtain⟨it,fp,tn,J,H2,e,I2,T,st2,f2,hR⟩:=h2;subst e;refine Jq ?_
 have I3:au X pins σ (upd H2 s2.heap.objs.size (.lst [])) { s2 with heap:=s2.heap.push { cls:=.type "list",dict:=none,data:=.seq ([]:List Value).toArray } } :=
  I2.laid (t':=s2.toks) (fun b u q=>Heap.get?_push_of_some _ q) (Iv _) ⟨IX _,[],0,.nil,Heap.get?_push_size _ rfl⟩
 have hfr:=I2.hok.fresh (Iv s2.heap.objs.size);obtain⟨W,⟨m0,w0⟩,turn⟩:=hR _ hfr
 have flt:∀ b∈fp,b<s2.heap.objs.size:=fun b hb=>by obtain⟨o,e,_⟩:=T.obj _ _ st2 b hb;exact IA e
 generalize hs3:({ s2 with heap:=s2.heap.push { cls:=.type "list",dict:=none,data:=.seq ([]:List Value).toArray } }:Shared)=s3 at I3 ⊢
 have e3:s3.heap=s2.heap.push { cls:=.type "list",dict:=none,data:=.seq ([]:List Value).toArray }:=by rw[<-hs3]
 have sz3:s3.heap.objs.size=s2.heap.objs.size+1:=by rw[e3,JT]
 have hf3:∀ b∈fp,fT X pins (upd H2 s2.heap.objs.size (.lst [])) b:=fun b hb=>⟨by rw[ag (IC (flt b hb))];exact (f2 b hb).1,(f2 b hb).2⟩
 have flt3:∀ b∈fp,b<s3.heap.objs.size:=fun b hb=>by rw[sz3];exact JR (flt b hb)
 have st3:tn 0 s3.heap:=T.keep _ _ _ st2 fun b _ o e=>by rw[e3];exact Heap.get?_push_of_some _ e
 refine Kk S.nocell (by intro y hy;simp at hy) (fun h4 hns4 hsb4=>?_) S.kind;have kp4:∀ b o,s3.heap.get? b=some o->h4.get? b=some o:=fun b o e=>hsb4.extBut b o (IC (IA e)) (Heap.get?_push_of_some _ e);have I4:=mh (h':=h4) I3 hso S q1 q3 hf3 flt3 (by simpa using hns4) kp4 (s3.toks+([]:List (Str×Value)).length);have st4:tn 0 h4:=T.keep _ _ _ st3 fun b _ o e=>kp4 b o e;generalize hC:s3.heap.objs.size=C at I4 hns4 hsb4 ⊢;obtain⟨hg,ht,he⟩:=hb cl C s3 (upd H2 s2.heap.objs.size (.lst [])) fp
 let Y:Cx:=cH X sc cl C N' s3 (upd H2 s2.heap.objs.size (.lst [])) fp
 have loop:∀ s5:Shared,s5={ s3 with heap:=h4,toks:=s3.toks+([]:List (Str×Value)).length }->codeAny (model X.prog X.w) X.A (.compLoop (.ListComp elt [⟨tg,iter,ifs,0⟩] sc pos) 0 (.ref it) (.ref s2.heap.objs.size) (compEnvC sc cl C X.env))
   (compPost (model X.prog X.w) X.A X.xe (some (assign (.Name x px) X.env)) (fun _ s'=>SP X pins D .next s') (.ref s2.heap.objs.size) C) s5:=by
  rintro s5 rfl
  have stat:∀ {H':Hp},(∀ b∈fp,H' b=none)->∀ b∈fp,fT Y [] H' b:=fun {H'} hn b hb=>by
   obtain⟨f0,f1,f2',f3,f4,f5⟩:=hf3 b hb;refine⟨hn b hb,?_,fun z=>?_,.inl hb,fun x c e=>f4 x c (q1 x c e),fun p hp=>absurd (show p∈([]:List (Addr×Obj)) from hp) (by simp)⟩
   ·show b≠C
    rw[<-hC];exact IC (flt3 b hb)
   ·have z:b∈iq X.stack:=z
    rcases IE.mp (I3.stkSub b z) with y | y
    ·exact f1 y
    ·exact f2' y
  refine fk (fun n s'=>∃ i σ' H',au Y [] σ' H' s'/\tn i s'.heap/\(∀ b∈fp,H' b=none)/\W i n σ' H') ?_ m0 ⟨0,_,_,I4,st4,fun b hb=>(hf3 b hb).1,w0⟩;rintro n s6 ⟨i,σ6,H6,I6,st6,fr6,w6⟩;rcases turn i n σ6 H6 w6 with ⟨stop,qn⟩ | ⟨go,Nx,hN,step⟩
  ·refine bx (T.done Y rfl rfl rfl hc i [] s6 σ6 H6 _ I6 (stat fr6) st6 stop) fun r s7 ⟨hr,I7⟩=>?_
   subst hr;obtain⟨m,hn,_⟩:=id I7.loc;have freeC:H6 C=none:=I7.free;have J7:au X pins σ H6 s7:=I3.call' (ch:=fp) (s':=s7) I7.os I7.base I7.hok I7.bare fun b hb=>⟨(hf3 b hb).2.2.2.1,(hf3 b hb).2.1,(hf3 b hb).2.2.2.2.1,(hf3 b hb).2.2.2.2.2⟩
   have hC3:∀ b o,s3.heap.get? b=some o->b≠C:=fun b o e=>by rw[<-hC];exact IC (IA e)
   have hlC:X.env.locals≠C:=by obtain⟨m3,⟨o3,_,_,e3',_⟩,_⟩:=I3.loc;exact hC3 _ _ e3'
   have hcC:∀ y c,X.env.cells.lookup y=some c->c≠C:=fun y c e=>by obtain⟨v3,o3,e3',_⟩:=I3.cell y c e;exact hC3 _ _ e3'
   have hpC:∀ p∈X.pn++pins,p.1≠C:=fun p hp=>hC3 _ _ (I3.pin p hp).1;refine wpAny_assign_Name (tV (i:=ix) (v:=.ref s2.heap.objs.size) J7 hnd hix (.inl hx) rfl (fun s8 I8 ⟨a8,sb8,ha8⟩=>?_) (.inr hx))
   have ha8C:C≠a8:=by
    rcases ha8 with z | z
    ·rw[z];exact IN hlC
    ·exact IN (hcC _ _ z)
   refine⟨m,hn.sameBut sb8 ha8C,fun h' hsb=>?_⟩
   have I9:au X pins (σ.set ix (some (.ref s2.heap.objs.size))) H6 { s8 with heap:=h' } :=
    I8.turned (it:=C) (t':=s8.toks) (fun b o hb e=>(hsb.2 b hb).trans e) freeC (IN hlC) (.inr (by rw[<-hC];exact I3.sz)) hcC hpC
   exact⟨_,H6,I9,qn⟩
  ·refine bx (T.item Y rfl rfl rfl hc i [] s6 σ6 H6 _ I6 (stat fr6) st6 go) fun r s7 ⟨u,hr,h7⟩=>?_
   subst hr;refine bx h7 fun _ s8 ⟨x,H8,I8,r8,y8,st8,fr8⟩=>?_;have I8':=I8.pinned (stat fr8) (T.obj _ _ st8);refine bx (hg _ s8 σ6 H8 x u _ I8' r8 (step x H8 y8)) fun _ s9 ⟨σ9,H9,I9,q9⟩=>?_
   have again:∀ {s':Shared}{σ7:St}{H7:Hp},au Y ([]++i8 fp s8.heap) σ7 H7 s'->Nx σ7 H7->∃ m,m<n/\∃ i σ' H',au Y [] σ' H' s'/\tn i s'.heap/\(∀ b∈fp,H' b=none)/\W i m σ' H':=fun {s' σ7 H7} I7 n7=>by
    obtain⟨m',hm,w7⟩:=hN σ7 H7 n7;refine⟨m',hm,i+1,σ7,H7,I7.unpinned,T.keep _ _ _ st8 fun b hb o e=>(I7.pin (b,o) (IF _ (IF _ (bU hb e)))).1,fun b hb=>?_,w7⟩;obtain⟨o,e,d⟩:=T.obj _ _ st8 b hb;exact (I7.pin (b,o) (IF _ (IF _ (bU hb e)))).2.1
   refine bx (ht _ s9 σ9 H9 _ I9 q9) fun ok s10 ⟨H10,I10,q10⟩=>?_
   cases ok with
   | false =>
    rw[Ip Iw]at q10 ⊢;exact again I10 q10
   | true =>
    rw[Iq rfl]at q10 ⊢;refine bx (he _ s10 σ9 H10 _ I10 q10) fun y s11 ⟨yv,H11,I11,ry,ys,hys,hlen,q11⟩=>?_;exact bx (jB (X:=Y) I11 hys hlen ry) fun _ s12 I12=>again I12 q11
 exact codeAny_compStart_list (loop _ rfl) (T.self _ 0 _ _ _ st4 (loop _ rfl))
section
variable {X:Cx}
def FN (i j:Int):Prop:=0<j/\j<1152921504606846976
theorem Bw:qr X (binaryOp .FloorDiv) (rI FN fun i j=>.int (i/j)):=Ge fun i j _ _ _ _ _ hc q=>by
 have h1:(0:Int)<j:=hc.1;have h2:j<1152921504606846976:=hc.2;refine floordiv_int (by omega) (by rw[Int.fdiv_eq_ediv_of_nonneg i (by omega)];exact q) (.inl (PyProof.noPylong_of_log2 ?_))
 have h0:j.natAbs≠0:=by omega
 have:j.natAbs.log2<60:=(Nat.log2_lt h0).mpr (by omega);omega
theorem AM:kA X (.builtin "isinstance") (fun xs H Q=>∃ x T t b,xs=[x,.ty T]/\lU X.K H x t/\PySem.W.kitOne X.K t (.type T)=some b/\Q (.bl b) H):=by
 intro pins s σ H xs us Q I r h;obtain⟨x,T,t,b,rfl,ty,e,q⟩:=h
 cases r with
 | cons rx r2 =>
  cases r2 with
  | cons rt r3 =>
   cases r3;cases rt;exact zV I rx ty e fun tk=>⟨.bl b,H,I.tok tk,rfl,q⟩
theorem wX {A:Around}{bs:List Bool}{its:List Value}(r:bh (bs.map V.bl) its) :
  TruthOf X.prog X.w A (fun i v=>its.toArray[i]? = some v) (fun i=>bs.getD i false):=by
 intro i v s Q E hv hq
 have hv':its[i]? = some v:=by simpa using hv
 have hi:i<its.length:=(List.getElem?_eq_some_iff.mp hv').1;have hl:=r.length;rw[Ir]at hl;obtain⟨u,hu,ru⟩:=r.get (i:=i) (x:=V.bl (bs[i]'(by omega))) (by rw[List.getElem?_map,List.getElem?_eq_getElem (by omega)];rfl);rw[hv']at hu;cases hu;cases ru
 have e:bs.getD i false=bs[i]'(by omega):=by simp[List.getD,List.getElem?_eq_getElem (show i<bs.length by omega)]
 have hq':Q (bs.getD i false) s:=hq;rw[e]at hq';exact Kh hq'
theorem As (bs:List Bool):(List.range bs.length).all (fun i=>bs.getD i false)=bs.all id:=by
 have h:(List.range bs.length).map (fun i=>bs.getD i false)=bs:=by
  apply List.ext_getElem
  ·simp
  ·intro i h1 h2;simp[List.getD,List.getElem?_eq_getElem h2]
 have e:(List.range bs.length).all (fun i=>bs.getD i false)=((List.range bs.length).map (fun i=>bs.getD i false)).all id:=by rw[List.all_map];rfl
 rw[e,h]
theorem z7 {pins:List (Addr×Obj)}{σ:St}{H:Hp}{s:Shared}{A:Around}{E:Value->Shared->Prop}{p:Addr}{xs:List V}{its:List Value}{R:Value->Shared->Prop}(I:au X pins σ H s)(hA:A.handled=none)(pl:PlainL s.heap p its.toArray)
  (h:∀ (I':Addr)(St:Nat->Heap->Prop)(s2:Shared),s2.heap.objs.size=s.heap.objs.size+1->I'=s.heap.objs.size->Walks X.prog X.w A I' [I',p] [I'] its.length (fun i v=>its.toArray[i]? = some v) St->St 0 s2.heap->(∀ b o,s.heap.get? b=some o->s2.heap.get? b=some o)->(∀ h' tk,(∀ b o,b∉[I']->s2.heap.get? b=some o->h'.get? b=some o)->au X pins σ H { s2 with heap:=h',toks:=tk })->R (.ref I') s2) :
  wpAny (model X.prog X.w) A (pyIter (.ref p)) R E s:=by
 refine KJ pl.isList ?_
 have hlt:p<s.heap.objs.size:=by obtain⟨o,n,e,_⟩:=pl;exact IA e
 have W:=Walks.list (prog:=X.prog) (w:=X.w) hA s.heap.objs.size p (IC hlt) its.toArray;rw[IR]at W;refine h _ _ _ (by rw[JT]) rfl W ⟨⟨_,Heap.get?_push_size _ rfl,rfl,rfl⟩,pl.isList.at fun o e=>Heap.get?_push_of_some _ e⟩ (fun b o e=>Heap.get?_push_of_some _ e) fun h' tk kp=>?_;exact I.kept (t':=tk) fun b o e=>kp b o (by simpa using IC (IA e)) (Heap.get?_push_of_some _ e)
theorem zD (hc:X.calm=true):kA X (.builtin "all") (fun xs H Q=>∃ (p:Addr)(bs:List Bool),xs=[.ref p]/\bF X.K H p (bs.map V.bl)/\Q (.bl (bs.all id)) H):=by
 intro pins s σ H xs us Q I r h;obtain⟨p,bs,rfl,hq,q⟩:=h;obtain⟨u,rfl,rx⟩:=kW r;cases rx;obtain⟨its,rv,pl,hz⟩:=I.list hq;have hl:=rv.length;rw[Ir]at hl;refine call_all_walk (z7 (xs:=bs.map V.bl) I (I.ok.hd hc) pl fun I' St s2 hs2 hI W st kp fin=>?_);refine⟨I',_,_,_,_,St,_,rfl,W,st,wX rv,fun h' tk k=>⟨.bl _,H,fin h' tk k,rfl,?_⟩⟩;rw[<-hl,As];exact q
theorem l8:∀ {ns:List Int}{us:List Value},bh (ns.map V.int) us->IntsAre us ns
 | [],_,r=>by cases r;exact IntsAre.nil
 | n::ns,_,r=>by
  cases r with
  | cons r t=>obtain⟨tk,rfl⟩:=r;exact IntsAre.cons _ _ (l8 t)
theorem vh:∀ {ns:List Int}{us:List Value},IntsAre us ns->bh (ns.map V.int) us:=by
 intro ns
 induction ns with
 | nil=>intro us h;cases h;exact .nil
 | cons n ns ih =>
  intro us h
  cases h with
  | cons _ _ t=>exact .cons ⟨_,rfl⟩ (ih t)
def b7:List Int->List Int:=fun l=>l.mergeSort (fun a b=>decide (a<=b))
theorem wO {l m:List Int}(hp:m.Perm l)(hs:m.Pairwise (·<=·)):m=b7 l:=by
 have h1:(b7 l).Pairwise (fun a b=>decide (a<=b)=true):=List.pairwise_mergeSort (by intro a b c;simp;omega) (by intro a b;simp;omega) l;have h2:(b7 l).Pairwise (·<=·):=h1.imp (by simp);have h3:m.Perm (b7 l):=hp.trans (Kr l _).symm;exact h3.eq_of_pairwise (fun a b _ _ h1 h2=>Int.le_antisymm h1 h2) hs h2
theorem zt:∀ {xs:List V}{us:List Value},xs.length=us.length->(∀ (i:Nat) x u,xs[i]? = some x->us[i]? = some u->aY x u)->bh xs us
 | [],[],_,_=>.nil
 | x::xs,u::us,hl,h=>.cons (h 0 x u rfl rfl) (zt (by simpa using hl) fun i y v e1 e2=>h (i+1) y v (by simpa using e1) (by simpa using e2))
 | [],_::_,hl,_=>by simp at hl
 | _::_,[],hl,_=>by simp at hl
theorem fF (hc:X.calm=true):kA X (.builtin "sorted") (fun xs H Q=>∃ (p:Addr)(kvs:List (bV×V))(ns:List Int),xs=[.ref p]/\H p=some (.dK kvs)/\kvs.map (·.1)=ns.map Sum.inl/\ns.length<64/\∀ l,H l=none->Q (.ref l) (upd H l (.lst ((b7 ns).map V.int)))):=by
 intro pins s σ H xs us Q I r h;obtain⟨p,kvs,ns,rfl,hH,hk,h64,q⟩:=h;obtain⟨u,rfl,rx⟩:=kW r;cases rx;obtain⟨hz,lo,vs,rel,dd⟩:=(show bo X.prog X.w H s.heap p (.dK kvs) from I.hok p _ hH);obtain⟨ep,hat⟩:=dd.dictAt
 have hlk:kvs.length=ns.length:=by have:=Jk List.length hk;simpa using this
 have hlv:kvs.length=vs.length:=Ix rel;refine PySem.Calls.call_function_entry kind_sorted plain_sorted entry_sorted (args_sorted1 _) ?_;unfold Builtin.«sorted»;refine Io (m:=checkCount "sorted" 1 1 _) (Iu ?_);refine Io (PySem.W.kdu_collect (A:=X.A.in1) (PySem.W.kdl_dict (knd:=aB X.prog X.w) (kvs:=vs) (ep:=ep) lo) (I.ok.hd hc) hat (by rw[<-hlv];exact hz) fun h' tk acc kp hacc=>?_)
 have hal:acc.toList.length=vs.length:=by rw[IU];exact hacc.1
 refine Io (wpAny_newList ?_ (by rw[hal,<-hlv];exact hz))
 have rI:bh (ns.map V.int) acc.toList:=zt (by rw[Ir,hal];omega) fun i x v e1 e2=>by
  obtain⟨k,y,hx,hks⟩:=hacc.2 i v (by rw[<-Array.getElem?_toList];exact e2)
  have e3:(vs.map (·.1))[i]? = some k:=by rw[List.getElem?_map,hx];rfl
  rw[<-rel.keys,hk,List.getElem?_map]at e3;rw[List.getElem?_map]at e1
  cases en:ns[i]? with
  | none=>rw[en]at e1;cases e1
  | some n =>
   rw[en]at e1 e3;have e1':V.int n=x:=Iy e1;subst e1';have e4:(Sum.inl n:bV)=k:=Iy e3;subst e4;rcases bM (k:=Sum.inl n) (v:=v) hks with ⟨j,t,ej,ev⟩ | ⟨j,t,ej,_⟩
   ·cases ej;exact⟨t,ev⟩
   ·cases ej
 have hoL:(h'.push (seqObj "list" acc.toList.toArray 0)).get? h'.objs.size=some (seqObj "list" acc.toList.toArray 0):=Heap.get?_push_size _ rfl;refine Io (Jv (J6 slot_list_sort ⟨_,hoL,rfl⟩ entry_list_sort (list_sort_tree hoL (l8 rI) (by rw[hal];omega) fun out ns' a1 a2 a3=>⟨_,rfl,?_⟩) (args_list_sort _)));refine Iu ⟨_,rfl,?_⟩;have en:ns'=b7 ns:=wO a2 a3;subst en;obtain⟨e,he⟩:=sortedHeap_at (vs:=acc.toList) (out:=out) hoL;have I1:au X pins σ H { s with heap:=h',toks:=tk }:=I.kept kp;refine⟨.ref h'.objs.size,_,I1.laid (t':=tk) (a:=h'.objs.size) (o:=.lst ((b7 ns).map V.int)) (fun b o e=>?_) (Iv _) ⟨?_,out.toList,e,vh a1,by simpa using he⟩,rfl,q _ (I1.hok.fresh (Iv _))⟩
 ·rw[sortedHeap_old (IC (IA e)) (by rw[size_push'];exact JR (IA e))]
  exact Heap.get?_push_of_some _ e
 ·have:=a2.length_eq
  rw[Ir];omega
end
inductive Dt where
 | at (v:V)
 | sq (tup:Bool) (ds:List Dt)
def iz:V->Bool
 | .non=>true
 | .int _=>true
 | .str _=>true
 | _=>false
theorem qG {v:V}(h:iz v=true):A3 v=true:=by cases v<;>first | rfl | cases h
theorem CQ {x y:V}(hx:iz x=true)(hy:iz y=true):GK x y=true↔x=y:=by
 cases x<;>cases y<;>first | (cases hx;done) | (cases hy;done) | simp[GK]
def pD (K:PySem.W.Frag)(H:Hp)(t:Bool)(a:Addr)(xs:List V):Prop:=if t=true then c6 K H a xs else bF K H a xs
def RD (K:PySem.W.Frag)(H:Hp):Nat->V->Dt->Prop
 | 0,v,d=>iz v=true/\d=.at v
 | n+1,v,d=>(iz v=true/\d=.at v)\/∃ a t xs ds,v=.ref a/\d=.sq t ds/\pD K H t a xs/\Paired (RD K H n) xs ds
theorem RD.flat {K:PySem.W.Frag}{H:Hp}{v:V}(h:iz v=true):∀ n,RD K H n v (.at v)
 | 0=>⟨h,rfl⟩
 | _+1=>.inl ⟨h,rfl⟩
theorem RD.lst {K:PySem.W.Frag}{H:Hp}{a:Addr}{xs:List V}{ds:List Dt}{n:Nat}(h:bF K H a xs)(r:Paired (RD K H n) xs ds):RD K H (n+1) (.ref a) (.sq false ds) :=
 .inr ⟨a,false,xs,ds,rfl,rfl,by unfold pD;rw[Ip Iw];exact h,r⟩
theorem RD.tup {K:PySem.W.Frag}{H:Hp}{a:Addr}{xs:List V}{ds:List Dt}{n:Nat}(h:c6 K H a xs)(r:Paired (RD K H n) xs ds):RD K H (n+1) (.ref a) (.sq true ds) :=
 .inr ⟨a,true,xs,ds,rfl,rfl,by unfold pD;rw[Iq rfl];exact h,r⟩
section
variable {X:Cx}{pins:List (Addr×Obj)}{σ:St}{H:Hp}{s:Shared}
theorem RD.inj (I:au X pins σ H s):∀ {n m:Nat}{v:V}{d e:Dt},RD X.K H n v d->RD X.K H m v e->d=e:=by
 intro n
 induction n with
 | zero =>
  intro m v d e h1 h2;obtain⟨f,rfl⟩:=h1
  cases m with
  | zero=>exact h2.2.symm
  | succ m =>
   rcases h2 with h2 | ⟨a,t,xs,ds,rfl,_⟩
   ·exact h2.2.symm
   ·cases f
 | succ n ih =>
  intro m v d e h1 h2;rcases h1 with h1 | ⟨a,t,xs,ds,rfl,rfl,q,r⟩
  ·obtain⟨f,rfl⟩:=h1
   cases m with
   | zero=>exact h2.2.symm
   | succ m =>
    rcases h2 with h2 | ⟨a,t,xs,ds,rfl,_⟩
    ·exact h2.2.symm
    ·cases f
  ·cases m with
   | zero=>cases h2.1
   | succ m =>
    rcases h2 with h2 | ⟨a',t',xs',ds',ea,rfl,q',r'⟩
    ·cases h2.1
    ·cases ea
     have pr:∀ {l:List V}{l1 l2:List Dt},Paired (RD X.K H n) l l1->Paired (RD X.K H m) l l2->l1=l2:=by
      intro l
      induction l with
      | nil=>intro l1 l2 p1 p2;cases p1;cases p2;rfl
      | cons z l ihl =>
       intro l1 l2 p1 p2
       cases p1 with
       | cons r1 t1 =>
        cases p2 with
        | cons r2 t2=>rw[ih r1 r2,ihl t1 t2]
     cases t with
     | false =>
      have q:bF X.K H a xs:=by unfold pD at q;rwa [Ip Iw]at q
      cases t' with
      | false =>
       have q':bF X.K H a xs':=by unfold pD at q';rwa [Ip Iw]at q'
       have:=I.list_inj q q';subst this;rw[pr r r']
      | true =>
       have q':c6 X.K H a xs':=by unfold pD at q';rwa [Iq rfl]at q'
       obtain⟨_,_,p1,_⟩:=I.list q;obtain⟨_,_,p2,_⟩:=I.tuple q';exact absurd rfl (SeqAt.ne_of_list_tuple p1.isList p2)
     | true =>
      have q:c6 X.K H a xs:=by unfold pD at q;rwa [Iq rfl]at q
      cases t' with
      | false =>
       have q':bF X.K H a xs':=by unfold pD at q';rwa [Ip Iw]at q'
       obtain⟨_,_,p1,_⟩:=I.tuple q;obtain⟨_,_,p2,_⟩:=I.list q';exact absurd rfl (SeqAt.ne_of_list_tuple p2.isList p1)
      | true =>
       have q':c6 X.K H a xs':=by unfold pD at q';rwa [Iq rfl]at q'
       have:=I.tuple_inj q q';subst this;rw[pr r r']
theorem BX (I:au X pins σ H s):∀ (n:Nat){A:Around}{l b:Addr}{d e:Dt},A.units+n<cLine->RD X.K H (n+1) (.ref l) d->RD X.K H (n+1) (.ref b) e ->
  (∀ {A:Around}{y x:V}{u v:Value}{d e:Dt},A.units+n<cLine+1->RD X.K H n y d->RD X.K H n x e->aY y u->aY x v->∃ k:Bool,(k=true↔d=e)/\SeqAt.EqAt A s u v k) ->
  ∃ k:Bool,(k=true↔d=e)/\SeqAt.RcAt A s (.ref l) (.ref b) k:=by
 intro n A l b d e hu h1 h2 ih;rcases h1 with h1 | ⟨a,t,xs,ds,ea,rfl,q,r⟩
 ·cases h1.1
 cases ea;rcases h2 with h2 | ⟨a',t',xs',ds',ea,rfl,q',r'⟩
 ·cases h2.1
 cases ea
 have pw:∀ {us us':List Value},bh xs us->bh xs' us'->∃ ks:Nat->Bool,(∀ j (h1:j<us.length) (h2:j<us'.length),SeqAt.EqAt A.in1 s us[j] us'[j] (ks j)) /\
   (∀ j d1 d2,ds[j]? = some d1->ds'[j]? = some d2->(ks j=true↔d1=d2)):=by
  intro us us' rv rv'
  have ex:∀ j:Nat,∃ k:Bool,(∀ (h1:j<us.length)(h2:j<us'.length),SeqAt.EqAt A.in1 s us[j] us'[j] k)/\(∀ d1 d2,ds[j]? = some d1->ds'[j]? = some d2->(k=true↔d1=d2)):=by
   intro j
   by_cases hj:j<us.length/\j<us'.length
   ·obtain⟨h1,h2⟩:=hj
    have l1:=rv.length;have l2:=rv'.length;have l3:=Ix r;have l4:=Ix r';have gx:xs[j]? = some xs[j]:=List.getElem?_eq_getElem (by omega);have gx':xs'[j]? = some xs'[j]:=List.getElem?_eq_getElem (by omega);obtain⟨u,eu,ru⟩:=rv.get gx;obtain⟨u',eu',ru'⟩:=rv'.get gx'
    have eu2:us[j]=u:=by rw[List.getElem?_eq_getElem h1]at eu;exact Iy eu
    have eu2':us'[j]=u':=by rw[List.getElem?_eq_getElem h2]at eu';exact Iy eu'
    have pget:∀ {m:Nat}{zs:List V}{es:List Dt}(j:Nat){z:V},Paired (RD X.K H m) zs es->zs[j]? = some z->∃ f,es[j]? = some f/\RD X.K H m z f:=by
     intro m zs
     induction zs with
     | nil=>intro es j z p hz;simp at hz
     | cons z0 zs ihz =>
      intro es j z p hz
      cases p with
      | cons p1 p2 =>
       cases j with
       | zero=>simp at hz;subst hz;exact⟨_,rfl,p1⟩
       | succ j=>obtain⟨f,e1,e2⟩:=ihz j p2 (by simpa using hz);exact⟨f,by simpa using e1,e2⟩
    obtain⟨f,ef,rf⟩:=pget j r gx;obtain⟨f',ef',rf'⟩:=pget j r' gx';obtain⟨k,hk,he⟩:=ih (A:=A.in1) (by show A.units+1+n<cLine+1;omega) rf rf' ru ru';refine⟨k,fun _ _=>by rw[eu2,eu2'];exact he,fun d1 d2 e1 e2=>?_⟩;rw[ef]at e1;rw[ef']at e2;cases e1;cases e2;exact hk
   ·refine⟨false,fun h1 h2=>absurd ⟨h1,h2⟩ hj,fun d1 d2 e1 e2=>?_⟩
    have l1:=rv.length;have l2:=rv'.length;have l3:=Ix r;have l4:=Ix r';have:=(List.getElem?_eq_some_iff.mp e1).1;have:=(List.getElem?_eq_some_iff.mp e2).1;exact absurd ⟨by omega,by omega⟩ hj
  exact⟨fun j=>Classical.choose (ex j),fun j h1 h2=>(Ke (ex j)).1 h1 h2,fun j=>(Ke (ex j)).2⟩
 have allEq:∀ (ks:Nat->Bool),(∀ j d1 d2,ds[j]? = some d1->ds'[j]? = some d2->(ks j=true↔d1=d2))->ds.length=ds'.length->((List.range ds.length).all ks=true↔ds=ds'):=by
  intro ks hk hl;rw[List.all_eq_true];constructor
  ·intro h
   apply List.ext_getElem hl
   intro j h1 h2;exact (hk j _ _ (List.getElem?_eq_getElem h1) (List.getElem?_eq_getElem h2)).mp (h j (Jt.mpr h1))
  ·rintro rfl j hj
   have h1:=Jt.mp hj;exact (hk j _ _ (List.getElem?_eq_getElem h1) (List.getElem?_eq_getElem h1)).mpr rfl
 have l3:=Ix r;have l4:=Ix r'
 cases t with
 | false =>
  have q:bF X.K H l xs:=by unfold pD at q;rwa [Ip Iw]at q
  obtain⟨us,rv,p1,_⟩:=I.list q;have l1:=rv.length
  cases t' with
  | true =>
   have q':c6 X.K H b xs':=by unfold pD at q';rwa [Iq rfl]at q'
   obtain⟨us',rv',p2,_⟩:=I.tuple q';exact⟨false,by simp,SeqAt.RcAt.list_tuple p1.isList p2 (by omega)⟩
  | false =>
   have q':bF X.K H b xs':=by unfold pD at q';rwa [Ip Iw]at q'
   obtain⟨us',rv',p2,_⟩:=I.list q';have l2:=rv'.length
   by_cases hl:us.length=us'.length
   ·obtain⟨ks,he,hk⟩:=pw rv rv'
    refine⟨(List.range us.toArray.size).all ks,?_,SeqAt.RcAt.lists p1.isList p2.isList (by simpa using hl) (by omega) fun j h1 h2=>by simpa using he j (by simpa using h1) (by simpa using h2)⟩;rw[IR,show us.length=ds.length by omega,allEq ks hk (by omega)];constructor
    ·rintro rfl;rfl
    ·intro h;injection h
   ·refine⟨false,?_,SeqAt.RcAt.lists_lengths p1.isList p2.isList (by simpa using hl) (by omega)⟩
    constructor
    ·intro h;cases h
    ·intro h
     injection h with _ h;exact absurd (by rw[<-l1,l3,h,<-l4,l2]) hl
 | true =>
  have q:c6 X.K H l xs:=by unfold pD at q;rwa [Iq rfl]at q
  obtain⟨us,rv,p1,_⟩:=I.tuple q;have l1:=rv.length
  cases t' with
  | false =>
   have q':bF X.K H b xs':=by unfold pD at q';rwa [Ip Iw]at q'
   obtain⟨us',rv',p2,_⟩:=I.list q';exact⟨false,by simp,SeqAt.RcAt.tuple_list p1 p2.isList (by omega)⟩
  | true =>
   have q':c6 X.K H b xs':=by unfold pD at q';rwa [Iq rfl]at q'
   obtain⟨us',rv',p2,_⟩:=I.tuple q';have l2:=rv'.length;obtain⟨ks,he,hk⟩:=pw rv rv';refine⟨_,?_,SeqAt.RcAt.tuples (e:=ks) (show s.heap.IsTuple l us.toArray from p1) (show s.heap.IsTuple b us'.toArray from p2) (by omega) fun j h1 h2=>by simpa using he j (by simpa using h1) (by simpa using h2)⟩
   by_cases hl:us.length=us'.length
   ·rw[IR,IR,<-hl,Nat.min_self,Kq,Bool.and_true,show us.length=ds.length by omega,allEq ks hk (by omega)]
    constructor
    ·rintro rfl;rfl
    ·intro h;injection h
   ·have:(us.toArray.size == us'.toArray.size)=false:=by simpa using hl
    rw[this,Bool.and_false];constructor
    ·intro h;cases h
    ·intro h
     injection h with _ h;exact absurd (by rw[<-l1,l3,h,<-l4,l2]) hl
theorem BY (I:au X pins σ H s):∀ (n:Nat){A:Around}{l b:Addr}{d e:Dt},A.units+n<cLine->RD X.K H (n+1) (.ref l) d->RD X.K H (n+1) (.ref b) e ->
  (∀ {A:Around}{y x:V}{u v:Value}{d e:Dt},A.units+n<cLine+1->RD X.K H n y d->RD X.K H n x e->aY y u->aY x v->∃ k:Bool,(k=true↔d=e)/\SeqAt.EqAt A s u v k) ->
  ∃ k:Bool,(k=true↔d=e)/\SeqAt.RcNeAt A s (.ref l) (.ref b) (!k):=by
 intro n A l b d e hu h1 h2 ih;rcases h1 with h1 | ⟨a,t,xs,ds,ea,rfl,q,r⟩
 ·cases h1.1
 cases ea;rcases h2 with h2 | ⟨a',t',xs',ds',ea,rfl,q',r'⟩
 ·cases h2.1
 cases ea
 have pw:∀ {us us':List Value},bh xs us->bh xs' us'->∃ ks:Nat->Bool,(∀ j (h1:j<us.length) (h2:j<us'.length),SeqAt.EqAt A.in1 s us[j] us'[j] (ks j)) /\
   (∀ j d1 d2,ds[j]? = some d1->ds'[j]? = some d2->(ks j=true↔d1=d2)):=by
  intro us us' rv rv'
  have ex:∀ j:Nat,∃ k:Bool,(∀ (h1:j<us.length)(h2:j<us'.length),SeqAt.EqAt A.in1 s us[j] us'[j] k)/\(∀ d1 d2,ds[j]? = some d1->ds'[j]? = some d2->(k=true↔d1=d2)):=by
   intro j
   by_cases hj:j<us.length/\j<us'.length
   ·obtain⟨h1,h2⟩:=hj
    have l1:=rv.length;have l2:=rv'.length;have l3:=Ix r;have l4:=Ix r';have gx:xs[j]? = some xs[j]:=List.getElem?_eq_getElem (by omega);have gx':xs'[j]? = some xs'[j]:=List.getElem?_eq_getElem (by omega);obtain⟨u,eu,ru⟩:=rv.get gx;obtain⟨u',eu',ru'⟩:=rv'.get gx'
    have eu2:us[j]=u:=by rw[List.getElem?_eq_getElem h1]at eu;exact Iy eu
    have eu2':us'[j]=u':=by rw[List.getElem?_eq_getElem h2]at eu';exact Iy eu'
    have pget:∀ {m:Nat}{zs:List V}{es:List Dt}(j:Nat){z:V},Paired (RD X.K H m) zs es->zs[j]? = some z->∃ f,es[j]? = some f/\RD X.K H m z f:=by
     intro m zs
     induction zs with
     | nil=>intro es j z p hz;simp at hz
     | cons z0 zs ihz =>
      intro es j z p hz
      cases p with
      | cons p1 p2 =>
       cases j with
       | zero=>simp at hz;subst hz;exact⟨_,rfl,p1⟩
       | succ j=>obtain⟨f,e1,e2⟩:=ihz j p2 (by simpa using hz);exact⟨f,by simpa using e1,e2⟩
    obtain⟨f,ef,rf⟩:=pget j r gx;obtain⟨f',ef',rf'⟩:=pget j r' gx';obtain⟨k,hk,he⟩:=ih (A:=A.in1) (by show A.units+1+n<cLine+1;omega) rf rf' ru ru';refine⟨k,fun _ _=>by rw[eu2,eu2'];exact he,fun d1 d2 e1 e2=>?_⟩;rw[ef]at e1;rw[ef']at e2;cases e1;cases e2;exact hk
   ·refine⟨false,fun h1 h2=>absurd ⟨h1,h2⟩ hj,fun d1 d2 e1 e2=>?_⟩
    have l1:=rv.length;have l2:=rv'.length;have l3:=Ix r;have l4:=Ix r';have:=(List.getElem?_eq_some_iff.mp e1).1;have:=(List.getElem?_eq_some_iff.mp e2).1;exact absurd ⟨by omega,by omega⟩ hj
  exact⟨fun j=>Classical.choose (ex j),fun j h1 h2=>(Ke (ex j)).1 h1 h2,fun j=>(Ke (ex j)).2⟩
 have allEq:∀ (ks:Nat->Bool),(∀ j d1 d2,ds[j]? = some d1->ds'[j]? = some d2->(ks j=true↔d1=d2))->ds.length=ds'.length->((List.range ds.length).all ks=true↔ds=ds'):=by
  intro ks hk hl;rw[List.all_eq_true];constructor
  ·intro h
   apply List.ext_getElem hl
   intro j h1 h2;exact (hk j _ _ (List.getElem?_eq_getElem h1) (List.getElem?_eq_getElem h2)).mp (h j (Jt.mpr h1))
  ·rintro rfl j hj
   have h1:=Jt.mp hj;exact (hk j _ _ (List.getElem?_eq_getElem h1) (List.getElem?_eq_getElem h1)).mpr rfl
 have l3:=Ix r;have l4:=Ix r'
 cases t with
 | false =>
  have q:bF X.K H l xs:=by unfold pD at q;rwa [Ip Iw]at q
  obtain⟨us,rv,p1,_⟩:=I.list q;have l1:=rv.length
  cases t' with
  | true =>
   have q':c6 X.K H b xs':=by unfold pD at q';rwa [Iq rfl]at q'
   obtain⟨us',rv',p2,_⟩:=I.tuple q';exact⟨false,by simp,SeqAt.RcNeAt.list_tuple p1.isList p2 (by omega)⟩
  | false =>
   have q':bF X.K H b xs':=by unfold pD at q';rwa [Ip Iw]at q'
   obtain⟨us',rv',p2,_⟩:=I.list q';have l2:=rv'.length
   by_cases hl:us.length=us'.length
   ·obtain⟨ks,he,hk⟩:=pw rv rv'
    refine⟨(List.range us.toArray.size).all ks,?_,SeqAt.RcNeAt.lists p1.isList p2.isList (by simpa using hl) (by omega) fun j h1 h2=>by simpa using he j (by simpa using h1) (by simpa using h2)⟩;rw[IR,show us.length=ds.length by omega,allEq ks hk (by omega)];constructor
    ·rintro rfl;rfl
    ·intro h;injection h
   ·refine⟨false,?_,SeqAt.RcNeAt.lists_lengths p1.isList p2.isList (by simpa using hl) (by omega)⟩
    constructor
    ·intro h;cases h
    ·intro h
     injection h with _ h;exact absurd (by rw[<-l1,l3,h,<-l4,l2]) hl
 | true =>
  have q:c6 X.K H l xs:=by unfold pD at q;rwa [Iq rfl]at q
  obtain⟨us,rv,p1,_⟩:=I.tuple q;have l1:=rv.length
  cases t' with
  | false =>
   have q':bF X.K H b xs':=by unfold pD at q';rwa [Ip Iw]at q'
   obtain⟨us',rv',p2,_⟩:=I.list q';exact⟨false,by simp,SeqAt.RcNeAt.tuple_list p1 p2.isList (by omega)⟩
  | true =>
   have q':c6 X.K H b xs':=by unfold pD at q';rwa [Iq rfl]at q'
   obtain⟨us',rv',p2,_⟩:=I.tuple q';have l2:=rv'.length;obtain⟨ks,he,hk⟩:=pw rv rv';refine⟨(List.range (min us.toArray.size us'.toArray.size)).all ks&&us.toArray.size == us'.toArray.size,?_,SeqAt.RcNeAt.tuples (e:=ks) (show s.heap.IsTuple l us.toArray from p1) (show s.heap.IsTuple b us'.toArray from p2) (by omega) fun j h1 h2=>by simpa using he j (by simpa using h1) (by simpa using h2)⟩
   by_cases hl:us.length=us'.length
   ·rw[IR,IR,<-hl,Nat.min_self,Kq,Bool.and_true,show us.length=ds.length by omega,allEq ks hk (by omega)]
    constructor
    ·rintro rfl;rfl
    ·intro h;injection h
   ·have:(us.toArray.size == us'.toArray.size)=false:=by simpa using hl
    rw[this,Bool.and_false];constructor
    ·intro h;cases h
    ·intro h
     injection h with _ h;exact absurd (by rw[<-l1,l3,h,<-l4,l2]) hl
theorem AZ (I:au X pins σ H s):∀ (n:Nat){A:Around}{y x:V}{u v:Value}{d e:Dt},A.units+n<cLine+1->RD X.K H n y d->RD X.K H n x e->aY y u->aY x v->∃ k:Bool,(k=true↔d=e)/\SeqAt.EqAt A s u v k:=by
 intro n
 have flatCase:∀ {A:Around}{y x:V}{u v:Value},iz y=true->iz x=true->aY y u->aY x v->∃ k:Bool,(k=true↔Dt.at y=Dt.at x)/\SeqAt.EqAt A s u v k:=by
  intro A y x u v fy fx ry rx;refine⟨GK y x,?_,Ew ry rx (qG fy) (qG fx)⟩;rw[CQ fy fx];constructor
  ·rintro rfl;rfl
  ·intro h;injection h
 induction n with
 | zero =>
  intro A y x u v d e hu h1 h2 ry rx;obtain⟨f1,rfl⟩:=h1;obtain⟨f2,rfl⟩:=h2;exact flatCase f1 f2 ry rx
 | succ n ih =>
  intro A y x u v d e hu h1 h2 ry rx;rcases id h1 with ⟨f1,rfl⟩ | ⟨a,t,xs,ds,rfl,rfl,q,r⟩
  ·rcases id h2 with ⟨f2,rfl⟩ | ⟨a',t',xs',ds',rfl,rfl,q',r'⟩
   ·exact flatCase f1 f2 ry rx
   ·cases rx
    refine⟨false,by simp,?_⟩
    cases t' with
    | false =>
     have q':bF X.K H a' xs':=by unfold pD at q';rwa [Ip Iw]at q'
     obtain⟨_,_,p,_⟩:=I.list q'
     cases y with
     | non=>cases ry;exact SeqAt.EqAt.none_list p.isList (by omega)
     | int _=>obtain⟨tk,rfl⟩:=ry;exact SeqAt.EqAt.int_list _ _ p.isList (by omega)
     | str _=>obtain⟨tk,rfl⟩:=ry;exact SeqAt.EqAt.str_list _ _ p.isList (by omega)
     | _=>cases f1
    | true =>
     have q':c6 X.K H a' xs':=by unfold pD at q';rwa [Iq rfl]at q'
     obtain⟨_,_,p,_⟩:=I.tuple q'
     cases y with
     | non=>cases ry;exact SeqAt.EqAt.none_tuple p (by omega)
     | int _=>obtain⟨tk,rfl⟩:=ry;exact SeqAt.EqAt.int_tuple _ _ p (by omega)
     | str _=>obtain⟨tk,rfl⟩:=ry;exact SeqAt.EqAt.str_tuple _ _ p (by omega)
     | _=>cases f1
  ·cases ry
   rcases id h2 with ⟨f2,rfl⟩ | ⟨a',t',xs',ds',rfl,rfl,q',r'⟩
   ·refine⟨false,by simp,?_⟩
    cases t with
    | false =>
     have q:bF X.K H a xs:=by unfold pD at q;rwa [Ip Iw]at q
     obtain⟨_,_,p,_⟩:=I.list q
     cases x with
     | non=>cases rx;exact SeqAt.EqAt.list_none p.isList (by omega)
     | int _=>obtain⟨tk,rfl⟩:=rx;exact SeqAt.EqAt.list_int _ _ p.isList (by omega)
     | str _=>obtain⟨tk,rfl⟩:=rx;exact SeqAt.EqAt.list_str _ _ p.isList (by omega)
     | _=>cases f2
    | true =>
     have q:c6 X.K H a xs:=by unfold pD at q;rwa [Iq rfl]at q
     obtain⟨_,_,p,_⟩:=I.tuple q
     cases x with
     | non=>cases rx;exact SeqAt.EqAt.tuple_none p (by omega)
     | int _=>obtain⟨tk,rfl⟩:=rx;exact SeqAt.EqAt.tuple_int _ _ p (by omega)
     | str _=>obtain⟨tk,rfl⟩:=rx;exact SeqAt.EqAt.tuple_str _ _ p (by omega)
     | _=>cases f2
   ·cases rx
    by_cases hab:a=a'
    ·subst hab
     exact⟨true,by rw[RD.inj I h1 h2];simp,SeqAt.EqAt.same _⟩
    ·obtain⟨k,hk,hr⟩:=BX I n (A:=A) (by omega) h1 h2 (fun hu'=>ih hu')
     exact⟨k,hk,.of_refs hab hr⟩
end
inductive Hy (K:PySem.W.Frag) (n:Nat) (neg:Bool) (x y:V) (H:Hp) (Q:VK):Prop
 | mk (a b:Addr) (d e:Dt) (e1:x=.ref a) (e2:y=.ref b) (r1:RD K H (n+1) x d) (r2:RD K H (n+1) y e) (h:∀ k:Bool,(k=true↔d=e)->Q (.bl (if neg then !k else k)) H):Hy K n neg x y H Q
def Fe (K:PySem.W.Frag)(n:Nat)(neg:Bool):R2:=fun x y H Q=>Hy K n neg x y H Q
section
variable {X:Cx}
theorem lz (n:Nat)(hu:X.A.units+n<cLine):qr X (compareOp .Eq) (Fe X.K n false):=by
 intro pins s σ H x y v u Q I rx ry h;obtain⟨a,b,d,e,rfl,rfl,h1,h2,q⟩:=h;cases rx;cases ry;obtain⟨k,hk,hr⟩:=BX I n (A:=X.A) hu h1 h2 (fun hu'=>AZ I n hu');exact hr _ _ _ _ ⟨.bl k,H,I,rfl,q k hk⟩
theorem rn (n:Nat)(hu:X.A.units+n<cLine):qr X (compareOp .NotEq) (Fe X.K n true):=by
 intro pins s σ H x y v u Q I rx ry h;obtain⟨a,b,d,e,rfl,rfl,h1,h2,q⟩:=h;cases rx;cases ry;obtain⟨k,hk,hr⟩:=BY I n (A:=X.A) hu h1 h2 (fun hu'=>AZ I n hu');exact hr _ _ _ _ ⟨.bl (!k),H,I,rfl,q k hk⟩
end
open PySem PySem.Spec PyProof.Rows PySem.Calls
section
variable {prog:Program}{w:World}{A:Around}{E:Value->Shared->Prop}{s:Shared}{r d:Addr}{items:Array Value}
end
end L2
namespace Wz
open PySem L2
def dw (c:Int):Int:=if c<0 then -c else c
def cY (ns:List Int)(k:Int):Int:=if k<(ns.length:Int) then ns.getD k.toNat 0 else 0
def gM (k c:Int):Int :=
 let left:=dw c
 let number:=(k*(1+left*1234567891%2147483646)+left/2147483646)%2147483647
 if left%5=4 then number+997852516353 else number
def dk (l:List (Int×Int)):List (bV×V):=l.map fun p=>(Sum.inl p.1,V.int p.2)
def look:List (Int×Int)->Int->Option Int
 | [],_=>none
 | p::r,g=>if p.1=g then some p.2 else look r g
def put (l:List (Int×Int))(g m:Int):List (Int×Int):=if (l.any fun p=>decide (p.1=g))=true then l.map (fun p=>if p.1=g then (p.1,m) else p) else l++[(g,m)]
def wr (l:List (Int×Int))(g:Int):Int:=(look l g).getD g
def ay (l:List (Int×Int)):List Int:=l.map (·.1)
def bX (l:List (Int×Int)):List Int:=(b7 (ay l)).filter fun g=>decide (wr l g≠g)
def xR (l:List (Int×Int)):List (Int×Int):=(bX l).map fun g=>(g,wr l g)
theorem dH:∀ (l:List (Int×Int))(g:Int),dN (dk l) (Sum.inl g:bV)=(look l g).map V.int
 | [],_=>rfl
 | p::r,g=>by
  by_cases h:p.1=g
  ·have e:dN (dk (p::r)) (Sum.inl g:bV)=some (V.int p.2):=jW (p:=(Sum.inl p.1,V.int p.2)) (r:=dk r) (by rw[h])
   rw[e];simp[look,h]
  ·have e:dN (dk (p::r)) (Sum.inl g:bV)=dN (dk r) (Sum.inl g):=iK (p:=(Sum.inl p.1,V.int p.2)) (r:=dk r) (fun z=>h (Sum.inl.inj z))
   rw[e,dH r g];simp[look,h]
theorem Er (l:List (Int×Int))(g:Int):((dk l).any fun kv=>decide (kv.1=(Sum.inl g:bV)))=l.any fun p=>decide (p.1=g):=by
 unfold dk;rw[List.any_map]
 congr 1
 funext p
 simp[Function.comp]
theorem mQ (l:List (Int×Int))(g m:Int):fq (dk l) (Sum.inl g:bV) (V.int m)=dk (put l g m):=by
 unfold fq put;rw[Er]
 by_cases h:(l.any fun p=>decide (p.1=g))=true
 ·rw[Iq h,Iq h]
  unfold dk;rw[Jx,Jx]
  apply Ks
  intro p _;simp only[Function.comp]
  by_cases e:p.1=g
  ·rw[Iq (by rw[e]),Iq e]
  ·rw[Ip (fun z=>e (Sum.inl.inj z)),Ip e]
 ·rw[Ip h,Ip h]
  unfold dk;simp
theorem qN (l:List (Int×Int))(g:Int):(l.any fun p=>decide (p.1=g))=(look l g).isSome:=by
 induction l with
 | nil=>rfl
 | cons p r ih =>
  rw[Ky,ih]
  show _=(if p.1=g then some p.2 else look r g).isSome
  by_cases h:p.1=g<;>simp[h]
theorem cE {l:List (Int×Int)}{g:Int}:(look l g).isSome=true↔g∈ay l:=by
 rw[<-qN,List.any_eq_true];unfold ay;simp
theorem Bm (l:List (Int×Int))(g m h:Int):look (l.map (fun p=>if p.1=g then (p.1,m) else p)) h=if h=g then (look l g).map (fun _=>m) else look l h:=by
 induction l with
 | nil=>simp[look]
 | cons p r ih =>
  rw[IT]
  by_cases hp:p.1=g
  ·rw[Iq hp]
   show (if p.1=h then some m else look _ h)=_
   rw[ih]
   by_cases hh:h=g
   ·subst hh;simp[hp,look]
   ·have:¬ p.1=h:=fun z=>hh (z.symm.trans hp)
    simp[hh,this,look]
  ·rw[Ip hp]
   show (if p.1=h then some p.2 else look _ h)=_
   rw[ih]
   by_cases hh:h=g
   ·subst hh;simp[hp,look]
   ·simp[hh,look]
theorem vO (l r:List (Int×Int))(h:Int):look (l++r) h=(look l h).orElse fun _=>look r h:=by
 induction l with
 | nil=>rfl
 | cons p l ih =>
  show (if p.1=h then some p.2 else look (l++r) h)=_
  rw[ih]
  by_cases e:p.1=h<;>simp[look,e]
theorem bR (l:List (Int×Int))(g m h:Int):look (put l g m) h=if h=g then some m else look l h:=by
 unfold put;rw[qN]
 by_cases e:(look l g).isSome=true
 ·rw[Iq e,Bm]
  obtain⟨v,hv⟩:=Jm.mp e
  by_cases hh:h=g
  ·simp[hh,hv]
  ·simp[hh]
 ·rw[Ip e,vO]
  have hn:look l g=none:=by simpa using e
  by_cases hh:h=g
  ·subst hh;simp[hn,look]
  ·have:¬ g=h:=fun z=>hh z.symm
   simp[hh,look,this]
theorem vM (l:List (Int×Int))(g m:Int):ay (put l g m)=if g∈ay l then ay l else ay l++[g]:=by
 unfold put;rw[qN]
 by_cases e:(look l g).isSome=true
 ·rw[Iq e,Iq (cE.mp e)]
  unfold ay;rw[Jx]
  apply Ks
  intro p _;simp only[Function.comp];split<;>rfl
 ·rw[Ip e,Ip (fun z=>e (cE.mpr z))]
  simp[ay]
theorem uC (l:List (Int×Int))(g m:Int):(put l g m).length<=l.length+1:=by
 unfold put;split<;>simp
theorem dB:∀ {l m:List Int},l.Nodup->(∀ x∈l,x∈m)->l.length<=m.length
 | [],_,_,_=>IX _
 | a::r,m,h,hs=>by
  obtain⟨h1,h2⟩:=I0.mp h;have ha:a∈m:=hs a IJ;have hl:(m.erase a).length=m.length-1:=List.length_erase_of_mem ha;have hpos:0<m.length:=List.length_pos_of_mem ha;have ih:=dB (l:=r) (m:=m.erase a) h2 fun x hx=>(List.mem_erase_of_ne (show x≠a from fun e=>h1 (by rw[<-e];exact hx))).mpr (hs x (Iz _ hx));rw[Jc];omega
theorem oq {l:List Int}{x:Int}:x∈b7 l↔x∈l:=(Kr l _).mem_iff
theorem tM (l:List Int):(b7 l).length=l.length:=(Kr l _).length_eq
theorem xM (l:List (Int×Int)):(dk l).length=l.length:=by unfold dk;simp
def aG (P:Program)(w:World)(K:PySem.W.Frag)(mg:Str->Option Value)(base:Heap)(x:Str)(k:Nat)(ps:List Str)(sp:Sp):Prop :=
 ∃ (f:Addr)(fd:FuncData),bd P w K mg base c7 k f fd ps sp/\mg x=some (.ref f)/\PySem.W.keepIn K (.ref f)=true/\eU K fd ps []
theorem bJ {X:Cx}{x:Str}{k:Nat}{ps:List Str}{sp:Sp}{e:Expr}{es:List Expr}{t:TA}{p pos:Pos}(C:aG X.prog X.w X.K X.mg X.base x k ps sp)(hr:cu k X.A)(hg:Gl X x)(ha:PA X (e::es) t)
  (hdb:(x == ("__debug__" : Str))=false:=by decide) (he:starEach (e::es) X.env=(false,eval e X.env)::starEach es X.env:=by rfl) (hpl:(backTo pos (starEach es X.env)).any (·.1)=false:=by rfl) :
  PE X (.Call (.Name x p) (e::es) [] pos) (Cg sp [] E0 t):=by
 obtain⟨f,fd,G,hm,hk,hb⟩:=C;exact y3 G hr hg hm hk hb .nil dQ ha hdb he hpl
def aT (H:Hp)(l:Addr)(ps:List (Int×Int)):Prop:=∃ as:List Addr,H l=some (.lst (as.map V.ref))/\Paired (fun a (p:Int×Int)=>H a=some (.tup [.int p.1,.int p.2])) as ps
theorem aT.mono {H H':Hp}{l:Addr}{ps:List (Int×Int)}(r:aT H l ps)(s:aA H H'):aT H' l ps:=by
 obtain⟨as,h,p⟩:=r;exact⟨as,s _ _ h,Paired.mapP p fun a q z=>s _ _ z⟩
theorem ai {H:Hp}{l:Addr}{o:HO}(h:H l=none):aA H (upd H l o):=fun b u e=>by rw[ag (ak e h)];exact e
theorem cF {H H':Hp}{l:Addr}{o:HO}(s:aA H H')(h:H l=none):aA H (upd H' l o):=fun b u e=>by rw[ag (ak e h)];exact s b u e
theorem paired_get {α β:Type}{F:α->β->Prop}:∀ {l:List α}{m:List β}{i:Nat}{a:α},Paired F l m->l[i]? = some a->∃ b,m[i]? = some b/\F a b
 | _,_,_,_,.nil,h=>by simp at h
 | _,_,0,_,.cons r _,h=>by simp at h;subst h;exact⟨_,rfl,r⟩
 | _,_,i+1,a,.cons _ t,h=>by
  obtain⟨b,e1,e2⟩:=paired_get (i:=i) (a:=a) t (by simpa using h);exact⟨b,by simpa using e1,e2⟩
theorem bC {α β:Type}{F:α->β->Prop}:∀ {l l':List α}{m m':List β},Paired F l m->Paired F l' m'->Paired F (l++l') (m++m')
 | _,_,_,_,.nil,s=>s
 | _,_,_,_,.cons r t,s=>.cons r (bC t s)
theorem bT {α β:Type}{f:α->β}{l:List α}{i:Nat}{y:β}(h:(l.map f)[i]? = some y):∃ x,l[i]? = some x/\y=f x:=by
 rw[List.getElem?_map]at h
 cases e:l[i]? with
 | none=>rw[e]at h;cases h
 | some x=>rw[e]at h;exact⟨x,rfl,(Iy h).symm⟩
theorem AA {α:Type}{l:List α}{i:Nat}{x:α}(h:l[i]? = some x):l.take (i+1)=l.take i++[x]:=by
 rw[IZ,h];rfl
theorem qf {te:TE}{a:Addr}{D:hG}{σ:St}{H:Hp}(h:te σ H fun y H2=>∃ ys,H2 a=some (.lst ys)/\ys.length<sizeLine/\D.nx σ (upd H2 a (.lst (ys++[y])))):CB ve te a D σ H:=by
 unfold CB ve;dsimp only;rw[Iq rfl];exact h
theorem Cm {tt:TT}{te:TE}{a:Addr}{D:hG}{σ:St}{H:Hp}(h:tt σ H fun b H1=>if b=true then te σ H1 fun y H2=>∃ ys,H2 a=some (.lst ys)/\ys.length<sizeLine/\D.nx σ (upd H2 a (.lst (ys++[y]))) else D.nx σ H1):CB tt te a D σ H:=h
inductive rM (K:PySem.W.Frag) (vs:List V) (H:Hp) (Q:VK) (E_:XK):Prop
 | mk (a:Addr) (ns:List Int) (k:Int) (h_0:vs=[.ref a,.int k]) (h_1:bF K H a (ns.map V.int)) (h_2:0<=k) (h_3:Q (.int (cY ns k)) H):rM K vs H Q E_
inductive oM (vs:List V) (H:Hp) (Q:VK) (E_:XK):Prop
 | mk (c:Int) (h_0:vs=[.int c]) (h_1:Q (.int (dw c)) H):oM vs H Q E_
inductive qd (vs:List V) (H:Hp) (Q:VK) (E_:XK):Prop
 | mk (c m b:Int) (h_0:vs=[.int c,.int m,.int b]) (h_1:(0<=m/\m<=1000)) (h_2:(0<b/\b<1073741824)) (h_3:∀ (l:Addr)(ds:List Int),H l=none->(∀ d∈ds,0<=d/\d<b)->(ds.length:Int)<=m->Q (.ref l) (upd H l (.lst (ds.map V.int)))):qd vs H Q E_
inductive rN (K:PySem.W.Frag) (vs:List V) (H:Hp) (Q:VK) (E_:XK):Prop
 | mk (a:Addr) (ns:List Int) (st m b:Int) (h_0:vs=[.ref a,.int st,.int m,.int b]) (h_1:bF K H a (ns.map V.int)) (h_2:(0<=st/\st<=63)) (h_3:(0<=m/\m<=1000)) (h_4:(0<b/\b<1073741824)) (h_5:∀ (l:Addr)(H':Hp)(ds:List Int),H l=none->aA H H'->H' l=some (.lst (ds.map V.int))->(∀ d∈ds,0<=d/\d<b)->(ds.length:Int)<=m->Q (.ref l) H'):rN K vs H Q E_
inductive jb (vs:List V) (H:Hp) (Q:VK) (E_:XK):Prop
 | mk (k c:Int) (h_0:vs=[.int k,.int c]) (h_1:(0<=k/\k<=1000000)) (h_2:Q (.int (gM k c)) H):jb vs H Q E_
def y2 (p:Int×Int):Dt:=.sq true [.at (.int p.1),.at (.int p.2)]
def Av (ps:List (Int×Int)):Dt:=.sq false (ps.map y2)
theorem jO {K:PySem.W.Frag}{H:Hp}{l:Addr}{ps:List (Int×Int)}(r:aT H l ps):RD K H 2 (.ref l) (Av ps):=by
 obtain⟨as,h,p⟩:=r;refine RD.lst (bF.of h) ?_;clear h
 induction p with
 | nil=>exact .nil
 | cons h _ ih=>exact .cons (RD.tup (c6.of h) (.cons (RD.flat rfl 0) (.cons (RD.flat rfl 0) .nil))) ih
theorem Ak {p q:Int×Int}(h:y2 p=y2 q):p=q:=by
 unfold y2 at h;injection h with _ h;injection h with h1 h2;injection h2 with h2 _;injection h1 with h1;injection h2 with h2;injection h1 with h1;injection h2 with h2;exact Prod.ext h1 h2
theorem B8:∀ {ps qs:List (Int×Int)},Av ps=Av qs->ps=qs:=by
 intro ps qs h;unfold Av at h;injection h with _ h;revert qs
 induction ps with
 | nil=>intro qs h;cases qs with | nil=>rfl | cons _ _=>cases h
 | cons p ps ih =>
  intro qs h
  cases qs with
  | nil=>cases h
  | cons q qs =>
   rw[IT,IT]at h;injection h with h1 h2;rw[Ak h1,ih h2]
theorem B6 {ps qs:List (Int×Int)}:Av ps=Av qs↔ps=qs:=⟨B8,fun h=>by rw[h]⟩
def Gd (ns:List Int):Dt:=.sq false (ns.map fun n=>.at (.int n))
theorem Bu {σ:St}{H:Hp}{Q:Option Int->Hp->Prop}(h:Q none H):zm σ H Q:=h
theorem CL {c:Bool}{P B R:Prop}(r:R)(f:R->c=true->P):if c=true then P else (if false=true then B else R):=by
 cases c with
 | true=>rw[Iq rfl];exact f r rfl
 | false=>rw[Ip Iw,Ip Iw];exact r
inductive vb (vs:List V) (H:Hp) (Q:VK) (E_:XK):Prop
 | mk (x y:Bool) (h_0:vs=[.bl x,.bl y]) (h_1:Q (.bl (decide (V.bl x=V.bl y))) H):vb vs H Q E_
theorem z8 (w:List (Int×Int)):(xR w).length<=w.length:=by
 unfold xR bX;rw[Ir];refine Jb (JU _ _) ?_;rw[tM];unfold ay;rw[Ir];exact Iv _
theorem tY (w:List (Int×Int)):(bX w).length<=w.length:=by have:=z8 w;unfold xR at this;rwa [Ir]at this
end Wz
namespace L2
open PySem PySem.Spec PyProof.Rows
def DU (g B:Heap)(e:Addr)(c:Value)(od:Option Addr)(fl:Value):Prop :=
 ∃ oe us T oT ts,g.get? e=some oe/\(oe.cls=c/\oe.dict=od)/\oe.data=.fields us/\us[1]? = some (.ref T)/\B.get? T=none/\T≠e/\g.get? T=some oT/\oT.data=.fields ts/\ts[3]? = some fl
def lS (B:Heap)(l:List Env)(e:Addr)(c:Value)(od:Option Addr)(g:Heap):Prop:=B.StaysIn g/\B.get? e=none/\g.FunFrames B l/\DU g B e c od .none
def DR (B:Heap)(l:List Env)(e:Addr)(c:Value)(od:Option Addr)(L:Addr)(g:Heap):Prop:=B.StaysIn g/\B.get? e=none/\g.FunFrames B l/\DU g B e c od (rawInt L)
theorem CO (f:Array Value->Array Value)(o:Obj):(Obj.mapFields f o).dict=o.dict:=by
 unfold Obj.mapFields;split<;>rfl
theorem lS.obj {B g:Heap}{l:List Env}{e:Addr}{c:Value}{od:Option Addr}(x:lS B l e c od g):∃ ob us,g.get? e=some ob/\ob.cls=c/\ob.dict=od/\ob.data=.fields us:=by
 obtain⟨_,_,_,oe,us,_,_,_,he,hc,hd,_⟩:=x;exact⟨oe,us,he,hc.1,hc.2,hd⟩
section
variable {M:Model}{A:Around}{E:Value->Shared->Prop}{s:Shared}{B:Heap}{env:Env}{outer:List Env}{L e:Addr}{od:Option Addr}{c:Value}
def GI (g g':Heap):Prop:=∀ b o,g.get? b=some o->(∀ us,o.data≠.fields us)->∃ sl,g'.get? b=some { o with slots:=sl }
theorem AY {oe:Obj}{us:Array Value}{head:Value}{hn:Bool}{Q:Unit->Shared->Prop}(fr:A.frames=some (env::outer))(hl:s.heap.FunFrames B (env::outer))(hf:env.frame=some L)
  (he:s.heap.get? e=some oe) (hk:B.StaysIn s.heap) (hb:B.get? e=none) (hd:oe.data=.fields us) (h1:1<us.size)
  (h:∀ g,B.StaysIn g->g.FunFrames B (env::outer)->DU g B e oe.cls oe.dict (rawInt L)->GI s.heap g->Q () { s with heap:=g }) :
  wpAny M A (do let a <-frameOf env;let pl <-entryPlaceOf L hn;let b <-EntryCells.newEntry head a .none (rawInt L) .none pl;setField (.ref e) 1 b) Q E s:=by
 have hne:e∉(env::outer).filterMap (·.frame):=fun z=>by
  obtain⟨_,o,ho,nf⟩:=hl.mem z;rw[he]at ho;cases ho;exact nf us hd
 refine Io (wpAny_frameOf_fun fr hl hf fun g1 sl1=>Io (wpAny_entryPlaceOf fun pl hpl=>?_));unfold EntryCells.newEntry newFields;refine Io (Jq ?_ (hpl.sizeOk5 _ _ _ _ _));have e1:g1.get? e=some oe:=(sl1.2.1 e hne).trans he;have k1:B.StaysIn g1:=fun b o q=>(sl1.2.1 b fun z=>by rw[(hl.mem z).1]at q;cases q).trans (hk b o q);generalize hob:({ cls:=.type "traceback",dict:=none,data:=.fields ([head,.ref L,.none,rawInt L,.none]++(if pl.isEmpty then List.replicate 6 Value.none else pl)).toArray }:Obj)=ob
 have obd:ob.data=.fields ([head,.ref L,.none,rawInt L,.none]++(if pl.isEmpty then List.replicate 6 Value.none else pl)).toArray:=by rw[<-hob]
 have e2:=Heap.get?_push_of_some (h:=g1) ob e1;refine KQ e2 hd h1 ?_;have ne:g1.objs.size≠e:=Nat.ne_of_gt (IA e1);have d3:=KD hd (·.setIfInBounds 1 (Value.ref g1.objs.size));have e3:=Heap.get?_update_self (Obj.mapFields (·.setIfInBounds 1 (Value.ref g1.objs.size))) e2 (Obj.isFreed_of_fields d3)
 have keep:∀ b o,b≠e->g1.get? b=some o->((g1.push ob).update e (Obj.mapFields (·.setIfInBounds 1 (Value.ref g1.objs.size)))).get? b=some o:=fun b o n q=>by
  rw[Heap.get?_update_other _ _ (IN n)];exact Heap.get?_push_of_some _ q
 have nr:∀ b o,s.heap.get? b=some o->(∀ vs,o.data≠.fields vs)->b≠e:=fun b o q nf z=>by
  rw[z,he]at q;cases q;exact nf us hd
 refine h _ (fun b o q=>keep b o (fun z=>by rw[z,hb]at q;cases q) (k1 b o q)) (hl.of_keeps fun b o q nf=>?_) ?_ fun b o q nf=>?_
 ·obtain⟨sl,z⟩:=sl1.2.2 b o q
  exact⟨_,keep b _ (nr b o q nf) z,rfl⟩
 ·refine⟨_,_,g1.objs.size,ob,_,e3,⟨Obj.cls_mapFields _ _,CO _ _⟩,d3,by simp[h1],k1.fresh,ne,?_,obd,by first | (simp;done) | (rcases hpl with rfl | ⟨_,_,_,_,_,_,_,rfl⟩<;>simp)⟩
  rw[Heap.get?_update_other _ _ (IN ne)];exact Heap.get?_push_size g1 (by rw[<-hob];rfl)
 ·obtain⟨sl,z⟩:=sl1.2.2 b o q
  exact⟨sl,keep b _ (nr b o q nf) z⟩
theorem wg {oe:Obj}{us:Array Value}{Q:Unit->Shared->Prop}(fr:A.frames=some (env::outer))(hl:s.heap.FunFrames B (env::outer))(hf:env.frame=some L)
  (he:s.heap.get? e=some oe) (hk:B.StaysIn s.heap) (hb:B.get? e=none) (hd:oe.data=.fields us) (h1:us[1]? = some .none)
  (h:∀ g,B.StaysIn g->g.FunFrames B (env::outer)->DU g B e oe.cls oe.dict (rawInt L)->GI s.heap g->Q () { s with heap:=g }):wpAny M A (noteFrame (.ref e) env) Q E s:=by
 unfold noteFrame;simp only[hf];refine Io (KI he hd h1 ?_);rw[Ip (by decide)];exact AY fr hl hf he hk hb hd (Array.getElem?_eq_some_iff.mp h1).1 h
theorem qW {Q:Unit->Shared->Prop}(fr:A.frames=some (env::outer))(hl:s.heap.FunFrames B (env::outer))(hf:env.frame=some L)(ht:DU s.heap B e c od .none)(hk:B.StaysIn s.heap)(hb:B.get? e=none)
  (h:∀ g,B.StaysIn g->g.FunFrames B (env::outer)->DU g B e c od (rawInt L)->GI s.heap g->Q () { s with heap:=g }):wpAny M A (noteFrame (.ref e) env) Q E s:=by
 obtain⟨oe,us,T,oT,ts,he,⟨rfl,rfl⟩,hd,h1,nT,ne,hT,dT,h3⟩:=ht;unfold noteFrame;simp only[hf];refine Io (KI he hd h1 ?_);rw[Iq (show (Value.ref T != Value.none)=true by simp)];refine Io (KI hT dT h3 ?_);rw[Ip (show ¬((Value.none == rawInt L)=true) by simp[rawInt])];refine Io (KQ hT dT (Array.getElem?_eq_some_iff.mp h3).1 ?_);have ot:∀ b,b≠T->(s.heap.update T (Obj.mapFields (·.setIfInBounds 3 Value.none))).get? b=s.heap.get? b:=fun b z=>Heap.get?_update_other _ _ (IN z)
 have nr:∀ b o,s.heap.get? b=some o->(∀ vs,o.data≠.fields vs)->b≠T:=fun b o q nf z=>by
  rw[z,hT]at q;cases q;exact nf ts dT
 refine AY fr (hl.of_keeps fun b o q nf=>⟨o,(ot b (nr b o q nf)).trans q,rfl⟩) hf ((ot e (IN ne)).trans he) (fun b o q=>(ot b fun z=>by rw[z,nT]at q;cases q).trans (hk b o q)) hb hd (Array.getElem?_eq_some_iff.mp h1).1 fun g a1 a2 a3 a4=>h g a1 a2 a3 fun b o q nf=>?_;exact a4 b o ((ot b (nr b o q nf)).trans q) nf
theorem pW {l:List Env}{fl:Value}{Q:Unit->Shared->Prop}(hk:B.StaysIn s.heap)(hl:s.heap.FunFrames B l)(ht:DU s.heap B e c od fl)
  (h:∀ g,B.StaysIn g->g.FunFrames B l->DU g B e c od .none->s.heap.UpToSlots g->Q () { s with heap:=g }):wpAny M A (setFlight (.ref e) none) Q E s:=by
 obtain⟨oe,us,T,oT,ts,he,hc,hd,h1,nT,ne,hT,dT,h3⟩:=ht;have z3:3<ts.size:=(Array.getElem?_eq_some_iff.mp h3).1;have ot:∀ b,b≠T->(s.heap.update T (Obj.mapFields (·.setIfInBounds 3 ((none:Option Addr).elim Value.none fun f=>rawInt f)))).get? b=s.heap.get? b:=fun b z=>Heap.get?_update_other _ _ (IN z)
 have nr:∀ b o,s.heap.get? b=some o->(∀ vs,o.data≠.fields vs)->b≠T:=fun b o q nf z=>by
  rw[z,hT]at q;cases q;exact nf ts dT
 unfold setFlight;refine Io (KI he hd h1 ?_);rw[Iq (show (Value.ref T != Value.none)=true by simp)];refine KQ hT dT z3 (h _ (fun b o q=>(ot b fun z=>by rw[z,nT]at q;cases q).trans (hk b o q)) (hl.of_keeps fun b o q nf=>⟨o,(ot b (nr b o q nf)).trans q,rfl⟩) ?_ fun b o q nf=>⟨o.slots,(ot b (nr b o q nf)).trans q⟩);exact⟨oe,us,T,_,_,(ot e (IN ne)).trans he,hc,hd,h1,nT,ne,Heap.get?_update_self _ hT (Obj.isFreed_of_fields (KD dT _)),KD dT _,by simp[z3]⟩
theorem BZ {g g' g'':Heap}(a:GI g g')(b:g'.UpToSlots g''):g.UpToSlots g'':=fun x o q nf=>by
 obtain⟨sl,z⟩:=a x o q nf;obtain⟨sl2,z2⟩:=b x _ z nf;exact⟨sl2,z2⟩
theorem uA {oe:Obj}{us:Array Value}{Q:Unit->Shared->Prop}(fr:A.frames=some (env::outer))(hf:env.frame=some L)(hk:B.StaysIn s.heap)(hl:s.heap.FunFrames B (env::outer))
  (he:s.heap.get? e=some oe) (hb:B.get? e=none) (hd:oe.data=.fields us) (h1:us[1]? = some .none)
  (hq:∀ g,lS B outer e oe.cls oe.dict g->s.heap.UpToSlots g->Q () { s with heap:=g }):wpAny M A (leaving env (.ref e)) Q E s:=by
 unfold leaving;refine Io (wg fr hl hf he hk hb hd h1 fun g a1 a2 a3 a4=>?_);exact pW (s:={ s with heap:=g }) a1 a2 a3 fun g2 b1 b2 b3 b4=>hq g2 ⟨b1,hb,b2.2.2,b3⟩ (BZ a4 b4)
theorem xL {Q:Unit->Shared->Prop}(fr:A.frames=some (env::outer))(hf:env.frame=some L)(fl:lS B (env::outer) e c od s.heap)
  (hq:∀ g,lS B outer e c od g->s.heap.UpToSlots g->Q () { s with heap:=g }):wpAny M A (leaving env (.ref e)) Q E s:=by
 obtain⟨f1,f2,f3,f4⟩:=fl;unfold leaving;refine Io (qW fr f3 hf f4 f1 f2 fun g a1 a2 a3 a4=>?_);exact pW (s:={ s with heap:=g }) a1 a2 a3 fun g2 b1 b2 b3 b4=>hq g2 ⟨b1,f2,b2.2.2,b3⟩ (BZ a4 b4)
theorem tQ {Q:Unit->Shared->Prop}(fr:A.frames=some (env::outer))(hf:env.frame=some L)(fl:lS B (env::outer) e c od s.heap)
  (hq:∀ g,DR B (env::outer) e c od L g->s.heap.UpToSlots g->Q () { s with heap:=g }):wpAny M A (noteFrame (.ref e) env) Q E s:=by
 obtain⟨f1,f2,f3,f4⟩:=fl;exact qW fr f3 hf f4 f1 f2 fun g a1 a2 a3 a4=>hq g ⟨a1,f2,a2,a3⟩ a4
theorem Bk {l:List Env}{Q:Unit->Shared->Prop}(hh:DR B l e c od L s.heap)(hq:∀ g,lS B l e c od g->s.heap.UpToSlots g->Q () { s with heap:=g }):wpAny M A (setFlight (.ref e) none) Q E s:=by
 obtain⟨f1,f2,f3,f4⟩:=hh;exact pW f1 f3 f4 fun g a1 a2 a3 a4=>hq g ⟨a1,f2,a2,a3⟩ a4
theorem mw {l:List Env}{Q:Unit->Shared->Prop}(hh:lS B l e c od s.heap)(hq:∀ g,lS B l e c od g->s.heap.UpToSlots g->Q () { s with heap:=g }):wpAny M A (setFlight (.ref e) none) Q E s:=by
 obtain⟨f1,f2,f3,f4⟩:=hh;exact pW f1 f3 f4 fun g a1 a2 a3 a4=>hq g ⟨a1,f2,a2,a3⟩ a4
end
abbrev xc:List Value:=[.type "ValueError",.type "Exception",.type "BaseException",.type "object"]
def exOb (C t:Addr)(od:Option Addr):Obj:={ cls:=.ref C,dict:=od,data:=.fields #[.ref t,.none,.none,.none,.bool false,.none] }
def iD:List Value->Bool
 | .ref _::r=>iD r
 | l=>l == xc
theorem pj (self:Value):∀ {l:List Value},iD l=true->refuseLoop self "__setattr__" l=pure ()
 | .ref c::r,e=>by rw[refuseLoop_ref];exact pj self (l:=r) e
 | [],e=>by cases e
 | .type a::r,e=>by rw[show (.type a::r:List Value)=xc from JS.mp e];exact PySem.F.store_ValueError.passes self
 | .none::_,e=>by simp[iD,xc]at e
 | .bool _::_,e=>by simp[iD,xc]at e
 | .int _ _::_,e=>by simp[iD,xc]at e
 | .str _ _::_,e=>by simp[iD,xc]at e
 | .bytes _ _::_,e=>by simp[iD,xc]at e
 | .float _ _::_,e=>by simp[iD,xc]at e
 | .builtin _::_,e=>by simp[iD,xc]at e
 | .ellipsis::_,e=>by simp[iD,xc]at e
 | .notImplemented::_,e=>by simp[iD,xc]at e
def li (K:PySem.W.Frag)(C fI:Addr):Bool:=match K.lookup C with
 | some ⟨.type "type",_,.cls cd,sl⟩=>(match cd.mro,sl.toList with
  | .ref D::bm,[_,_,_,_,some (.builtin n),_]=>D == C&&n == "ValueError.__new__"&&!cd.hasDel&&PySem.W.tailIn K xc bm&&PySem.W.nsOkIn K cd.ns&&PySem.W.nsIn K cd.ns "__init__" == some (some (.ref fI))
  | _,_=>false)
 | _=>false
theorem xY {K:PySem.W.Frag}{h:Heap}{N:Addr}{mg:Str->Option Value}{n:Str}{v:Value}(X:K.In h)(G:h.Ns N mg)(e:PySem.W.nsIn K N n=some (some v)):mg n=some v:=by
 obtain⟨o,es,ep,ho,hd,hk,hf⟩:=G;unfold PySem.W.nsIn at e;split at e
 ·rename_i oc od es2 n2 sl hl
  have:=X _ _ hl;rw[ho]at this;cases this;cases hd;split at e
  ·rename_i en he
   cases e;rw[<-hf n];unfold nsFind findBy;rw[<-Array.find?_toList,he];rfl
  ·split at e<;>cases e
 ·cases e
theorem vG {K:PySem.W.Frag}{h:Heap}{C fI:Addr}(X:K.In h)(q:li K C fI=true) :
  ∃ bm N nm qn bs hdct sn sub ab col dd k0 k1 k2 k3 k5 mN,h.get? C=some (excClassObj nm qn C N bs bm hdct sn sub ab col dd k0 k1 k2 k3 k5 "ValueError.__new__")/\h.Ns N mN/\mN "__init__" = some (.ref fI)/\OwnTail h xc bm:=by
 unfold li at q;split at q
 ·rename_i dd cd sl ho
  split at q
  ·rename_i D bm k0 k1 k2 k3 n k5 hm hs
   simp only[Ko,JS,KL]at q;obtain⟨⟨⟨⟨⟨rfl,rfl⟩,hdel⟩,ht⟩,hok⟩,hni⟩:=q;obtain⟨nm,bs,mro,ns,qn,hd,sn,sub,ab,col,del⟩:=cd;dsimp only at hm hdel hok hni;subst hm hdel
   have hsl:sl = #[k0,k1,k2,k3,some (.builtin "ValueError.__new__"),k5]:=by
    obtain⟨l⟩:=sl;simp only at hs;rw[hs]
   subst hsl;have G:h.Ns ns _:=.of_isNs (PySem.W.isNs_of_in X hok);exact⟨bm,ns,nm,qn,bs,hd,sn,sub,ab,col,dd,k0,k1,k2,k3,k5,_,X _ _ ho,G,xY X G hni,PySem.W.tail_of_in X ht⟩
  ·cases q
 ·cases q
structure FK (K:PySem.W.Frag)(C:Addr)(f:Str):Prop where
 ga:PySem.W.findIn K (.ref C) "__getattribute__" = some (some (.builtin "BaseException.__getattribute__"))
 gh:PySem.W.findIn K (.ref C) "__getattr__" = some none
 sa:PySem.W.findIn K (.ref C) "__setattr__" = some (some (.builtin "object.__setattr__"))
 na:PySem.W.findIn K (.ref C) f=some none
 hd:PySem.W.hasDictIn K C=true
 mb:PySem.W.mroIn K C (.type "BaseException")=some true
 mo:PySem.W.mroIn K C (.type "object")=some true
 ov:((PySem.W.clsIn K C).any fun cd=>iD cd.mro)=true
section
variable {prog:Program}{w:World}{A:Around}{E:Value->Shared->Prop}{s:Shared}{K:PySem.W.Frag}{x dx C:Addr}{mA:Str->Option Value}{f:Str}{v:Value}
theorem EN {expr:Bool}{ox:Obj}{us:Array Value}{Q:Value->Shared->Prop}(X:K.In s.heap)(c:FK K C f)(hx:s.heap.get? x=some ox)(hc:ox.cls=.ref C)(hd:ox.dict=some dx)(hf:ox.data=.fields us)
  (n:s.heap.Ns1 dx mA) (hv:mA f=some v) (hh:PySem.W.handedIn v=true) (h:Q v { s with toks:=s.toks+1 }):wpAny (model prog w) A (getAttr (.ref x) f expr) Q E s:=by
 obtain⟨od,ho,hl⟩:=tP n;have J:PySem.W.InstAt s.heap x ox C (some od):=⟨hx,hc,by unfold PySem.W.notCls;rw[hf],by rw[hd];exact ho⟩;have L0:=J.type (M:=model prog w);have L1:=PySem.W.looks_findIn (M:=model prog w) X c.ga;have L2:=PySem.W.looks_findIn (M:=model prog w) X c.gh;have L3:=PySem.W.looks_find (M:=model prog w) X J (PySem.W.findObj_own c.hd c.na rfl (by rw[hl,hv]));have L4:PySem.W.Looks (model prog w) s.heap (isInstance (.ref x) (.type "BaseException")) true:=L0.andThen (PySem.W.looks_mroIn X c.mb);have G:=PySem.F.excAttr_ValueError.ga;refine Io (wpAny_mkText (Jv (Io (L0 _ _ _ _ (fun _ _ e=>e) (Io (L1 _ _ _ _ (fun _ _ e=>e) ?_))))));dsimp only
 have hx2:(Value.builtin "BaseException.__getattribute__" == Value.builtin "object.__getattribute__")=false:=by decide +kernel
 rw[hx2,Bool.and_false,Ip (by decide)];refine Io ?_;unfold hookBefore;rw[Iq (show onTheHeap (Value.ref C)=true from rfl)];refine L2 _ _ _ _ (fun _ _ e=>e) (Io (wpAny_attempt (Jv ?_)));unfold callGetattribute;rw[show (expr&&onTheHeap (Value.builtin "BaseException.__getattribute__"))=false from Bool.and_false _,Ip (by decide)];unfold boundAndCalled;rw[G.bind];refine Io (Iu ?_)
 show wpAny _ _ (call (.builtin "BaseException.__getattribute__") [.ref x,.str f s.toks]) _ _ _
 refine Ka (Kl G.plain PySem.F.entry_bexc_ga ?_);refine @PySem.W.check_slot (model prog w) _ _ { s with toks:=s.toks+1 } "BaseException.__getattribute__" "BaseException" "__getattribute__" (.ref x) [.str f s.toks] [] _ (by decide +kernel) (by decide +kernel) L4 (PySem.F.args_bexc_ga _ _) ?_;refine Io (Iu (Io (Iu (Io (L0 _ _ _ _ (fun _ _ e=>e) (Io (L3 _ _ _ _ (fun _ _ e=>e) ?_)))))));refine Iu ?_
 show wpAny _ _ (handedOut v) _ _ _
 rw[PySem.W.handedOut_of hh];exact Iu h
theorem EO {t:Addr}{Q:Unit->Shared->Prop}(X:K.In s.heap)(c:FK K C f)(hx:s.heap.get? x=some (exOb C t none))
  (h:∀ h' tk,h'.get? x=some (exOb C t (some s.heap.objs.size))->h'.Ns1 s.heap.objs.size (fun y=>if y=f then some v else none)->(∀ b o,b≠x->s.heap.get? b=some o->h'.get? b=some o)->Q () { s with heap:=h',toks:=tk }) :
  wpAny (model prog w) A (setAttr (.ref x) f v) Q E s:=by
 have J:PySem.W.InstAt s.heap x (exOb C t none) C none:=⟨hx,rfl,rfl,trivial⟩;have SF:=PySem.F.store_ValueError;obtain⟨cd,hcd,ho⟩:=PySem.W.any_some c.ov;obtain⟨cd',hcd',hd'⟩:=PySem.W.any_some c.hd
 have e0:cd'=cd:=by rw[hcd]at hcd';exact (Iy hcd').symm
 subst e0;have L0:=J.type (M:=model prog w);have sub:PySem.W.Looks (model prog w) s.heap (isInstance (.ref x) (.type "object")) true:=L0.andThen (PySem.W.looks_mroIn X c.mo);have hm:PySem.W.Looks (model prog w) s.heap (mroOf (.ref C)) cd'.mro:=(PySem.W.looks_clsIn X hcd).andThen .now;refine PySem.W.set_plain X J c.sa ?_;refine Kl SF.slot.plain SF.entry (@PySem.W.check_slot (model prog w) _ _ { s with toks:=s.toks+1 } "object.__setattr__" "object" "__setattr__" (.ref x) [.str f s.toks,v] [] _ SF.kind SF.split sub (SF.args (.ref x) (.str f s.toks) v) ?_);rw[PySem.W.osa_eq,refuse_eq];refine Io (Io (L0 _ _ _ _ (fun _ _ e=>e) (Io (hm _ _ _ _ (fun _ _ e=>e) ?_))));rw[pj _ ho];refine Iu (Io (L0 _ _ _ _ (fun _ _ e=>e) (Io (PySem.W.looks_findIn X c.na _ _ _ _ (fun _ _ e=>e) (Io (Iu ?_))))));refine Io (Iu (Io (Io (wpAny_loadPart hx (Io (PySem.W.Looks.here (s:={ s with toks:=s.toks+1 }) (PySem.W.looks_clsIn X hcd) ?_))))));rw[hd'];rw[Ip (by decide)];have hxs:x≠s.heap.objs.size:=IC (IA hx);have hx1:(s.heap.push { cls:=.type "dict",data:=.dict #[] }).get? x=some (exOb C t none):=Heap.get?_push_of_some _ hx
 show wpAny (model prog w) A.in1 (alloc { cls:=.type "dict",data:=.dict #[] } >>= fun dA=>(update x fun o=>{ cls:=o.cls,dict:=some dA,data:=o.data,slots:=o.slots }) >>= fun _=>dictMade (Value.ref C) x dA) _ _ _
 refine Io (wpAny_alloc' (Io (wpAny_update' hx1 (Iu ?_))));generalize hg:((s.heap.push { cls:=.type "dict",data:=.dict #[] }).update x fun o=>{ cls:=o.cls,dict:=some s.heap.objs.size,data:=o.data,slots:=o.slots })=g1
 have hgd:g1.get? s.heap.objs.size=some { cls:=.type "dict",data:=.dict #[] }:=by
  rw[<-hg,Heap.get?_update_ne _ _ _ _ hxs.symm];exact Heap.get?_push_at rfl rfl
 have hgx:g1.get? x=some (exOb C t (some s.heap.objs.size)):=by rw[<-hg];exact Heap.get?_update_self _ hx1 rfl
 have hgo:∀ b o,b≠x->s.heap.get? b=some o->g1.get? b=some o:=fun b o n q=>by rw[<-hg,Heap.get?_update_ne _ _ _ _ n];exact Heap.get?_push_of_some _ q
 have hnd:g1.Ns s.heap.objs.size (fun _=>none):=⟨_,#[],_,hgd,rfl,fun e he=>absurd he (by simp),fun _=>rfl⟩
 show wpAny _ _ (Builtin.ObjectAttr.storeInDict s.heap.objs.size (.str f s.toks) f v) _ _ _
 unfold Builtin.ObjectAttr.storeInDict Builtin.ObjectAttr.newKeyGuard;refine Io (Iu (Io (wpAny_nsSet1 (Heap.Ns1.of_empty hnd) fun h' hn2 hs2=>?_)));obtain⟨oD,esD,epD,hoD,hdD,hcD⟩:=hn2.count (PySem.Within.cons f v PySem.Within.nil);refine Io (wpAny_lookBehind hoD (by rw[hdD];exact pastItsLine_dict (Jb hcD (by rw[Jc,List.length_nil,J9];omega))) ?_);refine Iu (h h' _ ((hs2.2 x hxs).trans hgx) hn2 fun b o n q=>?_);exact (hs2.2 b (IC (IA q))).trans (hgo b o n q)
theorem Bt {t fI:Addr}{u:Value}{Q:Value->Shared->Prop}(X:K.In s.heap)(c:li K C fI=true)(hx:s.heap.get? x=some (exOb C t none))
  (h:∀ h' t',h'.get? x=some (exOb C t' none)->(∀ b o,b≠x->s.heap.get? b=some o->h'.get? b=some o)->Q .none { s with heap:=h' }) :
  wpAny (model prog w) A (call (.builtin "ValueError.__init__") [.ref x,u]) Q E s:=by
 have F:=Kf;obtain⟨bm,N,nm,qn,bs,hdct,sn,sub,ab,col,dd,k0,k1,k2,k3,k5,mN,hC,hN,hni,T⟩:=vG X c;obtain⟨hp,g,d,tk,os⟩:=s;refine Ka (Kl F.init.plain F.initEntry (wpAny_check_init_subT F T hC hx rfl ?_));unfold Builtin.«BaseException.__init__»;dsimp only;rw[Ip (by simp)];unfold newTuple Builtin.BaseException.bexcPut;have hx1:=Heap.get?_push_of_some (h:=hp) { cls:=.type "tuple",data:=.seq #[u] } hx;refine Io (Jq (Io (Io (KI hx1 rfl rfl (Io (KQ hx1 rfl (by show 0<6;decide) ?_))))) (by size_fits));refine wpAny_letGo (Iu (h _ hp.objs.size ?_ fun b o n q=>?_))
 ·exact Heap.get?_update_self _ hx1 rfl
 ·rw[Heap.get?_update_other _ _ (IN n)];exact Heap.get?_push_of_some _ q
end
end L2
namespace PySem
open Sem (wp)
section
variable {prog:Program}{w:World}{A:Around}{E:Value->Shared->Prop}{h:Heap}{g:Array GenState}{d:Drawn}{t:Nat}{os:OsState}
variable {nm q:Str}{C N:Addr}{bs bm bmB:List Value}{hdct:Bool}{sn:List Str}{sub:List Value}{ab:Bool}{col:Option Bool}{dd:Option Addr}{k0 k1 k2 k3 k5:Option Value}{B newId initId:String}
theorem nA (F:ExcBaseFacts B newId initId bmB)(T:OwnTail h bmB bm){mN:Str->Option Value}{rest:List Value}{fI:Addr}{oI:Obj}{Q:Fin->Shared->Prop}
  (hC:h.get? C=some (excClassObj nm q C N bs bm hdct sn sub ab col dd k0 k1 k2 k3 k5 newId)) (hn:h.Ns N mN) (hi:mN "__init__" = some (.ref fI)) (hfI:h.get? fI=some oI) (hfc:oI.cls=.type "function")
  (hq:∀ h' e,Heap.MadeExcOf h h' e (.ref C) rest->wpAny (model prog w) A (call (.ref fI) (.ref e::rest)) (fun r s'=>r=.none/\Q (.done (.ret (.ref e))) s') E ⟨h',g,d,t,os⟩) (hrest:rest.length<=sizeLine) :
  wpAny (model prog w) A (Builtin.«type.__call__» ⟨.ref C::rest,[]⟩) Q E ⟨h,g,d,t,os⟩:=by
 repeat (first | with_reducible refine KM hC ?_ | with_reducible refine wpAny_madeBy_exc hC ?_ | wp_step)
 refine codeAny_call_builtin_code (Code.quiet_builtin _ F.quiet) (wpAny_check_new_subT F T hC ?_);refine codeAny_exc_new_subT F T hC ?_ hrest
 show wpAny _ _ _ _ _ _
 have keep:∀ b o,h.get? b=some o->((h.push { cls:=.type "tuple",data:=.seq rest.toArray }).push { cls:=.ref C,data:=.fields #[.ref h.objs.size,.none,.none,.none,.bool false,.none] }).get? b=some o:=fun b o e=>Heap.get?_push_of_some _ (Heap.get?_push_of_some _ e);have hC1:=keep _ _ hC;have hn1:=hn.keeps keep
 have hget:((h.push { cls:=.type "tuple",data:=.seq rest.toArray }).push { cls:=.ref C,data:=.fields #[.ref h.objs.size,.none,.none,.none,.bool false,.none] }).get? (h.objs.size+1)=some { cls:=.ref C,data:=.fields #[.ref h.objs.size,.none,.none,.none,.bool false,.none] }:=by heap_get
 have hcC:(Value.ref C::bm).contains (.ref C)=true:=by simp
 have T1:=T.keeps keep;unfold isInstance
 repeat (first | with_reducible refine KM hget ?_ | (with_reducible refine wpAny_isSubtype_exc hC1 ?_;rw[hcC]) | wp_step)
 show wpAny _ _ (typeLookup (.ref C) _) _ _ _
 refine wpAny_typeLookup_tail hC1 hn1 T1 F.mroIs F.init.lookup ?_;rw[hi];refine Jv (Io ?_);unfold bindSpecial;refine Io (wpAny_typeOf (T:="function") ⟨_,keep _ _ hfI,hfc⟩ ?_);rw[Iq (by decide)];refine Iu (Io (IS (hq _ (h.objs.size+1) ⟨keep,Heap.get?_none_of_le (KH _),h.objs.size,hget,Heap.get?_none_of_le (Iv _),Heap.get?_push_of_some _ (Heap.get?_push_at rfl rfl)⟩) (fun r s' hr=>?_) fun _ _ x=>x));obtain⟨rfl,hQ⟩:=hr
 wp_walk
 exact hQ
theorem vj (F:ExcBaseFacts B newId initId bmB)(T:OwnTail h bmB bm){mN:Str->Option Value}{rest:List Value}{fI:Addr}{oI:Obj}{Q:Value->Shared->Prop}
  (hC:h.get? C=some (excClassObj nm q C N bs bm hdct sn sub ab col dd k0 k1 k2 k3 k5 newId)) (hn:h.Ns N mN) (hi:mN "__init__" = some (.ref fI)) (hfI:h.get? fI=some oI) (hfc:oI.cls=.type "function")
  (hq:∀ h' e,Heap.MadeExcOf h h' e (.ref C) rest->wpAny (model prog w) (A.under (.builtin "type.__call__" ⟨.ref C::rest,[]⟩)) (call (.ref fI) (.ref e::rest)) (fun r s'=>r=.none/\Q (.ref e) s') E ⟨h',g,d,t,os⟩) (hrest:rest.length<=sizeLine) :
  wpAny (model prog w) A (call (.ref C) rest) Q E ⟨h,g,d,t,os⟩:=by
 have f1:=tc_lookup;have f2:=tc_bind (.ref C);have hT:(⟨h,g,d,t,os⟩:Shared).TypeIs (.ref C) "type":=⟨_,hC,rfl⟩;refine Ka (codeAny_of_tree ?_)
 show wpAny _ _ (callAny (.ref C) _) _ _ _
 repeat (any_goals (first | assumption | with_reducible refine KM hC ?_ | wp_step))
 refine⟨rfl,?_⟩;refine codeAny_call_builtin_at (Code.quiet_builtin _ (by decide +kernel)) entry_typeCall (wpAny_check_type_call_sub hC (nA F T hC hn hi hfI hfc (fun h' e hm=>?_) hrest));exact hq h' e hm
theorem Cu {x:Sem Value}{s:Shared}{env:Env}{Q:Flow->Shared->Prop}(hbase:bm.contains (.type "BaseException")=true)(hh:A.handled=none)
  (h:wpAny (model prog w) A x (fun v s1=>∃ e t od,v=.ref e/\s1.heap.get? C=some (excClassObj nm q C N bs bm hdct sn sub ab col dd k0 k1 k2 k3 k5 newId)/\s1.heap.get? e=some (L2.exOb C t od)/\E (.ref e) s1) E s) :
  wpAny (model prog w) A (raiseStmt env (some x) none) Q E s:=by
 have hcB:(Value.ref C::bm).contains (.type "BaseException")=true:=by rw[List.contains_cons,hbase,Bool.or_true]
 unfold raiseStmt;refine Io (IS h (fun v s1 h1=>?_) fun _ _ x=>x);obtain⟨e,t,od,rfl,hC,he,hE⟩:=h1;obtain⟨hp,g,d,tk,os⟩:=s1;unfold L2.exOb at he
 repeat (first | with_reducible refine KM he ?_ | with_reducible refine KM hC ?_ | (with_reducible refine wpAny_isSubtype_exc hC ?_;rw[hcB]) | wp_step)
 exact wpAny_raiseNew_none hh hE
end
end PySem
namespace L2
open PySem PySem.Spec PyProof.Rows
abbrev ic (K:PySem.W.Frag)(C:Addr):Prop:=PySem.W.excIn K C xc "ValueError.__new__" = true
theorem CV {K:PySem.W.Frag}{h:Heap}{C:Addr}(X:K.In h)(q:ic K C) :
  ∃ bm N nm qn bs hdct sn sub ab col dd k0 k1 k2 k3 k5 mN,h.get? C=some (excClassObj nm qn C N bs bm hdct sn sub ab col dd k0 k1 k2 k3 k5 "ValueError.__new__")/\h.Ns N mN/\mN "__init__" = none/\OwnTail h xc bm:=by
 have q:PySem.W.excIn K C xc "ValueError.__new__" = true:=q;unfold PySem.W.excIn at q;split at q
 ·rename_i dd cd sl ho
  split at q
  ·rename_i C' bm k0 k1 k2 k3 n k5 hm hs
   simp only[Ko,JS,KL]at q;obtain⟨⟨⟨⟨⟨rfl,rfl⟩,hdel⟩,ht⟩,hok⟩,hni⟩:=q;obtain⟨nm,bs,mro,ns,qn,hd,sn,sub,ab,col,del⟩:=cd;dsimp only at hm hdel hok hni;subst hm hdel
   have hsl:sl = #[k0,k1,k2,k3,some (.builtin "ValueError.__new__"),k5]:=by
    obtain⟨l⟩:=sl;simp only at hs;rw[hs]
   subst hsl;exact⟨bm,ns,nm,qn,bs,hd,sn,sub,ab,col,dd,k0,k1,k2,k3,k5,_,X _ _ ho,.of_isNs (PySem.W.isNs_of_in X hok),PySem.W.nsMap_none_of_in X hok hni,PySem.W.tail_of_in X ht⟩
  ·cases q
 ·cases q
def vF (e C:Addr)(od:Option Addr):HO:=.ext fun h=>∃ t,h.get? e=some (exOb C t od)
theorem xz {P:Program}{w:World}{H:Hp}{h:Heap}{e C t:Addr}{od:Option Addr}(q:h.get? e=some (exOb C t od)):bo P w H h e (vF e C od):=⟨⟨t,q⟩,⟨_,q⟩,fun h1 h2 ⟨t,q⟩ k=>⟨t,k _ q⟩⟩
def sP (H:Hp)(a:Addr):Hp:=fun b=>if b=a then none else H b
theorem km {H:Hp}{a b:Addr}(h:b≠a):sP H a b=H b:=by unfold sP;rw[Ip h]
theorem AG {H:Hp}{a:Addr}:sP H a a=none:=by unfold sP;rw[Iq rfl]
theorem au.untrack {X:Cx}{pins:List (Addr×Obj)}{σ:St}{H:Hp}{s:Shared}{a:Addr}{φ:Heap->Prop}(I:au X pins σ H s)(e:H a=some (.ext φ)):au X pins σ (sP H a) s:=by
 have ne:∀ b o,H b=some o->(∀ ψ,o≠.ext ψ)->b≠a:=fun b o q n z=>by rw[z,e]at q;cases q;exact n _ rfl
 have u:Un X.fs [] H (sP H a) s.heap s.heap :=
  ⟨fun b o q _ _ _=>q,fun b o q _ _ _=>⟨o.slots,q⟩,fun b o q n _=>by unfold sP;split<;>first | rfl | exact n,fun b o q _=>⟨o,q⟩,fun b xs q=>by rw[km (ne b _ q fun ψ z=>nomatch z)];exact q,fun b o u q=>by rw[km (ne b _ q fun ψ z=>nomatch z)];exact q,fun b ps q=>⟨#[],by rw[km (ne b _ q fun ψ z=>nomatch z),q];simp⟩⟩
 have hk:iQ X.prog X.w (sP H a) s.heap:=fun b o q=>by
  by_cases hb:b=a
  ·rw[hb,AG]at q;cases q
  ·rw[km hb]at q
   exact (I.hok b o q).stay (fun c v _ r=>r) (fun c r=>by rw[km (ne c _ r fun ψ z=>nomatch z)];exact r) fun c xs r=>by rw[km (ne c _ r fun ψ z=>nomatch z)];exact r
 exact I.un (t':=s.toks) u hk
theorem bo.has {P:Program}{w:World}{H:Hp}{h:Heap}{a:Addr}{o:HO}(x:bo P w H h a o):∃ u,h.get? a=some u:=by
 cases o with
 | lst xs=>obtain⟨_,_,_,_,e⟩:=x;exact⟨_,e⟩
 | tup xs=>obtain⟨_,_,_,u,e,_⟩:=x;exact⟨u,e⟩
 | dK kvs=>obtain⟨_,_,_,_,o,_,_,e,_⟩:=x;exact⟨o,e⟩
 | dT kvs=>obtain⟨_,_,_,_,o,_,_,e,_⟩:=x;exact⟨o,e⟩
 | set S n=>obtain⟨o,_,_,_,e,_⟩:=x;exact⟨o,e⟩
 | ins C dx fs=>obtain⟨_,_,_,e,_⟩:=x;exact⟨_,e⟩
 | own y=>exact x
 | xd fs=>obtain⟨_,⟨o,_,_,e,_⟩,_⟩:=x;exact⟨o,e⟩
 | rng lo hi=>obtain⟨_,_,_,e⟩:=x;exact⟨_,e⟩
 | frz ob u=>obtain⟨e,_⟩:=x;exact⟨ob,e⟩
 | tbl ps=>exact⟨_,(show h.get? a=some _ from x)⟩
 | met f y=>exact⟨_,(show h.get? a=some _ from x)⟩
 | ext φ=>obtain⟨_,e,_⟩:=x;exact e
def fb (P:Program)(w:World):sQ:=fun outer H s E e s'=>∃ (ea C:Addr)(od:Option Addr)(H':Hp)(B:Heap),e=.ref ea/\lS B outer ea (.ref C) od s'.heap/\Un (iq outer) [] H H' s.heap s'.heap/\iQ P w H' s'.heap/\s'.os=s.os/\AllBare s'.gens /\
 (∀ b o,s.heap.get? b=some o->b∉iq outer->∃ o',B.get? b=some o')/\(∀ b o,H' b=some o->∃ o',B.get? b=some o')/\E (.ref C) od H'
theorem Co {fs:List Addr}{H H':Hp}{h h1 h2 B:Heap}(u:Un fs [] H H' h h1)(b1:B.StaysIn h1)(b2:B.StaysIn h2)(hb:∀ b o,h.get? b=some o->b∉fs->∃ o',B.get? b=some o')(sl:∀ b o,b∈fs->h.get? b=some o->H b=none->∃ sl,h2.get? b=some { o with slots:=sl })(th:∀ b o,b∈fs->h.get? b=some o->∃ o',h2.get? b=some o'):Un fs [] H H' h h2:=by
 have eq:∀ b o,h.get? b=some o->b∉fs->h2.get? b=h1.get? b:=fun b o e hf=>by
  obtain⟨o',e'⟩:=hb b o e hf;rw[b1 b o' e',b2 b o' e']
 refine⟨fun b o e n hf hx=>(eq b o e hf).trans (u.keep b o e n hf hx),fun b o e n hf hx=>sl b o hf e n,u.free,fun b o e hx=>?_,u.tups,u.frzs,u.tbls⟩
 by_cases hf:b∈fs
 ·exact th b o hf e
 ·rw[eq b o e hf];exact u.there b o e hx
theorem xD {P:Program}{w:World}{H:Hp}{h1 h2 B:Heap}(x:iQ P w H h1)(b1:B.StaysIn h1)(b2:B.StaysIn h2)(hb:∀ b o,H b=some o->∃ o',B.get? b=some o'):iQ P w H h2:=fun a o e =>
 (x a o e).stay (fun b u hc q=>by
  have:∃ o',B.get? b=some o':=by
   rcases hc with z | z
   ·rw[z];exact hb a o e
   ·exact hb b _ z
  obtain⟨o',e'⟩:=this;rw[b1 b o' e']at q;rw[<-q]
  exact b2 b o' e') (fun _ q=>q) fun _ _ q=>q
def yz (X:Cx)(E:XK):Prop:=∀ (pins:List (Addr×Obj))(σ:St)(H:Hp)(s:Shared)(ea C t:Addr)(od:Option Addr),au X pins σ H s->s.heap.get? ea=some (exOb C t od)->H ea=none->X.s₀.heap.get? ea=none->E (.ref C) od H->X.xe (.ref ea) s
section
variable {P:Program}{w:World}{K:PySem.W.Frag}{mg:Str->Option Value}{base:Heap}{N:List Str}{qual:Str}{sc:Scope}{f:Addr}{cd:Value}{A:Around}{outer:List Env}{s0:Shared}{H0:Hp}{E:XK}
theorem fY:yz (pG (fb P w) P w K mg base N qual sc f cd A outer s0 H0 E) E:=by
 intro pins σ H s ea C t od I hx hn hs hE
 let X:Cx:=pG (fb P w) P w K mg base N qual sc f cd A outer s0 H0 E
 show wpAny _ _ (leaving _ _) _ _ _
 have hstk:(X.A.frames:Option (List Env))=some (X.env::outer):=I.ok.frames
 have frS:iq X.stack=X.env.locals::iq outer:=by unfold iq;rfl
 let B:Heap:=PySem.W.hideAll s.heap (ea::iq X.stack)
 have hkb:B.StaysIn s.heap:=fun b o q=>PySem.W.of_hideAll _ q;have inB:∀ b o,s.heap.get? b=some o->b≠ea->b∉iq X.stack->B.get? b=some o:=fun b o e ne hf=>PySem.W.hideAll_get _ e (fun z=>(IE.mp z).elim ne hf);have hl:s.heap.FunFrames B (X.env::outer):=PySem.W.funFrames_hide I.stack fun env he a hf=>Iz _ (List.mem_filterMap.mpr ⟨env,he,hf⟩);refine uA (s:=s) hstk rfl hkb hl hx (PySem.W.hideAll_none _ IJ) rfl rfl fun h2 fl ups=>?_;have ltl:∀ b o,s0.heap.get? b=some o->b≠X.env.locals:=fun b o e=>IC (IQ (IA e) I.ok.above)
 have h0B:∀ b o,s0.heap.get? b=some o->b∉iq outer->∃ o',B.get? b=some o':=fun b o e hf=>by
  obtain⟨o',e'⟩:=I.base.there b o e (by intro z;exact absurd (show b∈([]:List Addr) from z) (by simp));refine⟨o',inB b o' e' (fun z=>?_) ?_⟩
  ·have hs':s0.heap.get? ea=none:=hs
   rw[z,hs']at e;cases e
  ·rw[frS]
   intro z;rcases IE.mp z with z | z
   ·exact ltl b o e z
   ·exact hf z
 have trB:∀ b o,H b=some o->∃ o',B.get? b=some o':=fun b o e=>by
  obtain⟨u,q⟩:=(I.hok b o e).has;exact⟨u,inB b u q (fun z=>by rw[z,hn]at e;cases e) fun z=>by rw[I.stkFree b z]at e;cases e⟩
 have noEx:∀ b,b∉X.ex:=fun b z=>absurd (show b∈([]:List Addr) from z) (by simp)
 have slot2:∀ b o,b∈iq outer->s0.heap.get? b=some o->H0 b=none->∃ sl,h2.get? b=some { o with slots:=sl }:=fun b o hf e n=>by
  obtain⟨sl,e1⟩:=I.base.slot b o e n hf (noEx b);obtain⟨_,o2,ho2,hnf⟩:=I.ok.funs.mem hf
  have e2:o2=o:=by
   have:s0.heap.get? b=some o2:=ho2;rw[e]at this;exact (Iy this).symm
  subst e2;obtain⟨sl2,e3⟩:=ups b _ e1 hnf;exact⟨sl2,e3⟩
 refine⟨ea,C,od,H,B,rfl,fl,?_,xD I.hok hkb fl.1 trB,I.os,I.bare,h0B,trB,hE⟩;refine Co (h1:=s.heap) I.base hkb fl.1 h0B (fun b o hf e n=>?_) fun b o hf e=>?_
 ·exact slot2 b o hf e n
 ·obtain⟨sl,q⟩:=slot2 b o hf e (I.ok.frf b hf)
  exact⟨_,q⟩
theorem c5:d9 (fb P w) (pG (fb P w) P w K mg base N qual sc f cd A outer s0 H0 E) E:=by
 intro pins σ H s e s' I hc;obtain⟨ea,C,od,H',B,rfl,fl,un,hok,os,bare,hsB,trB,hE⟩:=hc
 let X:Cx:=pG (fb P w) P w K mg base N qual sc f cd A outer s0 H0 E
 show wpAny _ _ (leaving _ _) _ _ _
 have hstk:(X.A.frames:Option (List Env))=some (X.env::outer):=I.ok.frames
 have frS:iq X.stack=X.env.locals::iq outer:=by unfold iq;rfl
 refine xL hstk rfl fl fun h2 fl2 ups=>?_;have ltl:∀ b o,s0.heap.get? b=some o->b≠X.env.locals:=fun b o e=>IC (IQ (IA e) I.ok.above);have noEx:∀ b,b∉X.ex:=fun b z=>absurd (show b∈([]:List Addr) from z) (by simp)
 have h0B:∀ b o,s0.heap.get? b=some o->b∉iq outer->∃ o',B.get? b=some o':=fun b o e hf=>by
  obtain⟨o',e'⟩:=I.base.there b o e (noEx b);refine hsB b o' e' ?_;rw[frS];intro z;rcases IE.mp z with z | z
  ·exact ltl b o e z
  ·exact hf z
 have unS:Un (iq outer) [] H0 H' s0.heap s'.heap:=by
  have u1:Un (iq outer) [] H0 H s0.heap s.heap:=I.base;refine⟨fun b o e n hf hx=>?_,fun b o e n hf hx=>?_,fun b o e n hx=>?_,fun b o e hx=>?_,fun b xs q=>un.tups b xs (u1.tups b xs q),fun b o u q=>un.frzs b o u (u1.frzs b o u q),fun b ps q=>?_⟩
  ·refine un.keep b o (u1.keep b o e n hf hx) (u1.free b o e n hx) ?_ hx
   rw[frS];intro z;rcases IE.mp z with z | z
   ·exact ltl b o e z
   ·exact hf z
  ·obtain⟨sl,e1⟩:=u1.slot b o e n hf hx
   obtain⟨sl2,e2⟩:=un.slot b _ e1 (u1.free b o e n hx) (by rw[frS];exact Iz _ hf) hx;exact⟨sl2,e2⟩
  ·obtain⟨o',e'⟩:=u1.there b o e hx
   exact un.free b o' e' (u1.free b o e n hx) hx
  ·obtain⟨o',e'⟩:=u1.there b o e hx
   exact un.there b o' e' hx
  ·obtain⟨m1,e1⟩:=u1.tbls b ps q
   obtain⟨m2,e2⟩:=un.tbls b _ e1;exact⟨m1++m2,by rw[e2,Array.append_assoc]⟩
 have slot2:∀ b o,b∈iq outer->s0.heap.get? b=some o->H0 b=none->∃ sl,h2.get? b=some { o with slots:=sl }:=fun b o hf e n=>by
  obtain⟨sl,e1⟩:=unS.slot b o e n hf (by simp);obtain⟨_,o2,ho2,hnf⟩:=I.ok.funs.mem hf
  have e2:o2=o:=by
   have:s0.heap.get? b=some o2:=ho2;rw[e]at this;exact (Iy this).symm
  subst e2;obtain⟨sl2,e3⟩:=ups b _ e1 hnf;exact⟨sl2,e3⟩
 refine⟨ea,C,od,H',B,rfl,fl2,?_,xD hok fl.1 fl2.1 trB,os.trans I.os,bare,h0B,trB,hE⟩;refine Co (h1:=s'.heap) unS fl.1 fl2.1 h0B (fun b o hf e n=>slot2 b o hf e n) fun b o hf e=>?_;obtain⟨sl,q⟩:=slot2 b o hf e (I.ok.frf b hf);exact⟨_,q⟩
end
theorem au.fresh0 {X:Cx}{pins:List (Addr×Obj)}{σ:St}{H:Hp}{s:Shared}{a:Addr}(I:au X pins σ H s)(hx:a∉X.ex)(h:s.heap.get? a=none):X.s₀.heap.get? a=none:=by
 cases e:X.s₀.heap.get? a with
 | none=>rfl
 | some o =>
  obtain⟨o',q⟩:=I.base.there a o e hx;rw[h]at q;cases q
theorem au.unheld {X:Cx}{pins:List (Addr×Obj)}{σ:St}{H:Hp}{s:Shared}{a:Addr}(I:au X pins σ H s)(h:s.heap.get? a=none):H a=none:=by
 cases e:H a with
 | none=>rfl
 | some o =>
  obtain⟨u,q⟩:=(I.hok a o e).has;rw[h]at q;cases q
def Fy (te:TE)(C:Addr)(E:XK):TS:=fun _ σ H=>te σ H fun _ H1=>E (.ref C) none H1
theorem mP {X:Cx}{C:Addr}{E:XK}{x:Str}{e:Expr}{te:TE}{np cpos pos:Pos}(q:ic X.K C)(hfl:yz X E)(hex:X.ex=[])(hh:X.A.handled=none)(hg:Gl X x)(hm:X.mg x=some (.ref C))(he:PE X e te)
  (hdb:(x == ("__debug__" : Str))=false:=by decide) (hs:starEach [e] X.env=[(false,eval e X.env)]:=by rfl) :
  PS X (.Raise (some (.Call (.Name x np) [e] [] cpos)) none pos) (Fy te C E):=by
 intro pins s σ H D I h;obtain⟨bm,N,nm,qn,bs,hdct,sn,sub,ab,col,dd,k0,k1,k2,k3,k5,mN,hC,hN,hni,T⟩:=CV I.ok.mod.kin q
 refine wpAny_Raise_call_subT (C:=C) (nm:=nm) (q:=qn) (N:=N) (bs:=bs) (bm:=bm) (hdct:=hdct) (sn:=sn) (sub:=sub) (ab:=ab) (col:=col) (dd:=dd) (k0:=k0) (k1:=k1) (k2:=k2) (k3:=k3) (k5:=k5)
  Kf (mN:=mN) (T.hasType Kf.hasBase) hh (by rw[hs];rfl) hni (fJ I hg hm ⟨rfl,?_⟩ hdb)
 rw[hs];refine JP (Ju (bx (he pins s σ H _ I h) fun u s1 ⟨v,H1,I1,rv,q1⟩=>J2 ?_));refine⟨rfl,(show 1<=sizeLine by decide),I1.bk _ _ hC,hN.keeps I1.bk,T.keeps I1.bk,fun h' ea hx=>?_⟩;obtain⟨t,hea,_,_⟩:=hx.there;exact hfl pins σ H1 { s1 with heap:=h' } ea C t none (I1.kept (t':=s1.toks) hx.keeps) hea (I1.unheld hx.new) (I1.fresh0 (by rw[hex];simp) hx.new) q1
section
variable {X:Cx}{pins:List (Addr×Obj)}{σ:St}{H:Hp}{s:Shared}
theorem au.laidN {a:Addr}{o:HO}{h':Heap}{t':Nat}(I:au X pins σ H s)(k:∀ b u,s.heap.get? b=some u->h'.get? b=some u)(hp:s.heap.get? a=none)(new:bo X.prog X.w (upd H a o) h' a o) :
  au X pins σ (upd H a o) { s with heap:=h',toks:=t' }:=by
 have hn:=I.unheld hp
 have ne:∀ b u,s.heap.get? b=some u->b≠a:=fun b u q z=>by rw[z,hp]at q;cases q
 refine I.un ⟨fun b u q _ _ _=>k b u q,fun b u q _ _ _=>⟨u.slots,k b u q⟩,fun b u q n _=>by rw[ag (ne b u q)];exact n,fun b u q _=>⟨u,k b u q⟩,fun b xs q=>by rw[ag (ak q hn)];exact q,fun b u xs q=>by rw[ag (ak q hn)];exact q,fun b ps q=>⟨#[],by rw[ag (ak q hn),q];simp⟩⟩ fun b u e=>?_
 by_cases hb:b=a
 ·subst hb;rw[af]at e;cases e;exact new
 ·rw[ag hb]at e
  exact (I.hok b u e).stay (fun c v _ q=>k c v q) (fun c q=>by rw[ag (ak q hn)];exact q) fun c xs q=>by rw[ag (ak q hn)];exact q
end
inductive DE (C:Addr) (f:Str) (vs:List V) (H:Hp) (Q:VK) (E_:XK):Prop
 | mk (ea:Addr) (g:Int) (h_0:vs=[.ref ea,.int g]) (h_1:g.natAbs<10 ^ 100) (h_2:H ea=some (vF ea C none)) (h_3:∀ dx,H dx=none->Q .non (upd (upd H ea (vF ea C (some dx))) dx (.xd [(f,.int g)]))):DE C f vs H Q E_
theorem BD {X:Cx}{pl:Sem Bool}{W fI:Addr}{x:Str}{e:Expr}{es:List Expr}{t:TA}{np apos pos:Pos}(hg:Gl X x)(hm:X.mg x=some (.ref W))(hsp:PySem.W.specialIn X.K (.ref W) "__getattribute__" = some (some (.builtin "type.__getattribute__")))
  (hrd:PySem.W.readsIn X.K W (.type "type")=true) (hfc:PySem.W.findCls X.K (.ref W) (.type "type") "__init__" = some (.val (.builtin "ValueError.__init__"))) (ha:PA X (e::es) t)
  (hdb:(x == ("__debug__" : Str))=false:=by decide) (he:starEach (e::es) X.env=(false,eval e X.env)::starEach es X.env:=by rfl) (hpl:(backTo pos (starEach es X.env)).any (·.1)=false:=by rfl)
  (ht:eval (.Call (.Attribute (.Name x np) "__init__" apos) (e::es) [] pos) X.env=(do
   let ov <-eval (.Name x np) X.env
   standAt apos.atName
   let (f,first) <-holding [ov] (getMethod ov "__init__" pl)
   callWith pos f first (backTo pos (starEach (e::es) X.env)) (backToKw pos (keywordEach [] X.env))):=by rfl) :
  PE X (.Call (.Attribute (.Name x np) "__init__" apos) (e::es) [] pos) (fun σ H Q=>t σ H fun vs H1=>∃ ea C u,vs=[.ref ea,u]/\H1 ea=some (vF ea C none)/\li X.K C fI=true/\Q .non H1):=by
 intro pins s σ H Q I h;refine PySem.W.methodCall_KW (pl:=pl) (fJ I hg hm ?_ hdb) ht;refine PySem.W.method_cls I.kIn hsp (PySem.W.cls_value I.kIn hrd hfc rfl ?_);refine PyProof.Rows.callWith_builtin1 (bx (ha pos pins _ σ H _ (I.tok _) h) fun us s1 ⟨vs,H1,I1,r1,ea,C,v,ev,hx,c,q1⟩=>?_) he hpl;subst ev;obtain⟨u1,u2,rfl,ru1,ru2⟩:=r1.two;cases ru1;obtain⟨⟨t0,hx0⟩,_,_⟩:=(show bo X.prog X.w H1 s1.heap ea (vF ea C none) from I1.hok ea _ hx);refine Bt I1.kIn c hx0 fun h' t' q k=>?_
 have e:upd H1 ea (vF ea C none)=H1:=by funext b;unfold upd;split<;>rename_i z<;>first | (rw[z,hx]) | rfl
 refine⟨.non,H1,?_,rfl,q1⟩;have:=I1.write (x:=ea) (e:=ea) (o:=vF ea C none) (h':=h') (t':=s1.toks) (by rw[hx];exact True.intro) (.inl rfl) (fun b o n z=>k b o n z) ⟨_,q⟩ (xz q)
 rwa [e]at this
theorem BS {X:Cx}{o value:Expr}{f:Str}{pos pos':Pos}{ta tv:TE}(ha:PE X o ta)(hv:PE X value tv)(hs:swapsWith value (some (.Attribute o f pos')) pos.line X.env=pure false) :
  PS X (.Assign [.Attribute o f pos'] value pos) (fun D σ H=>tv σ H fun y H1=>ta σ H1 fun x H2=>∃ ea C,x=.ref ea/\H2 ea=some (vF ea C none)/\FK X.K C f/\∀ dx,H2 dx=none->D.nx σ (upd (upd H2 ea (vF ea C (some dx))) dx (.xd [(f,y)]))):=by
 intro pins s σ H D I h;refine plainObj_wpAny_Assign_Attribute (bx (hv pins s σ H _ I h) fun u s1 ⟨y,H1,I1,ry,q⟩=>bx (ha pins s1 σ H1 _ I1 q) fun ov s2 ⟨x,H2,I2,rx,ea,C,ex,hx,c,q2⟩=>?_) hs;subst ex;obtain rfl:ov=Value.ref ea:=rx;obtain⟨⟨t0,hx0⟩,_,_⟩:=(show bo X.prog X.w H2 s2.heap ea (vF ea C none) from I2.hok ea _ hx);refine EO I2.kIn c hx0 fun h' tk hx1 hns k=>⟨σ,_,?_,q2 s2.heap.objs.size I2.fresh⟩;have hd:=I2.fresh
 have ned:s2.heap.objs.size≠ea:=fun z=>by rw[z,hx]at hd;cases hd
 have ne1:∀ b u,H2 b=some u->(∀ ψ,u≠.ext ψ)->b≠ea:=fun b u q n z=>by rw[z,hx]at q;cases q;exact n _ rfl
 have ned2:∀ b u,s2.heap.get? b=some u->b≠s2.heap.objs.size:=fun b u q=>IC (IA q)
 have up:∀ b u,H2 b=some u->(∀ ψ,u≠.ext ψ)->upd (upd H2 ea (vF ea C (some s2.heap.objs.size))) s2.heap.objs.size (.xd [(f,y)]) b=some u:=fun b u q n=>by
  rw[ag (ak q hd),ag (ne1 b u q n)];exact q
 refine I2.un ⟨fun b u q n _ _=>k b u (fun z=>by rw[z,hx]at n;cases n) q,fun b u q n _ _=>⟨u.slots,k b u (fun z=>by rw[z,hx]at n;cases n) q⟩,fun b u q n _=>?_,fun b u q _=>?_,fun b xs q=>up b _ q (fun ψ z=>nomatch z),fun b u xs q=>up b _ q (fun ψ z=>nomatch z),fun b ps q=>⟨#[],by rw[up b _ q (fun ψ z=>nomatch z)];simp⟩⟩ fun b u q=>?_
 ·rw[ag (ned2 b u q),ag (fun z=>by rw[z,hx]at n;cases n)];exact n
 ·by_cases hb:b=ea
  ·exact⟨_,by rw[hb];exact hx1⟩
  ·exact⟨u,k b u hb q⟩
 ·by_cases hb:b=s2.heap.objs.size
  ·rw[hb,af]at q
   cases q;rw[hb];refine⟨_,hns,fun g=>?_⟩
   show ie (List.lookup g [(f,y)]) (if g=f then some _ else none)
   by_cases hgf:g=f
   ·rw[Iq hgf,hgf];simp only[List.lookup,Kq];exact ry
   ·have hb:(g == f)=false:=JL.mpr hgf
    rw[Ip hgf];simp only[List.lookup,hb];trivial
  ·rw[ag hb]at q
   by_cases hb2:b=ea
   ·rw[hb2,af]at q
    cases q;rw[hb2];exact xz hx1
   ·rw[ag hb2]at q
    refine (I2.hok b u q).stay (fun c v hc r=>k c v ?_ r) (fun c r=>up c _ r fun ψ z=>nomatch z) fun c xs r=>up c _ r fun ψ z=>nomatch z
    rcases hc with z | z
    ·rw[z];exact hb2
    ·exact ne1 c _ z fun ψ z=>nomatch z
def zn (te:TE)(C:Addr)(f:Str)(E:XK):TS:=fun _ σ H=>te σ H fun v H1=>∃ g:Int,v=.int g/\g.natAbs<10 ^ 100/\∀ dx,H1 dx=none->E (.ref C) (some dx) (upd H1 dx (.xd [(f,.int g)]))
theorem Aq {X:Cx}{C fI:Addr}{k:Nat}{fd:FuncData}{E:XK}{x f sl gp:Str}{e:Expr}{te:TE}{np cpos pos:Pos}(c:li X.K C fI=true)(hfn:PySem.W.typeIn X.K (.ref fI)=some (.type "function"))
  (G:bd X.prog X.w X.K X.mg X.base c7 k fI fd [sl,gp] (DE C f)) (hr:cu (k+1) X.A) (hb:eU X.K fd [sl,gp] [])
  (hfl:yz X E) (hex:X.ex=[]) (hh:X.A.handled=none) (hg:Gl X x) (hm:X.mg x=some (.ref C)) (he:PE X e te)
  (hdb:(x == ("__debug__" : Str))=false:=by decide) (hs:starEach [e] X.env=[(false,eval e X.env)]:=by rfl) :
  PS X (.Raise (some (.Call (.Name x np) [e] [] cpos)) none pos) (zn te C f E):=by
 intro pins s σ H D I h;obtain⟨bm,N,nm,qn,bs,hdct,sn,sub,ab,col,dd,k0,k1,k2,k3,k5,mN,hC,hN,hni,T⟩:=vG I.ok.mod.kin c;have F:=Kf;have hbase:=T.hasType F.hasBase;rw[arm_exec_Raise];refine Io (JA (Cu (C:=C) (nm:=nm) (q:=qn) (N:=N) (bs:=bs) (bm:=bm) (hdct:=hdct) (sn:=sn) (sub:=sub) (ab:=ab) (col:=col) (dd:=dd) (k0:=k0) (k1:=k1) (k2:=k2) (k3:=k3) (k5:=k5) (newId:="ValueError.__new__") hbase hh (Io (IS (wpAny_Call_ofName (fJ I hg hm ?_ hdb)) (fun v s3 h3=>Io (JA (Iu h3))) fun _ _ x=>x))));rw[hs];unfold callWith;refine Io (Jv (JP (Ju (bx (he pins s σ H _ I h) fun u s1 ⟨v,H1,I1,rv,g,ev,hgb,q1⟩=>J2 (Io (JA ?_))))));subst ev;dsimp only;have hC1:=I1.bk _ _ hC;have hN1:=hN.keeps I1.bk;have T1:=T.keeps I1.bk
 have hf1:∃ oI,s1.heap.get? fI=some oI/\oI.cls=.type "function":=by
  unfold PySem.W.typeIn at hfn;obtain⟨o,ho,hc⟩:=Option.map_eq_some_iff.mp hfn;exact⟨o,I1.kIn _ _ ho,hc⟩
 obtain⟨oI,hfI,hfc⟩:=hf1;obtain⟨hp,gs,d,tk,os⟩:=s1;refine Io (wpAny_keeperOf_exc hC1 ?_);refine Io (vj (rest:=[u]) F T1 hC1 hN1 hni hfI hfc (fun h' ea hx=>?_) (show 1<=sizeLine by decide));obtain⟨t0,hea,_,_⟩:=hx.there;have hfr:=I1.fresh0 (by rw[hex];simp) hx.new;have xE:=I1.unheld hx.new;have I2:au X pins σ (upd H1 ea (vF ea C none)) ⟨h',gs,d,tk,os⟩:=I1.laidN (a:=ea) (o:=vF ea C none) (h':=h') (t':=tk) hx.keeps hx.new (xz hea);have r2:bh [V.ref ea,V.int g] [Value.ref ea,u]:=.cons rfl (.cons rv .nil)
 refine Ka (JH (G.run _ X.stack _ _ ⟨[Value.ref ea,u],[]⟩ [Value.ref ea,u] [V.ref ea,V.int g] (fun v H3=>v=.non/\∃ dx,H1 dx=none/\dx≠ea/\H3=upd (upd (upd H1 ea (vF ea C none)) ea (vF ea C (some dx))) dx (.xd [(f,.int g)])) E0 (hr.make C [u] [])
  (I2.env0.make C [u] []) (hb _ [Value.ref ea,u] I2.kIn rfl) r2 ⟨ea,g,rfl,hgb,af,fun dx hdx=>⟨rfl,dx,?_,?_,rfl⟩⟩) fun r s' hq'=>?_)
 ·by_cases z:dx=ea
  ·rw[z,af]at hdx;cases hdx
  ·rwa [ag z]at hdx
 ·intro z;rw[z,af]at hdx;cases hdx
 cases r with
 | error e=>exact hq'.elim
 | ok fl =>
  cases fl with
  | ret u2 =>
   obtain⟨v,H3,I3,rv3,ev,dx,hdx,hne,eH⟩:=I2.after hq';subst ev;refine⟨rv3,Io (Jv (wpAny_point (Iu ?_)))⟩
   have h3:H3 ea=some (vF ea C (some dx)):=by rw[eH,ag (IN hne),af]
   obtain⟨⟨t3,hx3⟩,_,_⟩:=(show bo X.prog X.w H3 s'.heap ea (vF ea C (some dx)) from I3.hok ea _ h3);have I4:=I3.untrack (φ:=fun h=>∃ t,h.get? ea=some (exOb C t (some dx))) h3
   have e4:sP H3 ea=upd H1 dx (.xd [(f,.int g)]):=by
    funext b
    unfold sP
    by_cases hb:b=ea
    ·rw[Iq hb,hb,ag (IN hne),xE]
    ·rw[Ip hb,eH]
     by_cases hd:b=dx
     ·rw[hd,af,af]
     ·rw[ag hd,ag hb,ag hb,ag hd]
   rw[e4]at I4;exact⟨ea,t3,some dx,rfl,I4.bk _ _ hC,hx3,hfl pins σ _ s' ea C t3 (some dx) I4 hx3 (by rw[ag (IN hne)];exact xE) hfr (q1 dx hdx)⟩
  | next=>exact hq'.elim
  | brk=>exact hq'.elim
  | cont=>exact hq'.elim
def Eo (X:Cx)(pins:List (Addr×Obj))(σ:St)(H:Hp)(ea C:Addr)(od:Option Addr)(B:Heap)(s':Shared):Prop:=H ea=none/\∀ h2,lS B X.stack ea (.ref C) od h2->s'.heap.UpToSlots h2->au X pins σ H { s' with heap:=h2 }
theorem yR {X:Cx}{pins:List (Addr×Obj)}{σ:St}{H H':Hp}{s s':Shared}{ea C:Addr}{od:Option Addr}{B:Heap}(I:au X pins σ H s)(fl:lS B X.stack ea (.ref C) od s'.heap)(un:Un (iq X.stack) [] H H' s.heap s'.heap)(hok:iQ X.prog X.w H' s'.heap)(os:s'.os=s.os)(bare:AllBare s'.gens)
  (hsB:∀ b o,s.heap.get? b=some o->b∉iq X.stack->∃ o',B.get? b=some o') (trB:∀ b o,H' b=some o->∃ o',B.get? b=some o'):Eo X pins σ H' ea C od B s':=by
 refine⟨?_,fun h2 fl2 ups=>?_⟩
 ·cases e:H' ea with
  | none=>rfl
  | some o =>
   obtain⟨o',q⟩:=trB ea o e;rw[fl.2.1]at q;cases q
 have slot2:∀ b o,b∈iq X.stack->s.heap.get? b=some o->H b=none->∃ sl,h2.get? b=some { o with slots:=sl }:=fun b o hf e n=>by
  obtain⟨sl,e1⟩:=un.slot b o e n hf (by simp);obtain⟨_,o2,ho2,hnf⟩:=I.stack.mem hf
  have e2:o2=o:=by
   have:s.heap.get? b=some o2:=ho2;rw[e]at this;exact (Iy this).symm
  subst e2;obtain⟨sl2,e3⟩:=ups b _ e1 hnf;exact⟨sl2,e3⟩
 refine I.call' (ch:=[]) (s':={ s' with heap:=h2 }) os ?_ (xD hok fl.1 fl2.1 trB) bare fun b z=>absurd z (by simp);refine Co (h1:=s'.heap) un fl.1 fl2.1 hsB (fun b o hf e n=>slot2 b o hf e n) fun b o hf e=>?_;obtain⟨sl,q⟩:=slot2 b o hf e (I.stkFree b hf);exact⟨_,q⟩
def Cx.marked (X:Cx)(ea:Addr)(oe:Obj):Cx:={ X with A:=X.A.mark (some (.ref ea)),calm:=false,xe:=fun _ _=>False,pn:=(ea,oe)::X.pn }
theorem au.marked {X:Cx}{pins:List (Addr×Obj)}{σ:St}{H:Hp}{s:Shared}{ea:Addr}{oe:Obj}{us:Array Value}(I:au X pins σ H s)(he:s.heap.get? ea=some oe)(hd:oe.data=.fields us)(hn:H ea=none):au (X.marked ea oe) pins σ H s:=by
 refine⟨⟨I.ok.mod,I.ok.kind,I.ok.glob,I.ok.blt,I.ok.above,I.ok.inj,I.ok.has,I.ok.cab,fun z=>(by cases z),I.ok.frames,I.ok.stk,I.ok.exf,I.ok.bs,I.ok.bsz,I.ok.noex,I.ok.exfs,I.ok.funs,I.ok.frf⟩,I.os,I.bare,I.base,I.loc,I.cell,I.free,I.freeC,fun p hp=>?_,I.hok,I.len⟩;rcases IE.mp (show p∈(ea,oe)::(X.pn++pins) from hp) with z | z
 ·subst z
  refine⟨he,hn,fun z=>?_,fun z=>?_,fun v z=>?_⟩
  ·obtain⟨m,⟨o,es,ep,ho,hdd,_⟩,_⟩:=I.loc
   have z:ea=X.env.locals:=z;rw[<-z,he]at ho;cases ho;rw[hd]at hdd;cases hdd
  ·obtain⟨_,o,ho,nf⟩:=I.funs.mem z
   rw[he]at ho;cases ho;exact nf us hd
  ·have z:oe.data=.cell v:=z
   rw[hd]at z;cases z
 ·exact I.pin p z
theorem au.unmarked {X:Cx}{pins:List (Addr×Obj)}{σ:St}{H:Hp}{s:Shared}{ea:Addr}{oe:Obj}(ok:X.Ok)(I:au (X.marked ea oe) pins σ H s):au X pins σ H s :=
 ⟨ok,I.os,I.bare,I.base,I.loc,I.cell,I.free,I.freeC,fun p hp=>I.pin p (show p∈(ea,oe)::(X.pn++pins) from Iz _ hp),I.hok,I.len⟩
theorem SP.unmarked {X:Cx}{pins:List (Addr×Obj)}{D:hG}{f:Flow}{s':Shared}{ea:Addr}{oe:Obj}(ok:X.Ok)(h:SP (X.marked ea oe) pins D f s'):SP X pins D f s':=by
 cases f with
 | next=>obtain⟨σ',H',I,q⟩:=h;exact⟨σ',H',I.unmarked ok,q⟩
 | brk=>obtain⟨σ',H',I,q⟩:=h;exact⟨σ',H',I.unmarked ok,q⟩
 | cont=>obtain⟨σ',H',I,q⟩:=h;exact⟨σ',H',I.unmarked ok,q⟩
 | ret u=>obtain⟨v,σ',H',I,r,q⟩:=h;exact⟨v,σ',H',I.unmarked ok,r,q⟩
def CF (X:Cx)(hdl:List ExceptHandler)(th:Value->Option Addr->TS):Prop:=∀ (pins:List (Addr×Obj))(σ:St)(H:Hp)(D:hG)(ea C:Addr)(od:Option Addr)(B:Heap)(s':Shared)(h:Heap),Eo X pins σ H ea C od B s'->lS B X.stack ea (.ref C) od h->s'.heap.UpToSlots h->th (.ref C) od D σ H ->
 wpAny (model X.prog X.w) X.A (handleBy (.ref ea) X.env hdl) (SP X pins D) X.xe { s' with heap:=h }
theorem j6 {X:Cx}{pins:List (Addr×Obj)}{σ:St}{H:Hp}{s:Shared}{i:Nat}{n:Str}{pos:Pos}{E:Value->Shared->Prop}{Q:Unit->Shared->Prop}(I:au X pins σ H s)(hN:X.N.Nodup)(hi:X.N[i]? = some n)(hk:X.env.scope.names.lookup n=some .local)
  (h:∀ s',au X pins (σ.set i none) H s'->Q () s'):wpAny (model X.prog X.w) X.A (do bindName X.env n .none;unbindBehindTheSuite X.env n pos) Q E s:=by
 obtain⟨m,hn,hl⟩:=id I.loc
 have hcls:(X.env.scope.kind == .class||(X.env.scope.kind == .module&&X.env.locals != X.env.globals))=false:=by rw[I.ok.kind];rfl
 have cne:=I.cne;obtain⟨oL,_,_,hoL,_⟩:=id hn;refine wpAny_nameGoes_keeps hk hn hcls fun h' v hn' hs=>h _ ?_;refine⟨I.ok,I.os,I.bare,⟨fun b o e n hb hx=>?_,fun b o e n hb hx=>?_,I.base.free,fun b o e hx=>?_,I.base.tups,I.base.frzs,I.base.tbls⟩,⟨_,hn',fun j y v' e1 e2 e3=>?_⟩,fun y c e=>?_,I.free,I.freeC,fun p hp=>?_,fun b ob e=>?_,by simpa using I.len⟩
 ·exact (hs.2 b (IC (IQ (IA e) I.ok.above))).trans (I.base.keep b o e n hb hx)
 ·obtain⟨sl,e1⟩:=I.base.slot b o e n hb hx
  exact⟨sl,(hs.2 b (IC (IQ (IA e) I.ok.above))).trans e1⟩
 ·obtain⟨o',e1⟩:=I.base.there b o e hx
  exact⟨o',(hs.2 b (IC (IQ (IA e) I.ok.above))).trans e1⟩
 ·by_cases hj:j=i
  ·subst hj
   have hiσ:j<σ.length:=by rw[I.len];exact (List.getElem?_eq_some_iff.mp hi).1
   rw[List.getElem?_set_self hiσ]at e2;cases e2
  ·rw[List.getElem?_set_ne (IN hj)]at e2
   obtain⟨u',r',q⟩:=hl j y v' e1 e2 e3;refine⟨u',r',?_⟩;rcases q with ⟨k,e⟩ | ⟨k,c,e,z⟩
   ·refine .inl ⟨k,?_⟩
    have:y≠n:=fun e=>hj (qV hN e1 (e▸hi));simp[this,e]
   ·exact .inr ⟨k,c,e,z.sameBut hs (cne y c e)⟩
 ·obtain⟨w',z⟩:=I.cell y c e
  exact⟨w',z.sameBut hs (cne y c e)⟩
 ·obtain⟨e,n,ne,nf,d⟩:=I.pin p hp
  exact⟨(hs.2 p.1 ne).trans e,n,ne,nf,d⟩
 ·refine (I.hok b ob e).stay (fun c w' hc q=>(hs.2 c ?_).trans q) (fun _ q=>q) fun _ _ q=>q
  rintro rfl;rcases hc with hc | hc
  ·rw[<-hc,I.free]at e;cases e
  ·rw[I.free]at hc;cases hc
def A5 (i:Nat)(D:hG):hG:={ nx:=fun σ H=>D.nx (σ.set i none) H,rt:=D.rt,bk:=fun σ H=>D.bk (σ.set i none) H,ct:=fun σ H=>D.ct (σ.set i none) H }
theorem mO {X:Cx}{y:Str}{C1:Addr}{b0:Stmt}{suite:List Stmt}{t1:TS}{th:Value->Option Addr->TS}{np pos:Pos}{rest:List ExceptHandler}(hg:Gl X y)(hm:X.mg y=some (.ref C1))(hs:∀ ea oe,vk (X.marked ea oe) (b0::suite) t1)(hr:CF X rest th)
  (hdb:(y == ("__debug__" : Str))=false:=by decide):CF X (.ExceptHandler (some (.Name y np)) none (b0::suite) pos::rest) (fun cls od D σ H=>∃ b,PySem.W.exmOne X.K cls (.ref C1)=some b/\if b=true then t1 D σ H else th cls od D σ H):=by
 intro pins σ H D ea C od B s' h ld fl ups ht;obtain⟨b,hb,ht⟩:=ht;have I:=ld.2 h fl ups;obtain⟨ob,us,hob,hobc,hobd,hobf⟩:=fl.obj;have Im:=I.marked (ea:=ea) hob hobf ld.1
 have LT:PySem.W.Looks (model X.prog X.w) h (typeOf (.ref ea)) (.ref C):=by
  rw[<-hobc];exact (PySem.W.Looks.ld hob).andThen .now
 refine wpAny_handleBy_cons (codeAny_handlers_test (fJ (X:=X.marked ea ob) Im hg hm ?_ hdb)) (by intro z;cases z);refine (PySem.W.exm_one (K:=X.K) I.kIn LT hb).here ?_
 cases b with
 | true =>
  rw[Iq rfl]at ht;refine codeAny_handlers_suite ?_;refine mw fl fun h6 fl6 ups6=>?_;obtain⟨oe,us6,hoe,hoec,hoed,hoef⟩:=fl6.obj;have I6:=(ld.2 h6 fl6 (ups.trans ups6)).marked (ea:=ea) hoe hoef ld.1;exact IS (hs ea oe pins _ σ H D I6 ht) (fun f s2 hq=>hq.unmarked I.ok) fun _ _ z=>z.elim
 | false =>
  rw[Ip Iw]at ht;exact hr pins σ H D ea C od B s' h ld fl ups ht
theorem BN {X:Cx}:CF X [] (fun _ _ _ _ _=>False):=fun _ _ _ _ _ _ _ _ _ _ _ _ _ h=>h.elim
theorem Gh {X:Cx}{y n:Str}{i:Nat}{C1:Addr}{b0:Stmt}{suite:List Stmt}{t1:Addr->Addr->Option Addr->TS}{th:Value->Option Addr->TS}{np pos:Pos}{rest:List ExceptHandler}(hg:Gl X y)(hm:X.mg y=some (.ref C1))
  (hN:X.N.Nodup) (hi:X.N[i]? = some n) (hk:X.env.scope.names.lookup n=some .local) (hs:∀ ea oe C od us,oe.cls=.ref C->oe.dict=od->oe.data=.fields us->vk (X.marked ea oe) (b0::suite) (t1 ea C od)) (hr:CF X rest th)
  (hdb:(y == ("__debug__" : Str))=false:=by decide):CF X (.ExceptHandler (some (.Name y np)) (some n) (b0::suite) pos::rest) (fun cls od D σ H=>∃ b,PySem.W.exmOne X.K cls (.ref C1)=some b/\if b=true then ∃ C,cls=.ref C/\∀ ea,t1 ea C od (A5 i D) (σ.set i (some (.ref ea))) H else th cls od D σ H):=by
 intro pins σ H D ea C od B s' h ld fl ups ht;obtain⟨b,hb,ht⟩:=ht;have I:=ld.2 h fl ups;obtain⟨ob,us,hob,hobc,hobd,hobf⟩:=fl.obj;have Im:=I.marked (ea:=ea) hob hobf ld.1
 have LT:PySem.W.Looks (model X.prog X.w) h (typeOf (.ref ea)) (.ref C):=by
  rw[<-hobc];exact (PySem.W.Looks.ld hob).andThen .now
 refine wpAny_handleBy_cons (codeAny_handlers_test (fJ (X:=X.marked ea ob) Im hg hm ?_ hdb)) (by intro z;cases z);refine (PySem.W.exm_one (K:=X.K) I.kIn LT hb).here ?_
 cases b with
 | true =>
  rw[Iq rfl]at ht;obtain⟨C',eC,ht⟩:=ht;cases eC;refine codeAny_handlers_suite_as ?_;refine mw fl fun h6 fl6 ups6=>?_;obtain⟨oe,us6,hoe,hoec,hoed,hoef⟩:=fl6.obj;have I6:=(ld.2 h6 fl6 (ups.trans ups6)).marked (ea:=ea) hoe hoef ld.1;refine ny (X:=X.marked ea oe) (v:=.ref ea) I6 hN hi (.inl hk) rfl (fun s7 I7=>?_) (.inr hk);refine IS (hs ea oe C od us6 hoec hoed hoef pins s7 _ H (A5 i D) I7 (ht ea)) (fun f s8 hq=>?_) fun _ _ z=>z.elim;have hq:=hq.unmarked I.ok
  cases f with
  | next=>obtain⟨σ',H',I8,q⟩:=hq;exact j6 I8 hN hi hk fun s9 I9=>⟨_,H',I9,q⟩
  | brk=>obtain⟨σ',H',I8,q⟩:=hq;exact j6 I8 hN hi hk fun s9 I9=>⟨_,H',I9,q⟩
  | cont=>obtain⟨σ',H',I8,q⟩:=hq;exact j6 I8 hN hi hk fun s9 I9=>⟨_,H',I9,q⟩
  | ret u=>obtain⟨v,σ',H',I8,r,q⟩:=hq;exact j6 I8 hN hi hk fun s9 I9=>⟨v,_,H',I9,r,q⟩
 | false =>
  rw[Ip Iw]at ht;exact hr pins σ H D ea C od B s' h ld fl ups ht
theorem EW {X:Cx}{e:Expr}{f:Str}{pos:Pos}{te:TE}{ea C:Addr}{oe:Obj}{od:Option Addr}{us:Array Value}(hp:(ea,oe)∈X.pn)(hc:oe.cls=.ref C)(ho:oe.dict=od)(hd:oe.data=.fields us)(hv:PE X e te)(hb:attributeBase e f X.env (eval e X.env)=eval e X.env) :
  PE X (.Attribute e f pos) (fun σ H Q=>te σ H fun x H1=>x=.ref ea/\FK X.K C f/\∃ dx fs v,od=some dx/\H1 dx=some (.xd fs)/\fs.lookup f=some v/\Q v H1):=by
 intro pins s σ H Q I h;refine yD hb (bx (hv pins s σ H _ I h) fun u s1 ⟨x,H1,I1,rx,ex,c,dx,fs,v,eo,hx,l,q⟩=>?_);subst ex;obtain rfl:u=Value.ref ea:=rx;obtain⟨mA,hns,hr⟩:=(show bo X.prog X.w H1 s1.heap dx (.xd fs) from I1.hok dx _ hx);obtain⟨u,hu,ru⟩:=ie.some_of (v:=v) (o:=mA f) (by rw[<-l];exact hr f);exact EN I1.kIn c (I1.pin _ (JG _ hp)).1 hc (ho.trans eo) hd hns hu (tF ru) ⟨v,H1,I1.tok _,ru,q⟩
theorem Ds {X:Cx}(K:PySem.W.Frag){e:Expr}{f:Str}{pos:Pos}{te:TE}{ea C:Addr}{oe:Obj}{od:Option Addr}{us:Array Value}(hp:(ea,oe)∈X.pn)(hc:oe.cls=.ref C)(ho:oe.dict=od)(hd:oe.data=.fields us)(hv:PE X e te)(hb:attributeBase e f X.env (eval e X.env)=eval e X.env)(hK:X.K=K:=by rfl) :
  PE X (.Attribute e f pos) (fun σ H Q=>te σ H fun x H1=>x=.ref ea/\FK K C f/\∃ dx fs v,od=some dx/\H1 dx=some (.xd fs)/\fs.lookup f=some v/\Q v H1):=by subst hK;exact EW hp hc ho hd hv hb
def Ea (sp:Sp)(t:TA)(i:Nat)(th:Value->Option Addr->TS):TS:=fun D σ H=>t σ H fun vs H1=>sp vs H1 (fun v H2=>D.nx (σ.set i (some v)) H2) (fun cls od H2=>th cls od D σ H2)
theorem ya {X:Cx}{k:Nat}{f:Addr}{fd:FuncData}{ps:List Str}{sp:Sp}{i:Nat}{x fn:Str}{e:Expr}{es:List Expr}{t:TA}{hd0:ExceptHandler}{hdl:List ExceptHandler}{th:Value->Option Addr->TS}{px p cpos spos pos:Pos}
  (G:bd X.prog X.w X.K X.mg X.base (fb X.prog X.w) k f fd ps sp) (hr:cu k X.A) (hg:Gl X fn) (hm:X.mg fn=some (.ref f)) (hk:PySem.W.keepIn X.K (.ref f)=true) (hb:eU X.K fd ps []) (ha:PA X.nox (e::es) t)
  (hst:X.stack=X.env::X.outer) (hfr:X.env.frame=some X.env.locals) (hN:X.N.Nodup) (hi:X.N[i]? = some x) (hx:DS X.env.scope x) (hh:CF X (hd0::hdl) th)
  (hs:swapsWith (.Call (.Name fn p) (e::es) [] cpos) (some (.Name x px)) spos.line X.env=pure false:=by rfl) (hf:X.fn x=true\/X.env.scope.names.lookup x=some .local:=by first | exact .inl rfl | exact .inr rfl | assumption)
  (hdb:(fn == ("__debug__" : Str))=false:=by decide) (he:starEach (e::es) X.env=(false,eval e X.env)::starEach es X.env:=by rfl) (hpl:(backTo cpos (starEach es X.env)).any (·.1)=false:=by rfl) :
  PS X (.Try [.Assign [.Name x px] (.Call (.Name fn p) (e::es) [] cpos) spos] (hd0::hdl) [] [] pos) (Ea sp t i th):=by
 intro pins s σ H D I h;refine wpAny_Try_except ?_;refine wpAny_execs_cons ?_;refine wpAny_Assign_Name ?_ hs;refine JE (fJ I hg hm ?_ hdb);refine KA (h₀:=X.base) I.ok.mod.kin hk (IS (ha cpos pins s σ H _ (I.wish _) h) (fun us s1 ⟨vs,H1,I1,r,q⟩=>⟨I1.unwish.kIn,?_⟩) fun _ _ z=>z.elim) he hpl;have I1:=I1.unwish
 have hl:us.length=ps.length:=by rw[<-r.length];exact G.len _ _ _ _ q
 have hb':=hb s1 us I1.kIn (by rw[List.append_nil];exact hl);rw[List.append_nil]at hb';refine Ka (JH (G.run X.A X.stack s1 H1 ⟨us,[]⟩ us vs _ _ hr I1.env0 hb' r q) fun rs s' hq=>?_)
 cases rs with
 | error er =>
  obtain⟨ea,C,od,H',B,rfl,fl,un,hok,os,bare,hsB,trB,hE⟩:=hq;have ld:=yR I1 fl un hok os bare hsB trB;have fl':=fl;rw[hst]at fl';refine tQ (by rw[I.ok.frames,hst]) hfr fl' fun h4 held ups4=>?_;refine Bk held fun h5 fl5 ups5=>?_;rw[<-hst]at fl5;exact hh pins σ H' D ea C od B s' h5 ld fl5 (ups4.trans ups5) hE
 | ok fl =>
  cases fl with
  | ret u =>
   obtain⟨v,H2,I2,rv,q2⟩:=I1.after hq;exact ny I2 hN hi hx rv (fun s3 I3=>Kz (Kz ⟨_,H2,I3,q2⟩)) hf
  | next=>exact False.elim hq
  | brk=>exact False.elim hq
  | cont=>exact False.elim hq
theorem d6.okX {P:Program}{w:World}{K:PySem.W.Frag}{mg:Str->Option Value}{base:Heap}{x qual:Str}{st:Stmt}{f:Addr}{fd:FuncData}{N ps:List Str}{k:Nat}{sp:Sp}(F:d6 K x qual st f fd)(S:av N ps (ao st))(len:∀ vs H Q E,sp vs H Q E->vs.length=ps.length)
  (hbody:∀ (cdv:Value)(A:Around)(outer:List Env)(s:Shared)(H:Hp)(vs:List V)(Q:VK)(E:XK),cu k (A.deeper (envOfC qual (ao st) s.heap.objs.size f cdv))->sp vs H Q E ->
   ∃ t,vk (pG (fb P w) P w K mg base N qual (ao st) f cdv A outer s H E) (dz st) t/\t { nx:=fun _ H'=>Q .non H',rt:=Q } (kU N vs) H):bd P w K mg base (fb P w) (k+1) f fd ps sp:=by
 obtain⟨oc,od,kV,doc,pm,an,cdv,ct,osl,rfl,lk,hcd⟩:=F.ex;exact A4 lk hcd S len fun A outer s H vs Q E hr hsp=>hbody cdv A outer s H vs Q E hr hsp
def PJ (X:Cx)(es:List Expr)(t:TA):Prop:=∀ (out:Str)(m:Nat)(pins:List (Addr×Obj))(s:Shared)(σ:St)(H:Hp)(Q:VK),out.length<=1000*m->m+es.length<=100->au X pins σ H s->t σ H (fun _ H'=>∀ x:Str,Q (.str x) H')->wpAny (model X.prog X.w) X.A (joinParts out (evalEach es X.env)) (EP X pins σ Q) X.xe s
theorem rq {X:Cx}:PJ X [] rT:=by
 intro out m pins s σ H Q ho hm I h;refine joinParts_nil ⟨.str out,H,I.tok _,⟨_,rfl⟩,h out⟩ ?_;exact Jb ho (Jb (Nat.mul_le_mul_left 1000 (show m<=100 by simpa using hm)) (by decide))
def tJ (te:TE)(t:TA):TA:=fun σ H Q=>te σ H fun x H1=>∃ y:Str,x=.str y/\y.length<=1000/\t σ H1 Q
theorem dF {X:Cx}{e:Expr}{es:List Expr}{te:TE}{t:TA}(he:PE X e te)(h:PJ X es t):PJ X (e::es) (tJ te t):=by
 intro out m pins s σ H Q ho hm I hq
 show wpAny _ _ (joinParts out (eval e X.env::evalEach es X.env)) _ _ s
 refine joinParts_cons (bx (he pins s σ H _ I hq) fun u s1 ⟨x,H1,I1,rx,y,ex,hy,q1⟩=>?_);subst ex;obtain⟨tk,rfl⟩:=rx
 have hl:(out++y).length<=1000*(m+1):=by rw[strLen_append];omega
 rw[Jc]at hm;refine⟨Jb hl (Jb (Nat.mul_le_mul_left 1000 (show m+1<=100 by omega)) (by decide)),?_⟩;exact h (out++y) (m+1) pins s1 σ H1 Q hl (by omega) I1 q1
def Ic (t:TA):TE:=fun σ H Q=>t σ H fun _ H'=>∀ x:Str,Q (.str x) H'
theorem mK {X:Cx}{e1 e2:Expr}{es:List Expr}{t:TA}{pos:Pos}(h:PJ X (e1::e2::es) t)(hn:(e1::e2::es).length<=100:=by decide):PE X (.JoinedStr (e1::e2::es) pos) (Ic t):=by
 intro pins s σ H Q I hq;refine JoinedStr_many ?_;exact h Str.empty 0 pins s σ H Q (by show 0<=_;exact IX _) (by simpa using hn) I hq
def Ib (te:TE):TE:=fun σ H Q=>te σ H fun x H1=>∃ i:Int,x=.int i/\i.natAbs<10 ^ 100/\∀ y:Str,y.length<=1000->Q (.str y) H1
theorem i7 {X:Cx}{e:Expr}{te:TE}{pos:Pos}(he:PE X e te):PE X (.FormattedValue e (-1) none pos) (Ib te):=by
 intro pins s σ H Q I h;refine FormattedValue_plain (bx (he pins s σ H _ I h) fun u s1 ⟨x,H1,I1,rx,i,ex,hi,q⟩=>?_);subst ex;obtain⟨tk,rfl⟩:=rx
 have hd:i.natAbs.log2<1920:=by
  by_cases h0:i.natAbs=0
  ·rw[h0];decide
  ·exact (Nat.log2_lt h0).mpr (IQ hi (by decide +kernel))
 refine wpAny_formatField_int hd ⟨.str (toString i),H1,I1.tok _,⟨_,rfl⟩,q _ ?_⟩;have:=PySem.int_text_length_le10 (a:=i) (k:=100) (by decide) hi
 show (Str.ofString (toString i)).length<=1000
 rw[PySem.ofString_length];omega
end L2
namespace Wz
open PySem L2
def ar (P:Program)(w:World)(K:PySem.W.Frag)(mg:Str->Option Value)(base:Heap)(CX:sQ)(C:Addr)(m:Str)(k:Nat)(ps:List Str)(sp:Sp):Prop :=
 ∃ (f:Addr)(fd:FuncData),bd P w K mg base CX k f fd ps sp/\CD K C m f/\eU K fd ps []
def de (P:Program)(w:World)(K:PySem.W.Frag)(mg:Str->Option Value)(base:Heap)(x:Str)(k:Nat)(ps:List Str)(sp:Sp):Prop :=
 ∃ (f:Addr)(fd:FuncData),bd P w K mg base (fb P w) k f fd ps sp/\mg x=some (.ref f)/\PySem.W.keepIn K (.ref f)=true/\eU K fd ps []
section
variable {X:Cx}{CX:sQ}{k:Nat}{C:Addr}{ps:List Str}{sp:Sp}{E:XK}{m x:Str}{p pos apos:Pos}{e o:Expr}{es:List Expr}{ta:TE}{t:TA}
theorem c8 {pl:Sem Bool}(M:ar X.prog X.w X.K X.mg X.base CX C m k ps sp)(he:PE X o ta)(c:yx X.K C)(hr:cu k X.A)(hx:d9 CX X E)(ha:PA X (e::es) t)
  (hst:starEach (e::es) X.env=(false,eval e X.env)::starEach es X.env:=by rfl) (hpl:(backTo pos (starEach es X.env)).any (·.1)=false:=by rfl)
  (ht:eval (.Call (.Attribute o m apos) (e::es) [] pos) X.env=(do
   let ov <-eval o X.env
   standAt apos.atName
   let (f,first) <-holding [ov] (getMethod ov m pl)
   callWith pos f first (backTo pos (starEach (e::es) X.env)) (backToKw pos (keywordEach [] X.env))):=by rfl) :
  PE X (.Call (.Attribute o m apos) (e::es) [] pos) (wV C m sp [] E ta t):=by
 obtain⟨f,fd,G,hm,hb⟩:=M;exact Du he c hm G hr hb .nil hx ha hst hpl ht
theorem lE {pl:Sem Bool}(M:ar X.prog X.w X.K X.mg X.base CX C m k ps sp)(he:PE X o ta)(c:yx X.K C)(hr:cu k X.A)(hx:d9 CX X E)
  (ht:eval (.Call (.Attribute o m apos) [] [] pos) X.env=(do
   let ov <-eval o X.env
   standAt apos.atName
   let (f,first) <-holding [ov] (getMethod ov m pl)
   callWith pos f first (backTo pos (starEach [] X.env)) (backToKw pos (keywordEach [] X.env))):=by rfl) :
  PE X (.Call (.Attribute o m apos) [] [] pos) (wV C m sp [] E ta rT):=by
 obtain⟨f,fd,G,hm,hb⟩:=M;exact BI he c hm G hr hb .nil hx ht
theorem uW (M:de X.prog X.w X.K X.mg X.base x k ps sp)(hr:cu k X.A)(hg:Gl X x)(hx:d9 (fb X.prog X.w) X E)(ha:PA X (e::es) t)
  (hdb:(x == ("__debug__" : Str))=false:=by decide) (he:starEach (e::es) X.env=(false,eval e X.env)::starEach es X.env:=by rfl) (hpl:(backTo pos (starEach es X.env)).any (·.1)=false:=by rfl) :
  PE X (.Call (.Name x p) (e::es) [] pos) (Cg sp [] E t):=by
 obtain⟨f,fd,G,hm,hk,hb⟩:=M;exact y3 G hr hg hm hk hb .nil hx ha hdb he hpl
theorem Hc {X:Cx}{k:Nat}{ps:List Str}{sp:Sp}{i:Nat}{x fn:Str}{e:Expr}{es:List Expr}{t:TA}{hd0:ExceptHandler}{hdl:List ExceptHandler}{th:Value->Option Addr->TS}{px p cpos spos pos:Pos}
  (M:de X.prog X.w X.K X.mg X.base fn k ps sp) (hr:cu k X.A) (hg:Gl X fn) (ha:PA X.nox (e::es) t)
  (hst:X.stack=X.env::X.outer) (hfr:X.env.frame=some X.env.locals) (hN:X.N.Nodup) (hi:X.N[i]? = some x) (hx:DS X.env.scope x) (hh:CF X (hd0::hdl) th)
  (hs:swapsWith (.Call (.Name fn p) (e::es) [] cpos) (some (.Name x px)) spos.line X.env=pure false:=by rfl) (hf:X.fn x=true\/X.env.scope.names.lookup x=some .local:=by first | exact .inl rfl | exact .inr rfl | assumption)
  (hdb:(fn == ("__debug__" : Str))=false:=by decide) (he:starEach (e::es) X.env=(false,eval e X.env)::starEach es X.env:=by rfl) (hpl:(backTo cpos (starEach es X.env)).any (·.1)=false:=by rfl) :
  PS X (.Try [.Assign [.Name x px] (.Call (.Name fn p) (e::es) [] cpos) spos] (hd0::hdl) [] [] pos) (Ea sp t i th):=by
 obtain⟨f,fd,G,hm,hk,hb⟩:=M;exact ya G hr hg hm hk hb ha hst hfr hN hi hx hh hs hf hdb he hpl
end
inductive aD where
 | come (g:Int) | go (g:Int) | exch (a b:Int)
 deriving DecidableEq
def cI:aD->HO
 | .come g=>.tup [.str "come",.int g]
 | .go g=>.tup [.str "go",.int g]
 | .exch a b=>.tup [.str "exchange",.int a,.int b]
structure bO where
 worn:List (Int×Int)
 hold:List (Int×Int)
 circ:List (Int×List Int)
 deeds:List aD
def bS:List Addr->List (Int×List Int)->List (bV×V)
 | a::as,x::xs=>(Sum.inl x.1,V.ref a)::bS as xs
 | _,_=>[]
def qM (ks:List Int):List (bV×V):=ks.map fun k=>(Sum.inl k,V.bl true)
structure HA where
 dx:Addr
 w:Addr
 h:Addr
 c:Addr
 d:Addr
 cs:List Addr
def HA.fp (A:HA):List Addr:=A.w::A.h::A.c::A.d::A.cs
def aH (A:HA):List (Str×V):=eI "deeds" (.ref A.d) (eI "circles" (.ref A.c) (eI "holders" (.ref A.h) (eI "worn" (.ref A.w) [])))
theorem s1:¬ (("worn" : Str)="holders"):=by decide +kernel
theorem s2:¬ (("worn" : Str)="circles"):=by decide +kernel
theorem s3:¬ (("worn" : Str)="deeds"):=by decide +kernel
theorem s4:¬ (("holders" : Str)="circles"):=by decide +kernel
theorem s5:¬ (("holders" : Str)="deeds"):=by decide +kernel
theorem s6:¬ (("circles" : Str)="deeds"):=by decide +kernel
theorem vK (A:HA):(aH A).lookup ("worn" : Str)=some (.ref A.w):=by
 unfold aH;rw[bg,Ip s3,bg,Ip s2,bg,Ip s1,bg,Iq rfl]
theorem Bc (A:HA):(aH A).lookup ("holders" : Str)=some (.ref A.h):=by
 unfold aH;rw[bg,Ip s5,bg,Ip s4,bg,Iq rfl]
theorem Bb (A:HA):(aH A).lookup ("circles" : Str)=some (.ref A.c):=by
 unfold aH;rw[bg,Ip s6,bg,Iq rfl]
theorem zS (A:HA):(aH A).lookup ("deeds" : Str)=some (.ref A.d):=by
 unfold aH;rw[bg,Iq rfl]
theorem kL (A:HA){m:Str}(h1:¬ m="worn")(h2:¬ m="holders")(h3:¬ m="circles")(h4:¬ m="deeds"):(aH A).lookup m=none:=by
 unfold aH;rw[bg,Ip h4,bg,Ip h3,bg,Ip h2,bg,Ip h1];rfl
theorem l7 (A:HA) {m:Str} (h:¬ m="worn"/\¬ m="holders"/\¬ m="circles"/\¬ m="deeds"):(aH A).lookup m=none:=kL A h.1 h.2.1 h.2.2.1 h.2.2.2
def aU (H:Hp)(d:Addr)(ds:List aD):Prop:=∃ as:List Addr,H d=some (.lst (as.map V.ref))/\Paired (fun a x=>H a=some (cI x)) as ds
structure az (C:Addr)(H:Hp)(p:Addr)(A:HA)(st:bO):Prop where
 ob:H p=some (.ins C A.dx (aH A))
 nd:A.fp.Nodup
 w:H A.w=some (.dK (dk st.worn))
 h:H A.h=some (.dK (dk st.hold))
 c:H A.c=some (.dK (bS A.cs st.circ))
 cs:Paired (fun a (x:Int×List Int)=>H a=some (.dK (qM x.2))) A.cs st.circ
 d:aU H A.d st.deeds
def Kp (fp:List Addr)(H H':Hp):Prop:=∀ b o,H b=some o->b∉fp->H' b=some o
theorem Kp.of_same {fp:List Addr}{H H':Hp}(s:aA H H'):Kp fp H H':=fun b o e _=>s b o e
theorem Kp.trans {fp fp':List Addr}{H H1 H2:Hp}(a:Kp fp H H1)(b:Kp fp' H1 H2)(h:∀ x∈fp',x∈fp\/H x=none):Kp fp H H2:=fun x o e n =>
 b x o (a x o e n) fun z=>(h x z).elim n fun y=>by rw[e]at y;cases y
theorem bq {H H':Hp}{d:Addr}{ds:List aD}(r:aU H d ds)(s:aA H H'):aU H' d ds:=by
 obtain⟨as,h,p⟩:=r;exact⟨as,s _ _ h,Paired.mapP p fun a q z=>s _ _ z⟩
theorem az.mono {C:Addr}{H H':Hp}{p:Addr}{A:HA}{st:bO}(x:az C H p A st)(s:aA H H'):az C H' p A st :=
 ⟨s _ _ x.ob,x.nd,s _ _ x.w,s _ _ x.h,s _ _ x.c,Paired.mapP x.cs fun a q z=>s _ _ z,bq x.d s⟩
theorem az.kept {C:Addr}{H H':Hp}{p:Addr}{A:HA}{st:bO}{fp:List Addr}(x:az C H p A st)(k:Kp fp H H')(hp:p∉fp)(hd:∀ b∈A.fp,b∉fp)(ht:∀ b xs,H b=some (.tup xs)->b∉fp):az C H' p A st:=by
 have m:∀ b∈A.fp,∀ o,H b=some o->H' b=some o:=fun b hb o e=>k b o e (hd b hb);refine⟨k _ _ x.ob hp,x.nd,m _ (by simp[HA.fp]) _ x.w,m _ (by simp[HA.fp]) _ x.h,m _ (by simp[HA.fp]) _ x.c,?_,?_⟩
 ·have:∀ (cs:List Addr)(ci:List (Int×List Int)),(∀ b∈cs,b∈A.fp)->Paired (fun a (x:Int×List Int)=>H a=some (.dK (qM x.2))) cs ci->Paired (fun a (x:Int×List Int)=>H' a=some (.dK (qM x.2))) cs ci:=by
   intro cs ci hc hp
   induction hp with
   | nil=>exact .nil
   | cons e _ ih=>exact .cons (m _ (hc _ IJ) _ e) (ih fun b hb=>hc b (Iz _ hb))
  exact this _ _ (fun b hb=>by simp[HA.fp,hb]) x.cs
 ·obtain⟨as,h,hp⟩:=x.d
  refine⟨as,m _ (by simp[HA.fp]) _ h,Paired.mapP hp fun a q z=>?_⟩
  cases q with
  | come g=>exact k _ _ z (ht _ _ z)
  | go g=>exact k _ _ z (ht _ _ z)
  | exch a b=>exact k _ _ z (ht _ _ z)
def cB (l:List (Int×Int))(g:Int):List (Int×Int):=l.filter fun p=>decide (p.1≠g)
theorem qB (l:List (Int×Int))(g:Int):qA (dk l) (Sum.inl g:bV)=dk (cB l g):=by
 unfold qA dk cB;rw[List.filter_map]
 congr 1
 apply List.filter_congr
 intro p _;simp[Function.comp]
theorem dZ (l:List (Int×Int))(g h:Int):look (cB l g) h=if h=g then none else look l h:=by
 induction l with
 | nil=>simp[cB,look]
 | cons p r ih =>
  unfold cB at ih ⊢;rw[List.filter_cons]
  by_cases e:p.1=g
  ·rw[Ip (by simp[e]),ih]
   by_cases hh:h=g
   ·simp[hh]
   ·have:¬ p.1=h:=fun z=>hh (z.symm.trans e)
    simp[hh,look,this]
  ·rw[Iq (by simp[e])]
   show (if p.1=h then some p.2 else look _ h)=_
   rw[ih]
   by_cases hh:h=g
   ·subst hh;simp[e]
   ·simp[hh,look]
theorem om {l:List (Int×Int)}{g h:Int}:h∈ay (cB l g)↔h∈ay l/\h≠g:=by
 rw[<-cE,dZ,<-cE]
 by_cases e:h=g<;>simp[e]
inductive rY where
 | done | already | masked | same | met | noguest (g:Int)
 deriving DecidableEq
def iL:List (Int×List Int)->Int->List Int
 | [],_=>[]
 | x::r,g=>if x.1=g then x.2 else iL r g
def iZ (c:List (Int×List Int))(a b:Int):Bool:=decide (b∈iL c a)
def ko (ks:List Int)(b:Int):List Int:=if b∈ks then ks else ks++[b]
def ca:List (Int×List Int)->Int->Int->List (Int×List Int)
 | [],a,b=>[(a,[b])]
 | x::r,a,b=>if x.1=a then (x.1,ko x.2 b)::r else x::ca r a b
def aK (st:bO):aD->rY
 | .come g=>if (look st.worn g).isSome then .already else .done
 | .go g=>match look st.worn g with | none=>.noguest g | some m=>if m=g then .done else .masked
 | .exch a b=>match look st.worn a with
  | none=>.noguest a
  | some _=>match look st.worn b with
   | none=>.noguest b
   | some _=>if a=b then .same else if iZ st.circ a b then .met else .done
def after (st:bO):aD->bO
 | .come g=>{ worn:=put st.worn g g,hold:=put st.hold g g,circ:=st.circ,deeds:=st.deeds++[.come g] }
 | .go g=>{ worn:=cB st.worn g,hold:=cB st.hold g,circ:=st.circ,deeds:=st.deeds++[.go g] }
 | .exch a b=>{ worn:=put (put st.worn a (wr st.worn b)) b (wr st.worn a),hold:=put (put st.hold (wr st.worn b) a) (wr st.worn a) b,circ:=ca (ca st.circ a b) b a,deeds:=st.deeds++[.exch a b] }
def names:aD->List Int
 | .come g=>[g]
 | .go g=>[g]
 | .exch a b=>[a,b]
def bK (g:Int):Prop:=g.natAbs<10 ^ 100
structure zA (st:bO):Prop where
 w:st.worn.length<1000
 h:st.hold.length<1000
 c:st.circ.length<1000
 k:∀ x∈st.circ,x.2.length<1000
 d:st.deeds.length<1000
structure HX where
 C:Addr
 cW:Addr
 cA:Addr
 cM:Addr
 cS:Addr
 cT:Addr
 cN:Addr
 fN:Addr
def fV (c:HX)(E:XK)(H:Hp):rY->Prop
 | .done=>False
 | .already=>∀ H',aA H H'->E (.ref c.cA) none H'
 | .masked=>∀ H',aA H H'->E (.ref c.cM) none H'
 | .same=>∀ H',aA H H'->E (.ref c.cS) none H'
 | .met=>∀ H',aA H H'->E (.ref c.cT) none H'
 | .noguest g=>∀ dx H',aA H H'->H' dx=some (.xd [("guest",.int g)])->E (.ref c.cN) (some dx) H'
def Tr (H H':Hp):Prop:=∀ b o,H b=some o->∃ o',H' b=some o'
theorem Tr.refl {H:Hp}:Tr H H:=fun _ o e=>⟨o,e⟩
theorem Tr.trans {H H1 H2:Hp}(a:Tr H H1)(b:Tr H1 H2):Tr H H2:=fun x o e=>let ⟨o',e'⟩:=a x o e;b x o' e'
theorem Tr.of_same {H H':Hp}(s:aA H H'):Tr H H':=fun b o e=>⟨o,s b o e⟩
theorem Tr.upd {H H1:Hp}(a:Tr H H1)(x:Addr)(u:HO):Tr H (upd H1 x u):=fun b o e=>by
 by_cases h:b=x
 ·exact⟨u,by rw[h,af]⟩
 ·obtain⟨o',e'⟩:=a b o e
  exact⟨o',by rw[ag h];exact e'⟩
theorem Tr.free {H H':Hp}(a:Tr H H'){b:Addr}(h:H' b=none):H b=none:=by
 cases e:H b with
 | none=>rfl
 | some o=>obtain⟨o',e'⟩:=a b o e;rw[h]at e';cases e'
def eV (C:Addr)(H:Hp)(p:Addr)(A:HA)(st':bO)(H':Hp):Prop:=∃ A':HA,az C H' p A' st'/\Kp A.fp H H'/\(∀ b∈A'.fp,b∈A.fp\/H b=none)/\Tr H H'
def nF (c:HX)(H:Hp)(p:Addr)(A:HA)(st:bO)(d:aD)(Q:VK)(E:XK):Prop :=
 if aK st d=.done then ∀ H',eV c.C H p A (after st d) H'->Q .non H' else fV c E H (aK st d)
inductive zi (C:Addr) (vs:List V) (H:Hp) (Q:VK) (E_:XK):Prop
 | mk (p dx:Addr) (h_0:vs=[.ref p]) (h_1:H p=some (.ins C dx [])) (h_2:∀ (A:HA)(H':Hp),az C H' p A ⟨[],[],[],[]⟩->(∀ b o,H b=some o->b≠p->H' b=some o)->(∀ b∈A.fp,H b=none)->Q .non H'):zi C vs H Q E_
inductive oK (c:HX) (vs:List V) (H:Hp) (Q:VK) (E:XK):Prop
 | mk (p:Addr) (A:HA) (st:bO) (g:Int) (h_0:vs=[.ref p,.int g]) (h_1:az c.C H p A st) (h_2:zA st) (h_3:bK g) (h_4:nF c H p A st (.come g) Q E):oK c vs H Q E
inductive Az (c:HX) (vs:List V) (H:Hp) (Q:VK) (E:XK):Prop
 | mk (p:Addr) (A:HA) (st:bO) (g:Int) (h_0:vs=[.ref p,.int g]) (h_1:az c.C H p A st) (h_2:zA st) (h_3:bK g) (h_4:(∀ m,look st.worn g=some m->bK m/\(m=g->(look st.hold g).isSome))) (h_5:nF c H p A st (.go g) Q E):Az c vs H Q E
inductive ja (c:HX) (vs:List V) (H:Hp) (Q:VK) (E:XK):Prop
 | mk (p:Addr) (A:HA) (st:bO) (a b:Int) (h_0:vs=[.ref p,.int a,.int b]) (h_1:az c.C H p A st) (h_2:zA st) (h_3:bK a) (h_4:bK b) (h_5:nF c H p A st (.exch a b) Q E):ja c vs H Q E
inductive kf (C:Addr) (vs:List V) (H:Hp) (Q:VK) (E_:XK):Prop
 | mk (p:Addr) (A:HA) (st:bO) (g m:Int) (h_0:vs=[.ref p,.int g,.int m]) (h_1:az C H p A st) (h_2:st.worn.length<2000) (h_3:st.hold.length<2000) (h_4:Q .non (upd (upd H A.w (.dK (dk (put st.worn g m)))) A.h (.dK (dk (put st.hold m g))))):kf C vs H Q E_
inductive jd (c:HX) (vs:List V) (H:Hp) (Q:VK) (E:XK):Prop
 | mk (p:Addr) (A:HA) (st:bO) (g:Int) (h_0:vs=[.ref p,.int g]) (h_1:az c.C H p A st) (h_2:bK g) (h_3:match look st.worn g with
 | some m=>Q (.int m) H
 | none=>fV c E H (.noguest g)):jd c vs H Q E
inductive iJ (c:HX) (vs:List V) (H:Hp) (Q:VK) (E:XK):Prop
 | mk (p:Addr) (A:HA) (st:bO) (g:Int) (h_0:vs=[.ref p,.int g]) (h_1:az c.C H p A st) (h_2:bK g) (h_3:match look st.hold g with
 | some m=>Q (.int m) H
 | none=>fV c E H (.noguest g)):iJ c vs H Q E
inductive iI (C:Addr) (vs:List V) (H:Hp) (Q:VK) (E_:XK):Prop
 | mk (p:Addr) (A:HA) (st:bO) (g:Int) (h_0:vs=[.ref p,.int g]) (h_1:az C H p A st) (h_2:Q (.bl (look st.worn g).isSome) H):iI C vs H Q E_
inductive nj (C:Addr) (vs:List V) (H:Hp) (Q:VK) (E_:XK):Prop
 | mk (p:Addr) (A:HA) (st:bO) (h_0:vs=[.ref p]) (h_1:az C H p A st) (h_2:st.worn.length<64) (h_3:∀ l,H l=none->Q (.ref l) (upd H l (.lst ((b7 (ay st.worn)).map V.int)))):nj C vs H Q E_
inductive wU (C:Addr) (vs:List V) (H:Hp) (Q:VK) (E_:XK):Prop
 | mk (p:Addr) (A:HA) (st:bO) (a b:Int) (h_0:vs=[.ref p,.int a,.int b]) (h_1:az C H p A st) (h_2:∀ H',aA H H'->Q (.bl (iZ st.circ a b)) H'):wU C vs H Q E_
inductive wP (C:Addr) (vs:List V) (H:Hp) (Q:VK) (E_:XK):Prop
 | mk (p:Addr) (A:HA) (st:bO) (a b:Int) (h_0:vs=[.ref p,.int a,.int b]) (h_1:az C H p A st) (h_2:st.circ.length<2000) (h_3:(∀ x∈st.circ,x.2.length<2000)) (h_4:∀ H',eV C H p A { st with circ:=ca st.circ a b } H'->Q .non H'):wP C vs H Q E_
inductive nv (C:Addr) (vs:List V) (H:Hp) (Q:VK) (E_:XK):Prop
 | mk (p:Addr) (A:HA) (st:bO) (h_0:vs=[.ref p]) (h_1:az C H p A st) (h_2:Q (.int st.deeds.length) H):nv C vs H Q E_
structure HT (K:PySem.W.Frag)(mg:Str->Option Value)(c:HX):Prop where
 cl:yx K c.C
 nW:h9 K c.C "worn"
 nH:h9 K c.C "holders"
 nC:h9 K c.C "circles"
 nD:h9 K c.C "deeds"
 mC:mg "Hall" = some (.ref c.C)
 eA:ic K c.cA
 eM:ic K c.cM
 eS:ic K c.cS
 eT:ic K c.cT
 mA:mg "AlreadyIn" = some (.ref c.cA)
 mM:mg "Masked" = some (.ref c.cM)
 mS:mg "Same" = some (.ref c.cS)
 mT:mg "Met" = some (.ref c.cT)
 mN:mg "NoGuest" = some (.ref c.cN)
 mW:mg "WaltzError" = some (.ref c.cW)
 eN:li K c.cN c.fN=true
 gN:FK K c.cN "guest"
 tN:PySem.W.typeIn K (.ref c.fN)=some (.type "function")
 wS:PySem.W.specialIn K (.ref c.cW) "__getattribute__" = some (some (.builtin "type.__getattribute__"))
 wR:PySem.W.readsIn K c.cW (.type "type")=true
 wI:PySem.W.findCls K (.ref c.cW) (.type "type") "__init__" = some (.val (.builtin "ValueError.__init__"))
structure HM (K:PySem.W.Frag)(c:HX):Prop where
 aa:PySem.W.exmOne K (.ref c.cA) (.ref c.cA)=some true
 ma:PySem.W.exmOne K (.ref c.cM) (.ref c.cA)=some false
 mm:PySem.W.exmOne K (.ref c.cM) (.ref c.cM)=some true
 sa:PySem.W.exmOne K (.ref c.cS) (.ref c.cA)=some false
 sm:PySem.W.exmOne K (.ref c.cS) (.ref c.cM)=some false
 ss:PySem.W.exmOne K (.ref c.cS) (.ref c.cS)=some true
 ta:PySem.W.exmOne K (.ref c.cT) (.ref c.cA)=some false
 tm:PySem.W.exmOne K (.ref c.cT) (.ref c.cM)=some false
 ts:PySem.W.exmOne K (.ref c.cT) (.ref c.cS)=some false
 tt:PySem.W.exmOne K (.ref c.cT) (.ref c.cT)=some true
 na:PySem.W.exmOne K (.ref c.cN) (.ref c.cA)=some false
 nm:PySem.W.exmOne K (.ref c.cN) (.ref c.cM)=some false
 ns:PySem.W.exmOne K (.ref c.cN) (.ref c.cS)=some false
 nt:PySem.W.exmOne K (.ref c.cN) (.ref c.cT)=some false
 nn:PySem.W.exmOne K (.ref c.cN) (.ref c.cN)=some true
def iu (P:Program)(w:World)(K:PySem.W.Frag)(mg:Str->Option Value)(base:Heap)(c:HX):Prop:=∃ fd:FuncData,bd P w K mg base c7 1 c.fN fd ["self","guest"] (DE c.cN "guest")/\eU K fd ["self","guest"] []
theorem ro {X:Cx}{c:HX}{E:XK}{e:Expr}{te:TE}{np cpos pos:Pos}(N:iu X.prog X.w X.K X.mg X.base c)(U:HT X.K X.mg c)(hr:cu 2 X.A)(hfl:yz X E)(hex:X.ex=[])(hh:X.A.handled=none)(hg:Gl X "NoGuest")(he:PE X e te)
  (hs:starEach [e] X.env=[(false,eval e X.env)]:=by rfl):PS X (.Raise (some (.Call (.Name "NoGuest" np) [e] [] cpos)) none pos) (zn te c.cN "guest" E):=by
 obtain⟨fd,G,hb⟩:=N;exact Aq U.eN U.tN G hr hb hfl hex hh hg U.mN he (by decide) hs
section
variable {C:Addr}{H:Hp}{p t:Addr}{A:HA}{st:bO}
structure yu (A:HA):Prop where
 wh:A.w≠A.h
 wc:A.w≠A.c
 wd:A.w≠A.d
 hc:A.h≠A.c
 hd:A.h≠A.d
 cd:A.c≠A.d
 w:A.w∉A.cs
 h:A.h∉A.cs
 c:A.c∉A.cs
 d:A.d∉A.cs
 cs:A.cs.Nodup
theorem az.apart (S:az C H p A st):yu A:=by
 have:=S.nd;simp only[HA.fp,I0,IE,not_or]at this;obtain⟨⟨a1,a2,a3,a4⟩,⟨b1,b2,b3⟩,⟨c1,c2⟩,d1,e⟩:=this;exact⟨a1,a2,a3,b1,b2,c1,a4,b3,c2,d1,e⟩
theorem az.pne (S:az C H p A st):p∉A.fp:=by
 have n1:p≠A.w:=cJ S.ob S.w (by intro z;cases z);have n2:p≠A.h:=cJ S.ob S.h (by intro z;cases z);have n3:p≠A.c:=cJ S.ob S.c (by intro z;cases z);obtain⟨as,hd,_⟩:=S.d;have n4:p≠A.d:=cJ S.ob hd (by intro z;cases z)
 have n5:p∉A.cs:=fun z=>by
  obtain⟨i,hi,e⟩:=Kt z;obtain⟨b,_,q⟩:=paired_get S.cs (List.getElem?_eq_getElem hi);rw[e,S.ob]at q;cases q
 simp[HA.fp,n1,n2,n3,n4,n5]
theorem lW {H H':Hp}:∀ {cs:List Addr}{ci:List (Int×List Int)},Paired (fun a (x:Int×List Int)=>H a=some (.dK (qM x.2))) cs ci->(∀ b∈cs,∀ o,H b=some o->H' b=some o)->Paired (fun a (x:Int×List Int)=>H' a=some (.dK (qM x.2))) cs ci:=by
 intro cs ci hp k
 induction hp with
 | nil=>exact .nil
 | cons e _ ih=>exact .cons (k _ IJ _ e) (ih fun b hb=>k b (Iz _ hb))
theorem cz (x:aD):∃ xs,cI x=.tup xs:=by cases x<;>exact⟨_,rfl⟩
theorem az.tup (S:az C H p A st){b:Addr}{xs:List V}(e:H b=some (.tup xs)):b∉A.fp:=by
 have n1:b≠A.w:=cJ e S.w (by intro z;cases z);have n2:b≠A.h:=cJ e S.h (by intro z;cases z);have n3:b≠A.c:=cJ e S.c (by intro z;cases z);obtain⟨as,hd,_⟩:=S.d;have n4:b≠A.d:=cJ e hd (by intro z;cases z)
 have n5:b∉A.cs:=fun z=>by
  obtain⟨i,hi,e'⟩:=Kt z;obtain⟨y,_,q⟩:=paired_get S.cs (List.getElem?_eq_getElem hi);rw[e',e]at q;cases q
 simp[HA.fp,n1,n2,n3,n4,n5]
theorem az.tracked (S:az C H p A st){b:Addr}(h:b∈A.fp):∃ o,H b=some o:=by
 simp only[HA.fp,IE]at h;rcases h with rfl | rfl | rfl | rfl | h
 ·exact⟨_,S.w⟩
 ·exact⟨_,S.h⟩
 ·exact⟨_,S.c⟩
 ·obtain⟨as,hd,_⟩:=S.d;exact⟨_,hd⟩
 ·obtain⟨i,hi,rfl⟩:=Kt h
  obtain⟨y,_,q⟩:=paired_get S.cs (List.getElem?_eq_getElem hi);exact⟨_,q⟩
theorem yu.fp {A:HA}(a:yu A):A.fp.Nodup:=by
 simp only[HA.fp,I0,IE,not_or];exact⟨⟨a.wh,a.wc,a.wd,a.w⟩,⟨a.hc,a.hd,a.h⟩,⟨a.cd,a.c⟩,a.d,a.cs⟩
theorem f6 {fp:List Addr}{a:Addr}{o:HO}(h:a∈fp):Kp fp H (upd H a o):=fun b u e n=>by
 rw[ag (fun z:b=a=>n (by rw[z];exact h))];exact e
theorem xJ {fp:List Addr}{a:Addr}{o:HO}(h:H a=none):Kp fp H (upd H a o):=fun b u e n=>by
 rw[ag (ak e h)];exact e
theorem Kp.on {fp:List Addr}{H1 H2:Hp}(a:Kp fp H H1)(b:Kp fp H1 H2):Kp fp H H2:=fun x o e n=>b x o (a x o e n) n
theorem uu (S:az C H p A st)(w':List (Int×Int)):az C (upd H A.w (.dK (dk w'))) p A { st with worn:=w' }:=by
 have a:=S.apart;have np:=S.pne;simp only[HA.fp,IE,not_or]at np;refine⟨by rw[ag np.1];exact S.ob,S.nd,af,by rw[ag (IN a.wh)];exact S.h,by rw[ag (IN a.wc)];exact S.c,lW S.cs fun b hb o e=>by rw[ag (fun z:b=A.w=>a.w (by rw[<-z];exact hb))];exact e,?_⟩;obtain⟨as,hd,hp⟩:=S.d;refine⟨as,by rw[ag (IN a.wd)];exact hd,Paired.mapP hp fun b x e=>?_⟩;obtain⟨xs,ex⟩:=cz x;rw[ag (fun z=>S.tup (xs:=xs) (by rw[<-ex];exact e) (by rw[z];simp[HA.fp]))];exact e
theorem ut (S:az C H p A st)(w':List (Int×Int)):az C (upd H A.h (.dK (dk w'))) p A { st with hold:=w' }:=by
 have a:=S.apart;have np:=S.pne;simp only[HA.fp,IE,not_or]at np;refine⟨by rw[ag np.2.1];exact S.ob,S.nd,by rw[ag a.wh];exact S.w,af,by rw[ag (IN a.hc)];exact S.c,lW S.cs fun b hb o e=>by rw[ag (fun z:b=A.h=>a.h (by rw[<-z];exact hb))];exact e,?_⟩;obtain⟨as,hd,hp⟩:=S.d;refine⟨as,by rw[ag (IN a.hd)];exact hd,Paired.mapP hp fun b x e=>?_⟩;obtain⟨xs,ex⟩:=cz x;rw[ag (fun z=>S.tup (xs:=xs) (by rw[<-ex];exact e) (by rw[z];simp[HA.fp]))];exact e
theorem n9 (S:az C H p A st){as:List Addr}(hd:H A.d=some (.lst (as.map V.ref)))(hp:Paired (fun a x=>H a=some (cI x)) as st.deeds)(x:aD)(ht:H t=none) :
  az C (upd (upd H t (cI x)) A.d (.lst (as.map V.ref++[.ref t]))) p A { st with deeds:=st.deeds++[x] }:=by
 have a:=S.apart;have np:=S.pne;simp only[HA.fp,IE,not_or]at np;have n:∀ b o,H b=some o->b≠t:=fun b o e=>ak e ht
 have e1:∀ b o,H b=some o->b≠A.d->(upd (upd H t (cI x)) A.d (.lst (as.map V.ref++[.ref t]))) b=some o:=fun b o e h=>by rw[ag h,ag (n b o e)];exact e
 have td:t≠A.d:=fun z=>by rw[z,hd]at ht;cases ht
 refine⟨e1 _ _ S.ob np.2.2.2.1,S.nd,e1 _ _ S.w a.wd,e1 _ _ S.h a.hd,e1 _ _ S.c a.cd,lW S.cs fun b hb o e=>e1 b o e (fun z=>a.d (by rw[<-z];exact hb)),as++[t],by rw[af,Ja];rfl,?_⟩;refine bC (Paired.mapP hp fun b y e=>?_) (.cons (by rw[ag td,af]) .nil);obtain⟨xs,ex⟩:=cz y;exact e1 b _ e (fun z=>S.tup (xs:=xs) (by rw[<-ex];exact e) (by rw[z];simp[HA.fp]))
theorem yV:A.w∈A.fp:=by simp[HA.fp]
theorem yU:A.h∈A.fp:=by simp[HA.fp]
theorem D4:A.c∈A.fp:=by simp[HA.fp]
theorem Bp:A.d∈A.fp:=by simp[HA.fp]
end
theorem nV {c:HX}{H:Hp}{p:Addr}{A:HA}{st:bO}{d:aD}{Q:VK}{E:XK}(k:nF c H p A st d Q E)(h:aK st d=.done):∀ H',eV c.C H p A (after st d) H'->Q .non H':=by
 unfold nF at k;rwa [Iq h]at k
theorem fX {c:HX}{H:Hp}{p:Addr}{A:HA}{st:bO}{d:aD}{Q:VK}{E:XK}{o:rY}(k:nF c H p A st d Q E)(h:aK st d=o)(ho:o≠.done):fV c E H o:=by
 unfold nF at k;rwa [h,Ip ho]at k
theorem mx:∀ (ci:List (Int×List Int))(a b:Int),(ca ci a b).length<=ci.length+1
 | [],_,_=>by simp[ca]
 | x::r,a,b=>by
  unfold ca;split
  ·simp
  ·have:=mx r a b;simp;omega
theorem Bl (ks:List Int)(b:Int):(ko ks b).length<=ks.length+1:=by unfold ko;split<;>simp
theorem qt {ci:List (Int×List Int)}{a b:Int}{n:Nat}(h:∀ x∈ci,x.2.length<=n)(hn:0<n+1):∀ x∈ca ci a b,x.2.length<=n+1:=by
 induction ci with
 | nil=>intro x hx;simp[ca]at hx;subst hx;simp
 | cons y r ih =>
  intro x hx;unfold ca at hx;split at hx
  ·rcases IE.mp hx with z | z
   ·subst z;have:=Bl y.2 b;have:=h y IJ;simp only;omega
   ·have:=h x (Iz _ z);omega
  ·rcases IE.mp hx with z | z
   ·subst z;have:=h x IJ;omega
   ·exact ih (fun x hx=>h x (Iz _ hx)) x z
theorem Dz (ks:List Int)(b:Int):fq (qM ks) (Sum.inl b:bV) (V.bl true)=qM (ko ks b):=by
 unfold fq ko qM
 have e:((ks.map fun k=>((Sum.inl k:bV),V.bl true)).any fun kv=>decide (kv.1=(Sum.inl b:bV)))=decide (b∈ks):=by
  rw[List.any_map]
  induction ks with
  | nil=>rfl
  | cons x r ih=>rw[Ky,ih];by_cases h:x=b<;>simp[h,eq_comm]
 rw[e]
 by_cases h:b∈ks
 ·rw[Iq (IG h),Iq h,Jx]
  apply Ks
  intro k _;simp only[Function.comp];split<;>rfl
 ·rw[Ip (by simp[h]),Ip h,Ja]
  rfl
theorem DO (ks:List Int)(b:Int):(dN (qM ks) (Sum.inl b:bV)).isSome=decide (b∈ks):=by
 rw[<-jV];unfold qM;rw[List.any_map]
 induction ks with
 | nil=>rfl
 | cons x r ih=>rw[Ky,ih];by_cases h:x=b<;>simp[h,eq_comm]
section
variable {H:Hp}
abbrev GP (H:Hp)(cs:List Addr)(ci:List (Int×List Int)):Prop:=Paired (fun a (x:Int×List Int)=>H a=some (.dK (qM x.2))) cs ci
theorem iw:∀ {cs:List Addr}{ci:List (Int×List Int)}(a:Int),GP H cs ci ->
  (dN (bS cs ci) (Sum.inl a:bV)=none/\iL ci a=[]/\∀ b,ca ci a b=ci++[(a,[b])]) \/
  ∃ ad,ad∈cs/\dN (bS cs ci) (Sum.inl a:bV)=some (.ref ad)/\H ad=some (.dK (qM (iL ci a))) /\
   ∀ b (H':Hp),cs.Nodup->(∀ x∈cs,x≠ad->∀ o,H x=some o->H' x=some o)->H' ad=some (.dK (qM (ko (iL ci a) b)))->GP H' cs (ca ci a b)/\bS cs (ca ci a b)=bS cs ci
 | _,_,a,.nil=>.inl ⟨rfl,rfl,fun b=>rfl⟩
 | c::cs,x::ci,a,.cons e r=>by
  by_cases h:x.1=a
  ·refine .inr ⟨c,IJ,jW (p:=((Sum.inl x.1:bV),V.ref c)) (by rw[h]),by simp only[iL,Iq h];exact e,fun b H' nd k k'=>?_⟩
   simp only[iL,Iq h]at k';simp only[ca,Iq h];refine⟨.cons k' (lW r fun y hy o z=>k y (Iz _ hy) (fun q=>(I0.mp nd).1 (by rw[<-q];exact hy)) o z),rfl⟩
  ·have hk:dN (bS (c::cs) (x::ci)) (Sum.inl a:bV)=dN (bS cs ci) (Sum.inl a:bV):=iK (p:=((Sum.inl x.1:bV),V.ref c)) (fun z=>h (Sum.inl.inj z))
   have hc:iL (x::ci) a=iL ci a:=by simp only[iL,Ip h]
   rcases iw a r with ⟨h1,h2,h3⟩ | ⟨ad,h1,h2,h3,h4⟩
   ·exact .inl ⟨by rw[hk];exact h1,by rw[hc];exact h2,fun b=>by simp only[ca,Ip h,h3 b,List.cons_append]⟩
   ·refine .inr ⟨ad,Iz _ h1,by rw[hk];exact h2,by rw[hc];exact h3,fun b H' nd k k'=>?_⟩
    rw[hc]at k';obtain⟨n1,n2⟩:=I0.mp nd;obtain⟨q1,q2⟩:=h4 b H' n2 (fun y hy=>k y (Iz _ hy)) k';simp only[ca,Ip h];refine⟨.cons (k c IJ (fun z=>n1 (by rw[z];exact h1)) _ e) q1,?_⟩
    show _::bS cs (ca ci a b)=_::bS cs ci
    rw[q2]
theorem lb:∀ {cs:List Addr}{ci:List (Int×List Int)}(a:Int)(ks:List Int)(l:Addr),cs.length=ci.length->bS (cs++[l]) (ci++[(a,ks)])=bS cs ci++[(Sum.inl a,V.ref l)]
 | [],[],_,_,_,_=>rfl
 | c::cs,x::ci,a,ks,l,h=>by
  show _::bS (cs++[l]) (ci++[(a,ks)])=_
  rw[lb a ks l (by simpa using h)];rfl
theorem jZ:∀ {cs:List Addr}{ci:List (Int×List Int)},cs.length=ci.length->(bS cs ci).length=ci.length
 | [],[],_=>rfl
 | c::cs,x::ci,h=>by show (bS cs ci).length+1=_;rw[jZ (by simpa using h)];rfl
end
end Wz
namespace L2
open PySem PySem.Spec PyProof.Rows
def Fx (td ty tx:TE):TE:=fun σ H Q=>td σ H fun x H1=>∃ a,x=.ref a/\GH H1 a/\ty σ H1 fun y H2=>tx σ H2 fun z H3=>∃ kvs k,H3 a=some (.dK kvs)/\y=kV k/\kvs.length<sizeLine /\
 (∀ v,dN kvs k=some v->Q v H3)/\(dN kvs k=none->Q z (upd H3 a (.dK (fq kvs k z))))
theorem BG {X:Cx}{o e f:Expr}{apos cpos:Pos}{td ty tx:TE}(ho:PE X o td)(he:PE X e ty)(hf:PE X f tx)(m:M2 X o "setdefault" apos e f cpos):PE X (.Call (.Attribute o "setdefault" apos) [e,f] [] cpos) (Fx td ty tx):=by
 intro pins s σ H Q I h;refine wpAny_Call_method m.base m.few m.line PySem.F.plainAttrs_dict PySem.F.slot_dict_setdefault PySem.F.type_dict_setdefault (bx (ho pins s σ H _ I h) fun u s1 ⟨x,H1,I1,rx,a,ex,d,q1⟩=>?_);subst ex;obtain rfl:u=Value.ref a:=rx;obtain⟨t1,t2,_⟩:=ux I1 d;refine⟨t1,t2,?_⟩;rw[m.trees]
 refine Kb rfl (JP (Ju (bx (he pins s1 σ H1 _ I1 q1) fun iv s2 ⟨y,H2,I2,ry,q2⟩ =>
  Ju (bx (hf pins s2 σ H2 _ I2 q2) fun fv s3 ⟨z,H3,I3,rz,kvs,k,ea,ey,hlt,q3,q4⟩=>J2 ?_))))
 subst ey;obtain⟨hz,hd,vs,rel,dd⟩:=yK I3.hok ea
 refine call_meetsIn PySem.F.slot_dict_setdefault dd.typeIs PySem.F.entry_dict_setdefault (PySem.F.args_dict_setdefault_3 _ _ _) (kt_meets_setdefault (aB X.prog X.w) a (mq ry) hd fv)
  ⟨vs,dd,by rw[<-rel.length];exact hz,fun v' hv'=>?_,fun hn h' dd' hs=>?_⟩
 ·cases l:dN kvs k with
  | none=>have:=rel.val k;rw[l,hv']at this;exact this.elim
  | some v =>
   have:=rel.val k;rw[l,hv']at this;exact⟨v,H3,I3.tok _,this,q3 v l⟩
 ·cases l:dN kvs k with
  | some v=>have:=rel.val k;rw[l,hn]at this;exact this.elim
  | none =>
   have he:∃ q,h'.get? a=some q:=let ⟨q,_,_,hq,_⟩:=dd';⟨q,hq⟩;exact⟨z,_,lX I3 (by rw[ea];exact True.intro) hs he (uj (by have:=gO kvs k z;omega) hd (rel.put k rz) dd'),rz,q4 l⟩
section
variable {X:Cx}
end
end L2
namespace Wz
open PySem L2
theorem xE {A:Around}{k n:Nat}(hr:cu k A)(h:n<=200):A.units+n<cLine:=by have:=hr.un;omega
theorem cc:decide (V.str "come" = V.str "come")=true:=by decide +kernel
theorem cg:decide (V.str "come" = V.str "go")=false:=by decide +kernel
theorem ce:decide (V.str "come" = V.str "exchange")=false:=by decide +kernel
theorem gc:decide (V.str "go" = V.str "come")=false:=by decide +kernel
theorem gg:decide (V.str "go" = V.str "go")=true:=by decide +kernel
theorem ge:decide (V.str "go" = V.str "exchange")=false:=by decide +kernel
theorem ec:decide (V.str "exchange" = V.str "come")=false:=by decide +kernel
theorem eg:decide (V.str "exchange" = V.str "go")=false:=by decide +kernel
theorem ee:decide (V.str "exchange" = V.str "exchange")=true:=by decide +kernel
def dI:aD->Str
 | .come _=>"come"
 | .go _=>"go"
 | .exch _ _=>"exchange"
def bz (d:aD):List V:=V.str (dI d)::(names d).map V.int
theorem iW (d:aD):cI d=.tup (bz d):=by cases d<;>rfl
theorem AR (d:aD):kr (bz d) (some 1) none=(names d).map V.int:=by cases d<;>rfl
theorem CM (d:aD):¬ (HT.sIx (bz d).length 0 (some 1)=0/\HT.sIx (bz d).length (bz d).length none=(bz d).length):=by cases d<;>(intro h;have h1:=h.1;simp[bz,names,HT.sIx]at h1)
def cm (w:List (Int×Int))(m:Int->Int->Bool):aD->rY
 | .come g=>if (look w g).isSome then .already else .done
 | .go g=>match look w g with | none=>.noguest g | some x=>if x=g then .done else .masked
 | .exch a b=>match look w a with
  | none=>.noguest a
  | some _=>match look w b with
   | none=>.noguest b
   | some _=>if a=b then .same else if m a b then .met else .done
theorem yQ (st:bO)(d:aD):aK st d=cm st.worn (iZ st.circ) d:=by cases d<;>rfl
theorem mn {w:List (Int×Int)}{m m':Int->Int->Bool}(h:∀ a b,m a b=m' a b)(d:aD):cm w m d=cm w m' d:=by cases d<;>simp only[cm,h]
def cZ (a b:Int):Int×Int:=if b<a then (b,a) else (a,b)
def ou (ml:List (Int×Int))(a b:Int):Bool:=decide (cZ a b∈ml)
def js (ml:List (Int×Int)):List (List bV×V):=ml.map fun p=>([Sum.inl p.1,Sum.inl p.2],V.bl true)
def pE (ml:List (Int×Int))(p:Int×Int):List (Int×Int):=if p∈ml then ml else ml++[p]
def ky:rY->List V
 | .done=>[.str "done",.non]
 | .already=>[.str "AlreadyIn",.non]
 | .masked=>[.str "Masked",.non]
 | .same=>[.str "Same",.non]
 | .met=>[.str "Met",.non]
 | .noguest g=>[.str "NoGuest",.int g]
def ue (w:List (Int×Int)):aD->List (Int×Int)
 | .come g=>put w g g
 | .go g=>cB w g
 | .exch a b=>put (put w a (wr w b)) b (wr w a)
def qu (ml:List (Int×Int)):aD->List (Int×Int)
 | .come _=>ml
 | .go _=>ml
 | .exch a b=>pE ml (cZ a b)
theorem qv (st:bO)(d:aD):(after st d).worn=ue st.worn d:=by cases d<;>rfl
theorem yX (ml:List (Int×Int))(p:Int×Int):((js ml).any fun kv=>decide (kv.1=([Sum.inl p.1,Sum.inl p.2]:List bV)))=decide (p∈ml):=by
 unfold js;rw[List.any_map]
 induction ml with
 | nil=>rfl
 | cons x r ih =>
  rw[Ky,ih]
  have:(decide ((([Sum.inl x.1,Sum.inl x.2]:List bV))=[Sum.inl p.1,Sum.inl p.2]))=decide (p=x):=by
   by_cases h:p=x
   ·subst h;simp
   ·rw[IM h,IM]
    intro z;simp only[List.cons.injEq,Sum.inl.injEq,and_true]at z;exact h (Prod.ext z.1.symm z.2.symm)
  simp only[Function.comp];rw[this]
  by_cases h:p=x<;>simp[h]
theorem uH (ml:List (Int×Int))(p:Int×Int):(dN (js ml) ([Sum.inl p.1,Sum.inl p.2]:List bV)).isSome=decide (p∈ml):=by rw[<-jV,yX]
theorem yY (ml:List (Int×Int))(p:Int×Int):fq (js ml) ([Sum.inl p.1,Sum.inl p.2]:List bV) (V.bl true)=js (pE ml p):=by
 unfold fq pE;rw[yX]
 by_cases h:p∈ml
 ·rw[Iq (IG h),Iq h]
  unfold js;rw[Jx]
  apply Ks
  intro x _;simp only[Function.comp];split<;>rfl
 ·rw[Ip (by simp[h]),Ip h]
  unfold js;rw[Ja];rfl
theorem Bh {w:List (Int×Int)}{m:Int->Int->Bool}{d:aD}{i:Nat}{x:Int}(hc:dI d≠"come")(hp:∀ y∈(names d).take i,(look w y).isSome=true)(hi:(names d)[i]? = some x)(hx:look w x=none):cm w m d=.noguest x:=by
 cases d with
 | come g=>exact absurd rfl hc
 | go g =>
  cases i with
  | zero=>simp[names]at hi;subst hi;simp[cm,hx]
  | succ i=>simp[names]at hi
 | exch a b =>
  cases i with
  | zero=>simp[names]at hi;subst hi;simp[cm,hx]
  | succ i =>
   cases i with
   | zero =>
    simp[names]at hi;subst hi;have:=hp a (by simp[names]);obtain⟨v,hv⟩:=Jm.mp this;simp[cm,hv,hx]
   | succ i=>simp[names]at hi
inductive tU (vs:List V) (H:Hp) (Q:VK) (E_:XK):Prop
 | mk (a b:Int) (h_0:vs=[.int a,.int b]) (h_1:∀ t,H t=none->Q (.ref t) (upd H t (.tup [.int (cZ a b).1,.int (cZ a b).2]))):tU vs H Q E_
inductive wT (vs:List V) (H:Hp) (Q:VK) (E_:XK):Prop
 | mk (w m t:Addr) (wl ml:List (Int×Int)) (d:aD) (h_0:vs=[.ref w,.ref m,.ref t]) (h_1:H w=some (.dK (dk wl))) (h_2:H m=some (.dT (js ml))) (h_3:H t=some (cI d)) (h_4:∀ (r:Addr)(H':Hp),H r=none->aA H H'->H' r=some (.tup (ky (cm wl (ou ml) d)))->Q (.ref r) H'):wT vs H Q E_
inductive m6 (vs:List V) (H:Hp) (Q:VK) (E_:XK):Prop
 | mk (w m t:Addr) (wl ml:List (Int×Int)) (d:aD) (h_0:vs=[.ref w,.ref m,.ref t]) (h_1:H w=some (.dK (dk wl))) (h_2:H m=some (.dT (js ml))) (h_3:H t=some (cI d)) (h_4:wl.length<=1000) (h_5:ml.length<=4000) (h_6:cm wl (ou ml) d=.done) (h_7:∀ H',H' w=some (.dK (dk (ue wl d)))->H' m=some (.dT (js (qu ml d)))->(∀ b o,H b=some o->b≠w->b≠m->H' b=some o)->Q .non H'):m6 vs H Q E_
structure d8 (st:bO):Prop where
 wn:(ay st.worn).Nodup
 wh:∀ g m,look st.worn g=some m↔look st.hold m=some g
 ow:∀ g m,look st.worn g=some m->m∈ay st.worn
 sm:∀ g m,look st.worn g=some m->bK m
 cy:∀ a b,iZ st.circ a b=iZ st.circ b a
def a7 (st:bO)(d:aD):bO:=if aK st d=.done then after st d else st
inductive wQ (c:HX) (vs:List V) (H:Hp) (Q:VK) (E:XK):Prop
 | mk (p t:Addr) (A:HA) (st:bO) (d:aD) (h_0:vs=[.ref p,.ref t]) (h_1:H t=some (cI d)) (h_2:az c.C H p A st) (h_3:zA st) (h_4:d8 st) (h_5:(∀ g∈names d,bK g)) (h_6:nF c H p A st d Q E):wQ c vs H Q E
def aZ (m c:Int):List Int:=(List.range m.toNat).map fun (k:Nat)=>gM (k:Int) c
theorem xQ {C:Addr}{H H':Hp}{p:Addr}{A:HA}{st:bO}(S:az C H p A st)(s:aA H H'):eV C H p A st H':=⟨A,S.mono s,.of_same s,fun b hb=>.inl hb,.of_same s⟩
theorem n8 (k c:Int):bK (gM k c):=by
 unfold bK gM;have h:∀ x:Int,0<=x%2147483647/\x%2147483647<2147483647:=fun x=>⟨JB _ (by decide),Js _ (by decide)⟩;dsimp only;generalize hx:(k*(1+dw c*1234567891%2147483646)+dw c/2147483646)%2147483647=x;have:=h (k*(1+dw c*1234567891%2147483646)+dw c/2147483646);rw[hx]at this
 have e:(10:Nat) ^ 100=10 ^ 15*10 ^ 85:=by rw[<-Nat.pow_add]
 have e2:(0:Nat)<10 ^ 85:=Nat.pow_pos (by decide)
 have:x.natAbs<10 ^ 15/\(x+997852516353).natAbs<10 ^ 15:=by constructor<;>omega
 split
 ·calc _<10 ^ 15:=this.2
   _<=10 ^ 15*10 ^ 85:=Nat.le_mul_of_pos_right _ e2
   _=10 ^ 100:=e.symm
 ·calc _<10 ^ 15:=this.1
   _<=10 ^ 15*10 ^ 85:=Nat.le_mul_of_pos_right _ e2
   _=10 ^ 100:=e.symm
theorem uh (x:Int):∀ (c:List (Int×List Int))(a b:Int),iL (ca c a b) x=if x=a then ko (iL c a) b else iL c x
 | [],a,b=>by
  by_cases h:x=a
  ·subst h;simp[ca,iL,ko]
  ·simp[ca,iL,h,IN h]
 | y::r,a,b=>by
  unfold ca
  by_cases h:y.1=a
  ·rw[Iq h]
   by_cases hx:x=a
   ·subst hx;simp[iL,h]
   ·have:¬ y.1=x:=fun z=>hx (z.symm.trans h)
    simp[iL,hx,this]
  ·rw[Ip h]
   by_cases hx:x=a
   ·subst hx
    simp only[iL,Ip h,Kx];rw[uh x r x b,Iq rfl]
   ·simp only[iL,uh x r a b,Ip hx]
theorem vP {ks:List Int}{b y:Int}:y∈ko ks b↔y∈ks\/y=b:=by
 unfold ko;split
 ·rename_i h
  constructor
  ·exact .inl
  ·rintro (z | z)
   ·exact z
   ·rw[z];exact h
 ·simp
theorem yW (c:List (Int×List Int))(a b x y:Int):iZ (ca c a b) x y=(iZ c x y||(decide (x=a)&&decide (y=b))):=by
 unfold iZ;rw[uh]
 by_cases h:x=a
 ·subst h
  rw[Iq rfl]
  by_cases hy:y=b
  ·have:y∈ko (iL c x) b:=vP.mpr (.inr hy)
   simp[hy,this];rw[hy]at this;exact this
  ·have:(y∈ko (iL c x) b)↔y∈iL c x:=by rw[vP];simp[hy]
   simp[hy,this]
 ·rw[Ip h];simp[h]
theorem uG (c:List (Int×List Int))(a b x y:Int):iZ (ca (ca c a b) b a) x y=(iZ c x y||(decide (x=a)&&decide (y=b))||(decide (x=b)&&decide (y=a))):=by rw[yW,yW]
theorem oA {l:List (Int×Int)}(h:(ay l).Nodup)(g m:Int):(ay (put l g m)).Nodup:=by
 rw[vM];split
 ·exact h
 ·rename_i n
  exact mD h n
theorem y0 {l:List (Int×Int)}(h:(ay l).Nodup)(g:Int):(ay (cB l g)).Nodup:=by
 unfold ay cB at *;exact (List.filter_sublist.map _).nodup h
theorem fZ:d8 ⟨[],[],[],[]⟩:=by
 refine⟨J8,fun g m=>?_,fun g m h=>?_,fun g m h=>?_,fun a b=>rfl⟩
 ·simp[look]
 ·simp[look]at h
 ·simp[look]at h
theorem fR {st:bO}{d:aD}(G:d8 st)(sm:∀ g∈names d,bK g):d8 (a7 st d):=by
 unfold a7
 by_cases hd:aK st d=.done
 ·rw[Iq hd]
  have kw:∀ g m,look st.worn g=some m->g∈ay st.worn:=fun g m h=>cE.mp (by rw[h];rfl)
  cases d with
  | come g =>
   have hn:look st.worn g=none:=by
    cases e:look st.worn g with
    | none=>rfl
    | some m=>simp[aK,e]at hd
   have hh:look st.hold g=none:=by
    cases e:look st.hold g with
    | none=>rfl
    | some m =>
     have:=G.ow m g ((G.wh m g).mpr e);rw[<-cE,hn]at this;cases this
   refine⟨oA G.wn g g,fun x m=>?_,fun x m h=>?_,fun x m h=>?_,G.cy⟩
   ·show look (put st.worn g g) x=some m↔look (put st.hold g g) m=some x
    rw[bR,bR]
    by_cases hx:x=g
    ·subst hx
     by_cases hm:m=x
     ·subst hm;simp
     ·rw[Iq rfl,Ip hm]
      constructor
      ·intro z;exact absurd (Iy z).symm hm
      ·intro z
       have:=(G.wh x m).mpr z;rw[hn]at this;cases this
    ·rw[Ip hx]
     by_cases hm:m=g
     ·subst hm
      rw[Iq rfl];constructor
      ·intro z
       have:=(G.wh x m).mp z;rw[hh]at this;cases this
      ·intro z;exact absurd (Iy z).symm hx
     ·rw[Ip hm];exact G.wh x m
   ·have h:look (put st.worn g g) x=some m:=h
    show m∈ay (put st.worn g g)
    rw[bR]at h;rw[<-cE,bR]
    by_cases hx:x=g
    ·rw[Iq hx]at h;cases h;rw[Iq rfl];rfl
    ·rw[Ip hx]at h
     have:=G.ow x m h;rw[<-cE]at this;split
     ·rfl
     ·exact this
   ·have h:look (put st.worn g g) x=some m:=h
    rw[bR]at h
    by_cases hx:x=g
    ·rw[Iq hx]at h;cases h;exact sm g (by simp[names])
    ·rw[Ip hx]at h;exact G.sm x m h
  | go g =>
   have hg:look st.worn g=some g:=by
    cases e:look st.worn g with
    | none=>simp[aK,e]at hd
    | some m =>
     by_cases z:m=g
     ·rw[z]
     ·simp[aK,e,z]at hd
   have hh:look st.hold g=some g:=(G.wh g g).mp hg;refine⟨y0 G.wn g,fun x m=>?_,fun x m h=>?_,fun x m h=>?_,G.cy⟩
   ·show look (cB st.worn g) x=some m↔look (cB st.hold g) m=some x
    rw[dZ,dZ]
    by_cases hx:x=g
    ·subst hx
     rw[Iq rfl]
     by_cases hm:m=x
     ·rw[Iq hm];simp
     ·rw[Ip hm]
      constructor
      ·intro z;cases z
      ·intro z
       have:=(G.wh x m).mpr z;rw[hg]at this;exact absurd (Iy this).symm hm
    ·rw[Ip hx]
     by_cases hm:m=g
     ·subst hm
      rw[Iq rfl];constructor
      ·intro z
       have:=(G.wh x m).mp z;rw[hh]at this;exact absurd (Iy this).symm hx
      ·intro z;cases z
     ·rw[Ip hm];exact G.wh x m
   ·have h:look (cB st.worn g) x=some m:=h
    show m∈ay (cB st.worn g)
    rw[dZ]at h
    by_cases hx:x=g
    ·rw[Iq hx]at h;cases h
    ·rw[Ip hx]at h
     refine om.mpr ⟨G.ow x m h,fun z=>?_⟩;rw[z]at h;have:=(G.wh x g).mp h;rw[hh]at this;exact hx (Iy this).symm
   ·have h:look (cB st.worn g) x=some m:=h
    rw[dZ]at h
    by_cases hx:x=g
    ·rw[Iq hx]at h;cases h
    ·rw[Ip hx]at h;exact G.sm x m h
  | exch a b =>
   obtain⟨ma,ea⟩:∃ m,look st.worn a=some m:=by
    cases e:look st.worn a with
    | none=>simp[aK,e]at hd
    | some m=>exact⟨m,rfl⟩
   obtain⟨mb,eb⟩:∃ m,look st.worn b=some m:=by
    cases e:look st.worn b with
    | none=>simp[aK,ea,e]at hd
    | some m=>exact⟨m,rfl⟩
   have hab:a≠b:=fun z=>by simp[aK,ea,eb,z]at hd
   have wa:wr st.worn a=ma:=by unfold wr;rw[ea];rfl
   have wb:wr st.worn b=mb:=by unfold wr;rw[eb];rfl
   have ha:=(G.wh a ma).mp ea;have hb:=(G.wh b mb).mp eb
   have hmm:ma≠mb:=fun z=>by rw[z,hb]at ha;exact hab (Iy ha).symm
   have lw:∀ x,look (put (put st.worn a mb) b ma) x=if x=b then some ma else if x=a then some mb else look st.worn x:=fun x=>by rw[bR,bR]
   have lh:∀ x,look (put (put st.hold mb a) ma b) x=if x=ma then some b else if x=mb then some a else look st.hold x:=fun x=>by rw[bR,bR]
   show d8 { worn:=put (put st.worn a (wr st.worn b)) b (wr st.worn a),hold:=put (put st.hold (wr st.worn b) a) (wr st.worn a) b,circ:=ca (ca st.circ a b) b a,deeds:=st.deeds++[.exch a b] }
   rw[wa,wb];refine⟨oA (oA G.wn a mb) b ma,fun x m=>?_,fun x m h=>?_,fun x m h=>?_,fun x y=>?_⟩
   ·show look (put (put st.worn a mb) b ma) x=some m↔look (put (put st.hold mb a) ma b) m=some x
    rw[lw,lh]
    by_cases hxb:x=b
    ·subst hxb
     rw[Iq rfl]
     by_cases hm:m=ma
     ·rw[Iq hm,hm];simp
     ·rw[Ip hm]
      constructor
      ·intro z;exact absurd (Iy z).symm hm
      ·intro z
       by_cases hm2:m=mb
       ·rw[Iq hm2]at z;exact absurd (Iy z) hab
       ·rw[Ip hm2]at z
        have:=(G.wh x m).mpr z;rw[eb]at this;exact absurd (Iy this).symm hm2
    ·rw[Ip hxb]
     by_cases hxa:x=a
     ·subst hxa
      rw[Iq rfl]
      by_cases hm:m=ma
      ·rw[Iq hm]
       constructor
       ·intro z;exact absurd ((Iy z).trans hm).symm hmm
       ·intro z;exact absurd (Iy z).symm hab
      ·rw[Ip hm]
       by_cases hm2:m=mb
       ·rw[Iq hm2,hm2];simp
       ·rw[Ip hm2]
        constructor
        ·intro z;exact absurd (Iy z).symm hm2
        ·intro z
         have:=(G.wh x m).mpr z;rw[ea]at this;exact absurd (Iy this).symm hm
     ·rw[Ip hxa]
      by_cases hm:m=ma
      ·rw[Iq hm]
       constructor
       ·intro z
        have:=(G.wh x m).mp z;rw[hm,ha]at this;exact absurd (Iy this).symm hxa
       ·intro z;exact absurd (Iy z).symm hxb
      ·rw[Ip hm]
       by_cases hm2:m=mb
       ·rw[Iq hm2]
        constructor
        ·intro z
         have:=(G.wh x m).mp z;rw[hm2,hb]at this;exact absurd (Iy this).symm hxb
        ·intro z;exact absurd (Iy z).symm hxa
       ·rw[Ip hm2];exact G.wh x m
   ·have h:look (put (put st.worn a mb) b ma) x=some m:=h
    show m∈ay (put (put st.worn a mb) b ma)
    have key:∀ y,y∈ay st.worn->y∈ay (put (put st.worn a mb) b ma):=fun y hy=>by
     rw[<-cE]at hy ⊢;rw[lw];split
     ·rfl
     ·split
      ·rfl
      ·exact hy
    rw[lw]at h;split at h
    ·cases h;exact key _ (G.ow a _ ea)
    ·split at h
     ·cases h;exact key _ (G.ow b _ eb)
     ·exact key _ (G.ow x m h)
   ·have h:look (put (put st.worn a mb) b ma) x=some m:=h
    rw[lw]at h;split at h
    ·cases h;exact G.sm a _ ea
    ·split at h
     ·cases h;exact G.sm b _ eb
     ·exact G.sm x m h
   ·show iZ (ca (ca st.circ a b) b a) x y=iZ (ca (ca st.circ a b) b a) y x
    rw[uG,uG,G.cy x y];cases decide (x=a)<;>cases decide (x=b)<;>cases decide (y=a)<;>cases decide (y=b)<;>simp
 ·rw[Ip hd];exact G
theorem zf {K:PySem.W.Frag}{H:Hp}{l:Addr}{ns:List Int}(h:bF K H l (ns.map V.int)):RD K H 2 (.ref l) (Gd ns):=by
 refine RD.lst h ?_;clear h
 induction ns with
 | nil=>exact .nil
 | cons n r ih=>exact .cons (RD.flat rfl 1) ih
def wY (xs:List V):Dt:=.sq true (xs.map fun v=>.at v)
theorem eJ {K:PySem.W.Frag}{H:Hp}{l:Addr}{xs:List V}(h:H l=some (.tup xs))(hf:∀ x∈xs,iz x=true):RD K H 2 (.ref l) (wY xs):=by
 refine RD.tup (c6.of h) ?_;clear h
 induction xs with
 | nil=>exact .nil
 | cons n r ih=>exact .cons (RD.flat (hf n IJ) 1) (ih fun x hx=>hf x (Iz _ hx))
theorem rV {xs ys:List V}:wY xs=wY ys↔xs=ys:=by
 constructor
 ·intro h
  unfold wY at h;injection h with _ h;revert ys
  induction xs with
  | nil=>intro ns h;cases ns with | nil=>rfl | cons _ _=>cases h
  | cons m ms ih =>
   intro ns h
   cases ns with
   | nil=>cases h
   | cons n ns =>
    rw[IT,IT]at h;injection h with h1 h2;injection h1 with h1;rw[h1,ih h2]
 ·intro h;rw[h]
theorem ww (o:rY):∀ x∈ky o,iz x=true:=by
 cases o<;>(intro x hx;simp[ky]at hx;rcases hx with rfl | rfl<;>rfl)
theorem uX {K:PySem.W.Frag}{H:Hp}{l:Addr}{o:rY}(h:H l=some (.tup (ky o))):RD K H 2 (.ref l) (wY (ky o)):=eJ h (ww o)
def FH (P:Program)(w:World)(K:PySem.W.Frag)(mg:Str->Option Value)(base:Heap)(c:HX):Prop:=∃ (fI:Addr)(fd:FuncData),Mk K c.C fI/\bd P w K mg base c7 1 fI fd ["self"] (zi c.C)/\eU K fd ["self"] []
theorem Bz {X:Cx}{c:HX}{p pos:Pos}(M:FH X.prog X.w X.K X.mg X.base c)(U:HT X.K X.mg c)(hr:cu 2 X.A)(hg:Gl X "Hall"):PE X (.Call (.Name "Hall" p) [] [] pos) (D9 c.C (zi c.C) [] E0 rT):=by
 obtain⟨fI,fd,M,G,hb⟩:=M;exact BH M G hr hg U.mC hb .nil dQ
structure Ev (c:HX)(H0 H:Hp)(x:Addr)(B:HA)(st:bO):Prop where
 same:aA H0 H
 hall:az c.C H x B st
 good:d8 st
 nfp:∀ b∈B.fp,H0 b=none
theorem Ev.on {c:HX}{H0 H H':Hp}{x:Addr}{B:HA}{st:bO}(e:Ev c H0 H x B st)(s:aA H H'):Ev c H0 H' x B st:=⟨e.same.trans s,e.hall.mono s,e.good,e.nfp⟩
theorem Ev.moved {c:HX}{H0 H H':Hp}{x:Addr}{B:HA}{st st':bO}(e:Ev c H0 H x B st)(m:eV c.C H x B st' H')(g:d8 st') :
  ∃ B',Ev c H0 H' x B' st'/\(∀ y o,H y=some o->y∉B.fp->H' y=some o/\y∉B'.fp)/\Tr H H':=by
 obtain⟨B',S,k,f,t⟩:=m;refine⟨B',⟨fun b o q=>k b o (e.same b o q) (fun z=>by rw[e.nfp b z]at q;cases q),S,g,fun b hb=>?_⟩,fun y o q n=>⟨k y o q n,fun z=>?_⟩,t⟩
 ·rcases f b hb with z | z
  ·exact e.nfp b z
  ·exact e.same.free z
 ·rcases f y z with z | z
  ·exact n z
  ·rw[q]at z;cases z
theorem Ev.write {c:HX}{H0 H H':Hp}{x:Addr}{B:HA}{st:bO}{ws:List Addr}(e:Ev c H0 H x B st)(k:Kp ws H H')(h1:∀ y∈ws,y∉B.fp)(h2:x∉ws)(h3:∀ y∈ws,H0 y=none)(h4:∀ b xs,H b=some (.tup xs)->b∉ws):Ev c H0 H' x B st :=
 ⟨fun b o q=>k b o (e.same b o q) (fun z=>by rw[h3 b z]at q;cases q),e.hall.kept k h2 (fun b hb z=>h1 b z hb) h4,e.good,e.nfp⟩
theorem Ev.fits {st:bO}(h1:st.worn.length<=100)(h2:st.hold.length<=100)(h3:st.circ.length<=900)(h4:∀ x∈st.circ,x.2.length<=900)(h5:st.deeds.length<=900):zA st:=⟨by omega,by omega,by omega,fun x hx=>by have:=h4 x hx;omega,by omega⟩
def Of (L:List Int)(st:bO):Prop:=(∀ g∈ay st.worn,g∈L)/\(∀ g∈ay st.hold,g∈L)/\(ay st.hold).Nodup
theorem of_empty {L:List Int}:Of L ⟨[],[],[],[]⟩:=⟨fun g h=>by simp[ay]at h,fun g h=>by simp[ay]at h,J8⟩
theorem iA {l:List (Int×Int)}{g m x:Int}:x∈ay (put l g m)↔x∈ay l\/x=g:=by
 rw[vM];split
 ·rename_i h
  constructor
  ·exact .inl
  ·rintro (z | z)
   ·exact z
   ·rw[z];exact h
 ·simp
theorem mF {L:List Int}{st:bO}{d:aD}(G:d8 st)(o:Of L st)(hn:∀ g∈names d,g∈L):Of L (a7 st d):=by
 unfold a7
 by_cases hd:aK st d=.done
 ·rw[Iq hd]
  obtain⟨o1,o2,o3⟩:=o
  cases d with
  | come g =>
   refine⟨fun x hx=>?_,fun x hx=>?_,oA o3 g g⟩
   ·rcases iA.mp (show x∈ay (put st.worn g g) from hx) with z | z
    ·exact o1 x z
    ·rw[z];exact hn g (by simp[names])
   ·rcases iA.mp (show x∈ay (put st.hold g g) from hx) with z | z
    ·exact o2 x z
    ·rw[z];exact hn g (by simp[names])
  | go g =>
   exact⟨fun x hx=>o1 x (om.mp (show x∈ay (cB st.worn g) from hx)).1,fun x hx=>o2 x (om.mp (show x∈ay (cB st.hold g) from hx)).1,y0 o3 g⟩
  | exch a b =>
   obtain⟨ma,ea⟩:∃ m,look st.worn a=some m:=by
    cases e:look st.worn a with
    | none=>simp[aK,e]at hd
    | some m=>exact⟨m,rfl⟩
   obtain⟨mb,eb⟩:∃ m,look st.worn b=some m:=by
    cases e:look st.worn b with
    | none=>simp[aK,ea,e]at hd
    | some m=>exact⟨m,rfl⟩
   have wa:wr st.worn a=ma:=by unfold wr;rw[ea];rfl
   have wb:wr st.worn b=mb:=by unfold wr;rw[eb];rfl
   refine⟨fun x hx=>?_,fun x hx=>?_,oA (oA o3 _ _) _ _⟩
   ·rcases iA.mp (show x∈ay (put (put st.worn a (wr st.worn b)) b (wr st.worn a)) from hx) with z | z
    ·rcases iA.mp z with z | z
     ·exact o1 x z
     ·rw[z];exact hn a (by simp[names])
    ·rw[z];exact hn b (by simp[names])
   ·rcases iA.mp (show x∈ay (put (put st.hold (wr st.worn b) a) (wr st.worn a) b) from hx) with z | z
    ·rcases iA.mp z with z | z
     ·exact o2 x z
     ·rw[z,wb];exact o1 _ (G.ow b mb eb)
    ·rw[z,wa];exact o1 _ (G.ow a ma ea)
 ·rw[Ip hd];exact o
theorem qX {L:List Int}{st:bO}(G:d8 st)(o:Of L st):st.worn.length<=L.length/\st.hold.length<=L.length:=by
 have e1:st.worn.length=(ay st.worn).length:=by simp[ay]
 have e2:st.hold.length=(ay st.hold).length:=by simp[ay]
 exact⟨by rw[e1];exact dB G.wn o.1,by rw[e2];exact dB o.2.2 o.2.1⟩
theorem xX (st:bO)(d:aD):(a7 st d).deeds.length<=st.deeds.length+1:=by
 unfold a7;split
 ·cases d<;>simp[after]
 ·omega
theorem Ae (st:bO)(d:aD):(a7 st d).worn=if aK st d=.done then ue st.worn d else st.worn:=by
 unfold a7;split
 ·exact qv st d
 ·rfl
def sI:rY->Str
 | .done=>"done"
 | .already=>"AlreadyIn"
 | .masked=>"Masked"
 | .same=>"Same"
 | .met=>"Met"
 | .noguest _=>"NoGuest"
theorem ET (o:rY):(ky o)[0]? = some (V.str (sI o)):=by cases o<;>rfl
theorem Aj (o:rY):decide (V.str (sI o)=V.str "done")=decide (o=.done):=by
 cases o with
 | done=>exact (show decide (V.str "done" = V.str "done")=true by decide +kernel)
 | already=>exact (show decide (V.str "AlreadyIn" = V.str "done")=false by decide +kernel)
 | masked=>exact (show decide (V.str "Masked" = V.str "done")=false by decide +kernel)
 | same=>exact (show decide (V.str "Same" = V.str "done")=false by decide +kernel)
 | met=>exact (show decide (V.str "Met" = V.str "done")=false by decide +kernel)
 | noguest g =>
  rw[IM (show ¬ rY.noguest g=.done by simp)];exact (show decide (V.str "NoGuest" = V.str "done")=false by decide +kernel)
theorem tL (m c:Int):(aZ m c).length=m.toNat:=by unfold aZ;simp
theorem Ev.track {c:HX}{H0 H:Hp}{x:Addr}{B:HA}{st:bO}(e:Ev c H0 H x B st){y:Addr}(h:H y=none):y∉B.fp:=fun z=>by
 obtain⟨o,q⟩:=e.hall.tracked z;rw[h]at q;cases q
inductive qc (vs:List V) (H:Hp) (Q:VK) (E_:XK):Prop
 | mk (dr m c:Int) (h_0:vs=[.int dr,.int m,.int c]) (h_1:(0<=dr/\dr<=100000)) (h_2:(2<=m/\m<=40)) (h_3:∀ (t:Addr)(d:aD),H t=none->(∀ g∈names d,g∈aZ 40 c)->Q (.ref t) (upd H t (cI d))):qc vs H Q E_
inductive p8 (vs:List V) (H:Hp) (Q:VK) (E_:XK):Prop
 | mk (c:Int) (h_0:vs=[.int c]) (h_1:∀ m:Int,2<=m/\m<=40->Q (.int m) H):p8 vs H Q E_
theorem xC {k c:Int}(h:0<=k/\k<40):gM k c∈aZ 40 c:=by
 unfold aZ;rw[Je];exact⟨k.toNat,Jt.mpr (by omega),by rw[Int.toNat_of_nonneg h.1]⟩
theorem lg {H:Hp}{l t:Addr}{as:List Addr}{ds:List aD}(hl:H l=some (.lst (as.map V.ref)))(hp:Paired (fun a x=>H a=some (cI x)) as ds)(ht:H t=none)(d:aD):aU (upd (upd H t (cI d)) l (.lst (as.map V.ref++[.ref t]))) l (ds++[d]):=by
 have tl:t≠l:=fun z=>by rw[z,hl]at ht;cases ht
 refine⟨as++[t],by rw[af,Ja];rfl,bC (Paired.mapP hp fun b y e=>?_) (.cons (by rw[ag tl,af]) .nil)⟩;obtain⟨xs,ex⟩:=cz y;rw[ag (fun z=>by rw[z,hl,ex]at e;cases e),ag (ak e ht)];exact e
theorem xx {H H':Hp}{l x:Addr}{ds:List aD}{o:HO}(h:aU H l ds)(hx:H x=some o)(ho:∀ xs,o≠.tup xs)(hlx:l≠x)(k:∀ b u,H b=some u->b≠x->H' b=some u):aU H' l ds:=by
 obtain⟨as,hl,hp⟩:=h;refine⟨as,k _ _ hl hlx,Paired.mapP hp fun b y e=>k _ _ e fun z=>?_⟩;obtain⟨xs,ex⟩:=cz y;rw[z,hx,ex]at e;exact ho xs (Iy e)
inductive kh (C:Addr) (vs:List V) (H:Hp) (Q:VK) (E_:XK):Prop
 | mk (p:Addr) (A:HA) (st:bO) (h_0:vs=[.ref p]) (h_1:az C H p A st) (h_2:∀ (l:Addr)(H':Hp),H l=none->aA H H'->aU H' l st.deeds->Q (.ref l) H'):kh C vs H Q E_
theorem Dc {a b x y:Int}:cZ x y=cZ a b↔(x=a/\y=b)\/(x=b/\y=a):=by
 unfold cZ
 by_cases h1:y<x<;>by_cases h2:b<a
 ·rw[Iq h1,Iq h2,Prod.mk.injEq];omega
 ·rw[Iq h1,Ip h2,Prod.mk.injEq];omega
 ·rw[Ip h1,Iq h2,Prod.mk.injEq];omega
 ·rw[Ip h1,Ip h2,Prod.mk.injEq];omega
theorem Bo {ml:List (Int×Int)}{p q:Int×Int}:q∈pE ml p↔q∈ml\/q=p:=by
 unfold pE;split
 ·rename_i h
  constructor
  ·exact .inl
  ·rintro (z | z)
   ·exact z
   ·rw[z];exact h
 ·simp
def lM (st:bO)(ml:List (Int×Int)):Prop:=∀ a b,iZ st.circ a b=ou ml a b
theorem vt:lM ⟨[],[],[],[]⟩ []:=fun a b=>by unfold iZ ou;simp[iL]
def kN (st:bO)(ml:List (Int×Int))(d:aD):List (Int×Int):=if aK st d=.done then qu ml d else ml
theorem xq {st:bO}{ml:List (Int×Int)}{d:aD}(h:lM st ml):lM (a7 st d) (kN st ml d):=by
 unfold a7 kN
 by_cases hd:aK st d=.done
 ·rw[Iq hd,Iq hd]
  cases d with
  | come g=>exact h
  | go g=>exact h
  | exch a b =>
   intro x y
   show iZ (ca (ca st.circ a b) b a) x y=ou (pE ml (cZ a b)) x y
   rw[uG,h x y];unfold ou
   have e:decide (cZ x y∈pE ml (cZ a b))=(decide (cZ x y∈ml)||decide ((x=a/\y=b)\/(x=b/\y=a))):=by
    rw[<-Bool.decide_or]
    congr 1
    rw[Bo,Dc]
   rw[e,Bool.decide_or,Bool.decide_and,Bool.decide_and,Bool.or_assoc]
 ·rw[Ip hd,Ip hd];exact h
theorem vL {st:bO}{ml:List (Int×Int)}(h:lM st ml)(d:aD):cm st.worn (ou ml) d=aK st d:=by rw[yQ];exact mn (fun a b=>(h a b).symm) d
structure Sz (n:Nat)(st:bO):Prop where
 c:st.circ.length<=2*n
 k:∀ x∈st.circ,x.2.length<=2*n
 d:st.deeds.length<=n
theorem Gp:Sz 0 ⟨[],[],[],[]⟩:=⟨Iv _,(fun x hx=>nomatch hx),Iv _⟩
theorem nz {n:Nat}{st:bO}(h:Sz n st)(d:aD):Sz (n+1) (a7 st d):=by
 have keep:Sz (n+1) st:=⟨by have:=h.c;omega,fun x hx=>by have:=h.k x hx;omega,by have:=h.d;omega⟩;refine⟨?_,?_,by have:=xX st d;have:=h.d;omega⟩
 ·unfold a7
  split
  ·cases d with
   | come g=>exact keep.c
   | go g=>exact keep.c
   | exch a b =>
    show (ca (ca st.circ a b) b a).length<=_
    have:=mx (ca st.circ a b) b a;have:=mx st.circ a b;have:=h.c;omega
  ·exact keep.c
 ·unfold a7
  split
  ·cases d with
   | come g=>exact keep.k
   | go g=>exact keep.k
   | exch a b =>
    intro x hx;have:=qt (n:=2*n+1) (qt (n:=2*n) (a:=a) (b:=b) h.k (by omega)) (by omega) x hx;omega
  ·exact keep.k
theorem l6 {L:List Int}{n:Nat}{st:bO}(G:d8 st)(o:Of L st)(hL:L.length<=100)(z:Sz n st)(hn:n<=400):zA st:=by
 have:=qX G o;exact Ev.fits (by omega) (by omega) (by have:=z.c;omega) (fun x hx=>by have:=z.k x hx;omega) (by have:=z.d;omega)
def HS (ds:List aD):Dt:=.sq false (ds.map fun d=>wY (bz d))
theorem tz {d e:aD}(h:bz d=bz e):d=e:=by
 cases d<;>cases e<;>simp[bz,names,dI]at h<;>first | (subst h;rfl) | (obtain⟨rfl,rfl⟩:=h;rfl) | (exact absurd h (by decide +kernel)) | (exact absurd h.1 (by decide +kernel))
theorem fQ (d:aD):∀ x∈bz d,iz x=true:=by
 cases d<;>(intro x hx;simp[bz,names]at hx)
 ·rcases hx with rfl | rfl<;>rfl
 ·rcases hx with rfl | rfl<;>rfl
 ·rcases hx with rfl | rfl | rfl<;>rfl
theorem wF {K:PySem.W.Frag}{H:Hp}{l:Addr}{ds:List aD}(h:aU H l ds):RD K H 2 (.ref l) (HS ds):=by
 obtain⟨as,hl,hp⟩:=h;refine RD.lst (bF.of hl) ?_;clear hl
 induction hp with
 | nil=>exact .nil
 | cons e _ ih =>
  rename_i a d _ _ _
  refine .cons ?_ ih;rw[iW]at e;refine RD.tup (c6.of e) ?_;have hf:=fQ d;generalize bz d=xs at hf;clear e ih
  induction xs with
  | nil=>exact .nil
  | cons n r ih2=>exact .cons (RD.flat (hf n IJ) 0) (ih2 fun x hx=>hf x (Iz _ hx))
theorem zI {H:Hp}{l t:Addr}{as:List Addr}{ds:List aD}{d:aD}(hl:H l=some (.lst (as.map V.ref)))(hp:Paired (fun a x=>H a=some (cI x)) as ds)(ht:H t=some (cI d)):aU (upd H l (.lst (as.map V.ref++[.ref t]))) l (ds++[d]):=by
 have nt:∀ b y,H b=some (cI y)->b≠l:=fun b y e z=>by obtain⟨xs,ex⟩:=cz y;rw[z,hl,ex]at e;cases e
 refine⟨as++[t],by rw[af,Ja];rfl,bC (Paired.mapP hp fun b y e=>?_) (.cons (by rw[ag (nt t d ht)];exact ht) .nil)⟩;rw[ag (nt b y e)];exact e
theorem Dk (st:bO)(d:aD):(a7 st d).deeds=if aK st d=.done then st.deeds++[d] else st.deeds:=by
 unfold a7;split
 ·cases d<;>rfl
 ·rfl
theorem fo {m c g:Int}(h:g∈aZ m c):bK g:=by
 unfold aZ at h;obtain⟨k,_,rfl⟩:=Je.mp h;exact n8 _ _
theorem AS {xs:List V}(n:Nat):kr xs none (some (n:Int))=xs.take n:=by
 unfold kr;rw[HT.sIx_none,HT.sIx_nat,List.drop_zero,Nat.sub_zero]
 by_cases h:n<=xs.length
 ·rw[Nat.min_eq_left h]
 ·rw[Nat.min_eq_right (by omega),JJ (Iv _),JJ (by omega)]
end Wz
namespace L2
open PySem PySem.Spec PyProof.Rows
theorem wx {X:Cx}{P:Program}{w:World}:d9 (fb P w) X (fun _ _ _=>False):=by
 intro pins σ H s e s' I hc;obtain⟨ea,C,od,H',B,rfl,fl,un,hok,os,bare,hsB,trB,hE⟩:=hc;exact hE.elim
def Cx.tried (X:Cx)(pins:List (Addr×Obj))(E:Value->Shared->Prop):Cx:={ X with xe:=E,pn:=X.pn++pins }
theorem au.tried {X:Cx}{pins:List (Addr×Obj)}{σ:St}{H:Hp}{s:Shared}{E:Value->Shared->Prop}(I:au X pins σ H s):au (X.tried pins E) [] σ H s :=
 ⟨⟨I.ok.mod,I.ok.kind,I.ok.glob,I.ok.blt,I.ok.above,I.ok.inj,I.ok.has,I.ok.cab,I.ok.hd,I.ok.frames,I.ok.stk,I.ok.exf,I.ok.bs,I.ok.bsz,I.ok.noex,I.ok.exfs,I.ok.funs,I.ok.frf⟩,I.os,I.bare,I.base,I.loc,I.cell,I.free,I.freeC,fun p hp=>I.pin p (by
  have hp:p∈(X.pn++pins)++[]:=hp
  rwa [List.append_nil]at hp),I.hok,I.len⟩
theorem au.untried {X:Cx}{pins qins:List (Addr×Obj)}{σ:St}{H:Hp}{s:Shared}{E:Value->Shared->Prop}(I:au (X.tried pins E) qins σ H s):au X pins σ H s :=
 ⟨⟨I.ok.mod,I.ok.kind,I.ok.glob,I.ok.blt,I.ok.above,I.ok.inj,I.ok.has,I.ok.cab,I.ok.hd,I.ok.frames,I.ok.stk,I.ok.exf,I.ok.bs,I.ok.bsz,I.ok.noex,I.ok.exfs,I.ok.funs,I.ok.frf⟩,I.os,I.bare,I.base,I.loc,I.cell,I.free,I.freeC,fun p hp=>I.pin p (by
  show p∈(X.pn++pins)++qins
  exact JG _ hp),I.hok,I.len⟩
def FO (d:Addr)(o:Obj)(kvs:List (bV×V)):It :=
 ⟨fun i H=>H d=some (.frz o (.dK kvs))/\i<kvs.length,fun i H x H'=>H'=H/\∃ p,kvs[i]? = some p/\x=kV p.1,fun i H=>H d=some (.frz o (.dK kvs))/\kvs.length<=i⟩
theorem pT {P:Program}{w:World}{H:Hp}{h:Heap}{d:Addr}{o:Obj}{kvs:List (bV×V)}{ep:Nat}(hep:∀ es ep',o.data=.dict es ep'->ep'=ep)(x:bo P w H h d (.frz o (.dK kvs))):(d == sysModules)=false/\∃ vs,KV kvs vs/\h.DictAt (aB P w) d vs ep:=by
 obtain⟨hg,hz,lo,vs,rel,dd⟩:=x;obtain⟨ep',hat⟩:=dd.dictAt;refine⟨lo,vs,rel,?_⟩;obtain⟨od,es,hod,hcd,hdd,r⟩:=id hat;rw[hg]at hod;cases hod;rw[<-hep _ _ hdd];exact hat
theorem AD {P:Program}{w:World}{K:PySem.W.Frag}{tg:Expr}(d it:Addr)(o:Obj)(kvs:List (bV×V))(ep:Nat)(hep:∀ es ep',o.data=.dict es ep'->ep'=ep):t8 P w K tg (FO d o kvs) [it] it (fun i h=>h.IsKeyIter it d i kvs.length ep) where
 mem:=by simp
 obj:=fun i h st b hb=>by
  have e:b=it:=by simpa using hb
  subst e;obtain⟨o,e,c,d⟩:=st;exact⟨o,e,fun v z=>by rw[d]at z;cases z⟩
 keep:=fun i h h' st k=>st.at fun o e=>k it (by simp) o e
 item:=by
  intro X hP hw hK hc i pins s σ H E I hf st hg;subst hP hw hK;obtain⟨hH,hi⟩:=hg;obtain⟨lo,vs,rel,hat⟩:=pT hep (I.hok d _ hH);obtain⟨f0,f1,f2,f3,f4,f5⟩:=hf it (by simp);have hl:kvs.length=vs.length:=Ix rel;obtain⟨p,hp⟩:∃ p,kvs[i]? = some p:=⟨kvs[i],by simp[hi]⟩;obtain⟨q,hq⟩:∃ q,vs[i]? = some q:=⟨vs[i]'(by omega),by simp[show i<vs.length by omega]⟩;obtain⟨k,v⟩:=q
  have ek:p.1=k:=by
   have e1:(kvs.map (·.1))[i]? = some p.1:=by rw[List.getElem?_map,hp];rfl
   rw[rel.keys,List.getElem?_map,hq]at e1;exact (Iy e1).symm
  rw[hl]at st;refine wpAny_pyNext_dict_item (knd:=aB X.prog X.w) st hat hq fun key h' hk st' sb=>?_;have I1:au X pins σ H { s with heap:=h' }:=I.turned (t':=s.toks) (fun b o hb e=>(sb.2 b hb).trans e) f0 f1 f3 f4 f5;obtain⟨o2,e,c,d2⟩:=id st';refine⟨key,rfl,yM (s:={ s with heap:=h' }) e c d2 (by decide) ⟨kV k,H,I1,?_,⟨rfl,p,hp,by rw[ek]⟩,by rw[hl];exact st',fun b hb=>(hf b hb).1⟩⟩;rcases bM (k:=k) (v:=key) hk with ⟨j,t,ej,ev⟩ | ⟨j,t,ej,ev⟩
  ·subst ej;exact⟨t,ev⟩
  ·subst ej;exact⟨t,ev⟩
 done:=by
  intro X hP hw hK hc i pins s σ H E I hf st hg;subst hP hw hK;obtain⟨hH,hi⟩:=hg;obtain⟨lo,vs,rel,hat⟩:=pT hep (I.hok d _ hH);have hl:kvs.length=vs.length:=Ix rel;obtain⟨f0,f1,f2,f3,f4,f5⟩:=hf it (by simp);rw[hl]at st;exact wpAny_pyNext_dict_end (knd:=aB X.prog X.w) (I.ok.hd hc) st hat (by simp;omega) fun h' eb=>⟨rfl,I.turned (t':=s.toks) (fun b o hb e=>eb b o hb e) f0 f1 f3 f4 f5⟩
 self:=fun _ _ _ _ _ st h=>wpAny_pyIter_keyiter st h
def F5 (tl:TE):TI:=fun σ H R=>tl σ H fun x H1=>∃ d kvs,x=.ref d/\H1 d=some (.dK kvs)/\∀ o:Obj,R (FO d o kvs) (upd H1 d (.frz o (.dK kvs)))
theorem y7 {X:Cx}{tg l:Expr}{tl:TE}(hl:PE X l tl):PI X tg l (F5 tl):=by
 intro pins s σ H R I h;refine bx (hl pins s σ H _ I h) fun v s1 ⟨x,H1,I1,r1,q1⟩=>?_;obtain⟨d,kvs,e,hH,q⟩:=q1;subst e;cases r1;obtain⟨hz,lo,vs,rel,dd⟩:=(show bo X.prog X.w H1 s1.heap d (.dK kvs) from I1.hok d _ hH);obtain⟨ep,hat⟩:=dd.dictAt;obtain⟨o,es,ho,hc,hdat,r⟩:=id hat;have hl2:kvs.length=vs.length:=Ix rel;refine wpAny_pyIter_dict (knd:=aB X.prog X.w) lo hat ?_;have I2:au X pins σ (upd H1 d (.frz o (.dK kvs))) { s1 with heap:=s1.heap,toks:=s1.toks }:=I1.write (by rw[hH];trivial) (.inl rfl) (fun b u _ e=>e) ⟨_,ho⟩ ⟨ho,hz,lo,vs,rel,dd⟩;refine⟨s1.heap.objs.size,[s1.heap.objs.size],_,_,_,rfl,I2.kept (t':=s1.toks) fun b o e=>Heap.get?_push_of_some _ e,AD d _ o kvs ep (fun es' ep' e=>?_),⟨_,Heap.get?_push_size _ rfl,rfl,by rw[hl2];rfl⟩,fun b hb=>?_,q o⟩
 ·rw[hdat]at e;cases e;rfl
 ·have e:b=s1.heap.objs.size:=by simpa using hb
  subst e;exact I2.fpOk (Iv _) (I2.hok.fresh (Iv _))
theorem vH {d:Addr}{o:Obj}{kvs:List (bV×V)}{g:TG}{tb:TS}{D:hG}{σ:St}{H:Hp}(Pv:Nat->St->Hp->Prop)(h0:Pv 0 σ H)(hl:∀ i σ H,i<=kvs.length->Pv i σ H->H d=some (.frz o (.dK kvs)))
  (hs:∀ i p σ H,kvs[i]? = some p->Pv i σ H->g (kV p.1) σ H fun σ2 H2=>tb { D with nx:=Pv (i+1),ct:=Pv (i+1),bk:=D.nx } σ2 H2) (hd:∀ σ H,Pv kvs.length σ H->D.nx σ H) :
  ∃ W:Nat->Nat->St->Hp->Prop,(∃ m,W 0 m σ H)/\∀ i m σ H,W i m σ H ->
   ((FO d o kvs).stop i H/\D.nx σ H)\/((FO d o kvs).go i H/\∃ N:St->Hp->Prop,(∀ σ' H',N σ' H'->∃ m',m'<m/\W (i+1) m' σ' H')/\∀ x H',(FO d o kvs).yld i H x H'->g x σ H' fun σ2 H2=>tb { D with nx:=N,ct:=N,bk:=D.nx } σ2 H2):=by
 refine⟨fun i m σ H=>m=kvs.length-i/\i<=kvs.length/\Pv i σ H,⟨kvs.length,by simp,IX _,h0⟩,?_⟩;rintro i m σ H ⟨rfl,hi,p⟩;have q:=hl i σ H hi p
 by_cases hlt:i<kvs.length
 ·refine .inr ⟨⟨q,hlt⟩,Pv (i+1),fun σ' H' p'=>⟨kvs.length-(i+1),by omega,rfl,hlt,p'⟩,fun x H' y=>?_⟩
  obtain⟨e,p2,hp,ex⟩:=y;subst e ex;exact hs i p2 σ _ hp p
 ·have e:i=kvs.length:=by omega
  subst e;exact .inl ⟨⟨q,Iv _⟩,hd σ H p⟩
end L2
namespace Wz
open PySem L2
def aJ (ds:List aD):bO:=ds.foldl after ⟨[],[],[],[]⟩
theorem kj (ds:List aD)(d:aD):aJ (ds++[d])=after (aJ ds) d:=by unfold aJ;rw[List.foldl_append];rfl
def cU (ds:List aD):Prop:=∀ i d,ds[i]? = some d->aK (aJ (ds.take i)) d=.done
theorem vD:cU []:=fun i d h=>by simp at h
theorem iX {ds:List aD}{d:aD}(h:cU ds)(hd:aK (aJ ds) d=.done):cU (ds++[d]):=by
 intro i e he
 by_cases hi:i<ds.length
 ·rw[List.getElem?_append_left hi]at he
  rw[List.take_append_of_le_length (by omega)];exact h i e he
 ·have hl:=(List.getElem?_eq_some_iff.mp he).1
  rw[ID,IY]at hl
  have e1:i=ds.length:=by omega
  subst e1;simp at he;subst he;simpa using hd
theorem vq (st:bO)(d:aD):(after st d).deeds=st.deeds++[d]:=by cases d<;>rfl
structure zB (H0 H:Hp)(w m ls:Addr)(st:bO)(ml:List (Int×Int)):Prop where
 hw:H w=some (.dK (dk st.worn))
 hm:H m=some (.dT (js ml))
 hs:aU H ls st.deeds
 w0:H0 w=none
 m0:H0 m=none
 s0:H0 ls=none
theorem zB.on {H0 H H':Hp}{w m ls:Addr}{st:bO}{ml:List (Int×Int)}(e:zB H0 H w m ls st ml)(s:aA H H'):zB H0 H' w m ls st ml:=⟨s _ _ e.hw,s _ _ e.hm,bq e.hs s,e.w0,e.m0,e.s0⟩
theorem zB.ws {H0 H:Hp}{w m ls:Addr}{st:bO}{ml:List (Int×Int)}(e:zB H0 H w m ls st ml):w≠ls:=by obtain⟨as,h,_⟩:=e.hs;exact cJ e.hw h (by intro z;cases z)
theorem zB.ms {H0 H:Hp}{w m ls:Addr}{st:bO}{ml:List (Int×Int)}(e:zB H0 H w m ls st ml):m≠ls:=by obtain⟨as,h,_⟩:=e.hs;exact cJ e.hm h (by intro z;cases z)
theorem zB.done {H0 H H1:Hp}{w m ls:Addr}{st:bO}{ml:List (Int×Int)}{d:aD}(e:zB H0 H w m ls st ml)(hj:aK st d=.done)
  (h1:H1 w=some (.dK (dk (ue st.worn d)))) (h2:H1 m=some (.dT (js (qu ml d)))) (k:∀ b o,H b=some o->b≠w->b≠m->H1 b=some o)
  {as:List Addr} (hl:H ls=some (.lst (as.map V.ref))) (hp:Paired (fun a x=>H a=some (cI x)) as st.deeds) {t:Addr} (ht:H t=some (cI d)) :
  zB H0 (upd H1 ls (.lst (as.map V.ref++[.ref t]))) w m ls (a7 st d) (kN st ml d)/\H1 ls=some (.lst (as.map V.ref)):=by
 have nt:∀ b y,H b=some (cI y)->b≠w/\b≠m:=fun b y q=>by
  obtain⟨xs,ex⟩:=cz y;rw[ex]at q;exact⟨cJ q e.hw (by intro z;cases z),cJ q e.hm (by intro z;cases z)⟩
 have hl1:=k _ _ hl (IN e.ws) (IN e.ms);have d1:aU (upd H1 ls (.lst (as.map V.ref++[.ref t]))) ls (st.deeds++[d]):=zI hl1 (Paired.mapP hp fun b y q=>k _ _ q (nt b y q).1 (nt b y q).2) (k _ _ ht (nt t d ht).1 (nt t d ht).2);refine⟨⟨?_,?_,?_,e.w0,e.m0,e.s0⟩,hl1⟩
 ·rw[ag e.ws,Ae,Iq hj];exact h1
 ·rw[ag e.ms];unfold kN;rw[Iq hj];exact h2
 ·rw[Dk,Iq hj];exact d1
inductive nu (c:HX) (vs:List V) (H:Hp) (Q:VK) (E_:XK):Prop
 | mk (l:Addr) (ds:List aD) (L:List Int) (h_0:vs=[.ref l]) (h_1:aU H l ds) (h_2:cU ds) (h_3:ds.length<=88) (h_4:L.length<=100) (h_5:(∀ d∈ds,∀ g∈names d,g∈L/\bK g)) (h_6:∀ (x:Addr)(B:HA)(H':Hp),H x=none->Ev c H H' x B (aJ ds)->Q (.ref x) H'):nu c vs H Q E_
theorem jE:∀ {l:List (Int×Int)}{g m:Int},(ay l).Nodup->(g,m)∈l->look l g=some m
 | p::l,g,m,nd,h=>by
  unfold ay at nd;rw[IT,I0]at nd;unfold look;rcases IE.mp h with z | z
  ·rw[<-z,Iq rfl]
  ·rw[Ip (fun e=>nd.1 (by rw[e];exact Ku (f:=(·.1)) z))]
   exact jE nd.2 z
end Wz
namespace L2
open PySem PySem.Spec PyProof.Rows
theorem au.turned2 {X:Cx}{pins:List (Addr×Obj)}{σ:St}{H:Hp}{s:Shared}{h':Heap}{t':Nat}{e it:Addr}(I:au X pins σ H s)(k:∀ b o,b≠e->b≠it->s.heap.get? b=some o->h'.get? b=some o)(fe:fT X pins H e)(fi:fT X pins H it):au X pins σ H { s with heap:=h',toks:=t' }:=by
 obtain⟨e0,e1,e2,e3,e4,e5⟩:=fe;obtain⟨i0,i1,i2,i3,i4,i5⟩:=fi;have nit:∀ b u,H b=some u->b≠e/\b≠it:=fun b u q=>⟨(fun z=>by rw[z,e0]at q;cases q),(fun z=>by rw[z,i0]at q;cases q)⟩
 have nn:∀ b,b∉[e,it]->b≠e/\b≠it:=fun b hb=>by simpa using hb
 refine I.step (g':=s.gens) (d':=s.drawn) (ch:=[e,it]) (fun b hb=>?_) (fun b o _ _ hc q _=>k b o (nn b hc).1 (nn b hc).2 q) (fun b o _ _ hc q _=>⟨o.slots,k b o (nn b hc).1 (nn b hc).2 q⟩) (fun _ _ _ _ n=>n)
  (fun b o hc q=>⟨o,k b o (nn b hc).1 (nn b hc).2 q⟩) (fun _ _ q=>q) (fun _ _ _ q=>q) (fun b ps q=>⟨#[],by rw[q];simp⟩) (fun m hm=>?_) (fun b u q=>?_) I.bare
 ·have hb:b=e\/b=it:=by simpa using hb
  rcases hb with rfl | rfl
  ·exact⟨e3,e1,e4,e5⟩
  ·exact⟨i3,i1,i4,i5⟩
 ·obtain⟨o,es,ep,ho,r⟩:=hm
  exact⟨o,es,ep,k _ o (IN e1) (IN i1) ho,r⟩
 ·refine (I.hok b u q).stay (fun c v hc z=>k c v ?_ ?_ z) (fun _ z=>z) fun _ _ z=>z
  ·rcases hc with z | z
   ·rw[z];exact (nit b u q).1
   ·exact (nit c _ z).1
  ·rcases hc with z | z
   ·rw[z];exact (nit b u q).2
   ·exact (nit c _ z).2
def FP (K:PySem.W.Frag)(l:Addr):It :=
 ⟨fun i H=>∃ xs x,bF K H l xs/\xs[i]? = some x,fun i H y H'=>∃ T x,H T=none/\y=.ref T/\H'=upd H T (.tup [.int i,x])/\∀ xs,bF K H l xs->xs[i]? = some x,fun i H=>∃ xs,bF K H l xs/\xs.length<=i⟩
theorem AE {P:Program}{w:World}{K:PySem.W.Frag}{elts:List Expr} {kk}{pos:Pos}(e it l:Addr)(hne:e≠it):t8 P w K (.Tuple elts kk pos) (FP K l) [e,it] e (fun i h=>(∃ old,IsEnum h e it (i:Nat) old)/\h.IsListIter it l i) where
 mem:=by simp
 obj:=fun i h st b hb=>by
  obtain⟨⟨old,he⟩,⟨o,eo,c,d⟩⟩:=st
  have hb:b=e\/b=it:=by simpa using hb
  rcases hb with rfl | rfl
  ·exact⟨_,he,fun v z=>by cases z⟩
  ·exact⟨o,eo,fun v z=>by rw[d]at z;cases z⟩
 keep:=fun i h h' st k=>⟨st.1.elim fun old he=>⟨old,k e (by simp) _ he⟩,st.2.at fun o x=>k it (by simp) o x⟩
 item:=by
  intro X hP hw hK hc i pins s σ H E I hf st hg;subst hP hw hK;obtain⟨xs,x,hq,hx⟩:=hg;obtain⟨its,rv,p,hz⟩:=I.list hq;obtain⟨u,hu,ru⟩:=rv.get hx;obtain⟨⟨old,he⟩,hit⟩:=st;have fe:=hf e (by simp);have fi:=hf it (by simp);have lte:e<s.heap.objs.size:=IA he
  have lti:it<s.heap.objs.size:=by obtain⟨_,q,_⟩:=id hit;exact IA q
  refine wpAny_pyNext_enum_item he hit p.isList (x:=u) (by simpa using hu) hne fun h' ho hit' hT hsz hk=>⟨.ref s.heap.objs.size,rfl,?_⟩;refine wpAny_letOwnedTupleGo_enum (s:={ s with heap:=h',toks:=s.toks+1 }) ho fun h2 he2 sb2=>?_;have hfr:H s.heap.objs.size=none:=I.hok.fresh (Iv _)
  have IL:au X pins σ (upd H s.heap.objs.size (.tup [.int i,x])) { s with heap:=s.heap.push { cls:=.type "tuple",data:=.seq #[.int i s.toks,u] },toks:=s.toks } :=
   I.laid (fun b o q=>Heap.get?_push_of_some _ q) (Iv _) ⟨by show 2<=sizeLine;decide,[.int i s.toks,u],.cons ⟨_,rfl⟩ (.cons ru .nil),⟨_,Heap.get?_push_size _ rfl,rfl,_,rfl⟩⟩
  have fp':∀ b,b<s.heap.objs.size->fT X pins H b->fT X pins (upd H s.heap.objs.size (.tup [.int i,x])) b:=fun b hb ⟨f0,f1,f2,f3,f4,f5⟩=>⟨by rw[ag (IC hb)];exact f0,f1,f2,f3,f4,f5⟩
  have I2:au X pins σ (upd H s.heap.objs.size (.tup [.int i,x])) { s with heap:=h2,toks:=s.toks+1 }:=IL.turned2 (t':=s.toks+1) (h':=h2) (fun b o n1 n2 q=>by
   refine (sb2.2 b n1).trans ?_
   show h'.get? b=some o
   by_cases hb:b=s.heap.objs.size
   ·subst hb
    have q:(s.heap.push { cls:=.type "tuple",data:=.seq #[.int i s.toks,u] }).get? s.heap.objs.size=some o:=q;rw[Heap.get?_push_size _ rfl]at q;cases q;exact hT
   ·have q:(s.heap.push { cls:=.type "tuple",data:=.seq #[.int i s.toks,u] }).get? b=some o:=q
    refine hk b o n1 n2 ?_;rw[Heap.get?_push_ne _ _ _ hb]at q
    exact q) (fp' e lte fe) (fp' it lti fi)
  refine⟨.ref s.heap.objs.size,_,I2,rfl,⟨s.heap.objs.size,x,hfr,rfl,rfl,fun ys hy=>by rw[I.list_inj hy hq];exact hx⟩,⟨⟨_,by simpa using he2⟩,hit'.at fun o q=>(sb2.2 it (IN hne)).trans q⟩,fun b hb=>?_⟩
  have hb':b=e\/b=it:=by simpa using hb
  rcases hb' with rfl | rfl
  ·exact (fp' _ lte fe).1
  ·exact (fp' _ lti fi).1
 done:=by
  intro X hP hw hK hc i pins s σ H E I hf st hg;subst hP hw hK;obtain⟨xs,hq,hx⟩:=hg;obtain⟨its,rv,p,hz⟩:=I.list hq;obtain⟨⟨old,he⟩,hit⟩:=st;obtain⟨f0,f1,f2,f3,f4,f5⟩:=hf it (by simp);have hl:=rv.length;exact wpAny_pyNext_enum_end (I.ok.hd hc) he hit p.isList (by simp;omega) fun h' eb=>⟨rfl,I.turned (t':=s.toks) (fun b o hb q=>eb b o hb q) f0 f1 f3 f4 f5⟩
 self:=fun _ _ _ _ _ st h=>st.1.elim fun old he=>wpAny_pyIter_enum he h
def F6 (K:PySem.W.Frag)(t:TA):TI:=fun σ H R=>t σ H fun vs H1=>∃ l,vs=[.ref l]/\(∃ xs,bF K H1 l xs)/\R (FP K l) H1
theorem y9 {X:Cx}{elts:List Expr} {kk}{tpos:Pos}{a:Expr}{ta:TA}{p pos:Pos}(hg:Gl X "enumerate")(hm:X.mg "enumerate" = none)(ha:PA X [a] ta)
  (he:starEach [a] X.env=(false,eval a X.env)::starEach [] X.env:=by rfl) (hpl:(backTo pos (starEach [] X.env)).any (·.1)=false:=by rfl):PI X (.Tuple elts kk tpos) (.Call (.Name "enumerate" p) [a] [] pos) (F6 X.K ta):=by
 intro pins s σ H R I h;refine JE (oj I hg hm boot_enumerate ?_ (by decide) (by decide));refine PyProof.Rows.callWith_type1 (bx (ha pos pins s σ H _ I h) fun us s1 ⟨vs,H1,I1,r1,l,e1,⟨xs,hq⟩,q⟩=>?_) he hpl;subst e1;obtain⟨u,rfl,rx⟩:=kW r1;cases rx;obtain⟨its,rv,pl,hz⟩:=I1.list hq;refine call_enumerate_list pl.isList fun h' hE hI hsz hk=>?_;have I2:au X pins σ H1 { s1 with heap:=h',toks:=s1.toks }:=I1.kept hk;refine wpAny_pyIter_enum (s:={ s1 with heap:=h' }) hE ?_;refine⟨s1.heap.objs.size+1,[s1.heap.objs.size+1,s1.heap.objs.size],_,_,H1,rfl,I2,AE _ _ l (Nat.succ_ne_self _),⟨⟨_,hE⟩,hI⟩,fun b hb=>?_,q⟩
 have hb:b=s1.heap.objs.size+1\/b=s1.heap.objs.size:=by simpa using hb
 rcases hb with rfl | rfl
 ·exact I1.fpOk (KH _) (I1.hok.fresh (KH _))
 ·exact I1.fpOk (Iv _) (I1.hok.fresh (Iv _))
theorem vI {K:PySem.W.Frag}{a:Addr}{xs:List V}{g:TG}{tb:TS}{D:hG}{σ:St}{H:Hp}(Pv:Nat->St->Hp->Prop)(h0:Pv 0 σ H)(hl:∀ i σ H,i<=xs.length->Pv i σ H->bF K H a xs)
  (hs:∀ i x σ H T,xs[i]? = some x->Pv i σ H->H T=none->g (.ref T) σ (upd H T (.tup [.int i,x])) fun σ2 H2=>tb { D with nx:=Pv (i+1),ct:=Pv (i+1),bk:=D.nx } σ2 H2) (hd:∀ σ H,Pv xs.length σ H->D.nx σ H) :
  ∃ W:Nat->Nat->St->Hp->Prop,(∃ m,W 0 m σ H)/\∀ i m σ H,W i m σ H ->
   ((FP K a).stop i H/\D.nx σ H)\/((FP K a).go i H/\∃ N:St->Hp->Prop,(∀ σ' H',N σ' H'->∃ m',m'<m/\W (i+1) m' σ' H')/\∀ x H',(FP K a).yld i H x H'->g x σ H' fun σ2 H2=>tb { D with nx:=N,ct:=N,bk:=D.nx } σ2 H2):=by
 refine⟨fun i m σ H=>m=xs.length-i/\i<=xs.length/\Pv i σ H,⟨xs.length,by simp,IX _,h0⟩,?_⟩;rintro i m σ H ⟨rfl,hi,p⟩;have q:=hl i σ H hi p
 by_cases hlt:i<xs.length
 ·refine .inr ⟨⟨xs,xs[i],q,by simp[hlt]⟩,Pv (i+1),fun σ' H' p'=>⟨xs.length-(i+1),by omega,rfl,hlt,p'⟩,fun y H' z=>?_⟩
  obtain⟨T,x,hT,e1,e2,hx⟩:=z;subst e1 e2;exact hs i x σ _ T (hx xs q) p hT
 ·have e:i=xs.length:=by omega
  subst e;exact .inl ⟨⟨xs,q,Iv _⟩,hd σ H p⟩
end L2
namespace Wz
open PySem L2
theorem ym (l:List Int):(b7 l).Pairwise (·<=·):=by
 have h1:(b7 l).Pairwise (fun a b=>decide (a<=b)=true):=List.pairwise_mergeSort (by intro a b c;simp;omega) (by intro a b;simp;omega) l;exact h1.imp (by simp)
theorem yn (l:List Int):(b7 l).Perm l:=Kr l _
end Wz
namespace L2
open PySem PySem.Spec PyProof.Rows
theorem sd (elt t0 i0:Expr)(c0:List Expr)(t1 i1:Expr)(c1:List Expr)(scope:Scope)(pos:Pos)(it acc:Value)(env:Env) :
  compTurn (.ListComp elt [⟨t0,i0,c0,0⟩,⟨t1,i1,c1,0⟩] scope pos) 0 it acc env=(do
   standAt i0.pos
   match <-pyNext it with
   | none=>pure (.done .next)
   | some v =>
    letOwnedTupleGo t0 it v
    assign t0 env v
    let mut ok:=true
    for c in c0 do
     if ok then ok <-isTrue c env (eval c env)
    if ok then
     let x <-eval i1 env
     standAt i1.pos
     let x <-foldedSetIterable i1 env x
     let it1 <-holding [x] (pyIter x)
     let _ <-runOwn (.compStart (.ListComp elt [⟨t0,i0,c0,0⟩,⟨t1,i1,c1,0⟩] scope pos) 1 it1 acc env) env
     again (.compLoop (.ListComp elt [⟨t0,i0,c0,0⟩,⟨t1,i1,c1,0⟩] scope pos) 0 it acc env)
    else
     again (.compLoop (.ListComp elt [⟨t0,i0,c0,0⟩,⟨t1,i1,c1,0⟩] scope pos) 0 it acc env)):=by rfl
theorem se (elt t0 i0:Expr)(c0:List Expr)(t1 i1:Expr)(c1:List Expr)(scope:Scope)(pos:Pos)(it acc:Value)(env:Env) :
  compTurn (.ListComp elt [⟨t0,i0,c0,0⟩,⟨t1,i1,c1,0⟩] scope pos) 1 it acc env=(do
   standAt i1.pos
   match <-pyNext it with
   | none=>pure (.done .next)
   | some v =>
    letOwnedTupleGo t1 it v
    assign t1 env v
    let mut ok:=true
    for c in c1 do
     if ok then ok <-isTrue c env (eval c env)
    if ok then
     (do let _ <-call (.builtin "list.append") [acc,<-eval elt env])
    again (.compLoop (.ListComp elt [⟨t0,i0,c0,0⟩,⟨t1,i1,c1,0⟩] scope pos) 1 it acc env)):=by rfl
section
variable {prog:Program}{w:World}{A:Around}{R:Result->Shared->Prop}{s:Shared}{elt t0 i0 t1 i1:Expr}{c0 c1:List Expr}{scope:Scope}{pos:Pos}{it acc:Value}{env:Env}
theorem kq (I:Nat->Shared->Prop)
  (turn:∀ n s,I n s->wpAny (model prog w) A (pyNext it) (fun r s₁=>match r with
   | none=>R (.ok .next) s₁
   | some v=>wpAny (model prog w) A (letOwnedTupleGo t1 it v) (fun _ s₁'=>wpAny (model prog w) A (assign t1 env v) (fun _ s₂ =>
     wpAny (model prog w) A (forIn c1 true fun c r=>if r=true then do let ok <-isTrue c env (eval c env);pure (ForInStep.yield ok) else pure (ForInStep.yield r)) (fun ok s₃ =>
      if ok=true then wpAny (model prog w) A (eval elt env) (fun x s₄ =>
       wpAny (model prog w) A (call (.builtin "list.append") [acc,x]) (fun _ s₅=>∃ m,m<n/\I m s₅) (fun _ _=>False) s₄) (fun _ _=>False) s₃
      else ∃ m,m<n/\I m s₃) (fun _ _=>False) s₂) (fun _ _=>False) s₁') (fun _ _=>False) s₁) (fun _ _=>False) s)
  (n:Nat) (h:I n s) :
  codeAny (model prog w) A (.compLoop (.ListComp elt [⟨t0,i0,c0,0⟩,⟨t1,i1,c1,0⟩] scope pos) 1 it acc env) R s:=by
 refine codeAny_loop rfl I (fun n s hI=>?_) n h
 show wpAny _ A ((compTurn (.ListComp elt [⟨t0,i0,c0,0⟩,⟨t1,i1,c1,0⟩] scope pos) 1 it acc env).onRaise (fun x=>do noteFrame x env;theTreesLotGoes x)) _ _ s
 refine wpAny_noted ?_;rw[se];refine Io (JA (Io (IS (turn n s hI) (fun r s₁ h₁=>?_) fun _ _ h'=>h'.elim)))
 cases r with
 | none=>exact Iu h₁
 | some v =>
  refine Io (IS h₁ (fun _ s₁' h₁'=>?_) fun _ _ h'=>h'.elim);refine Io (IS h₁' (fun _ s₂ h₂=>Io (IS h₂ (fun ok s₃ h₃=>?_) fun _ _ h'=>h'.elim)) fun _ _ h'=>h'.elim)
  cases ok with
  | false=>exact Iu ⟨rfl,h₃⟩
  | true =>
   exact Io (Io (IS h₃ (fun x s₄ h₄=>Io (IS h₄ (fun _ s₅ h₅=>Iu (Iu ⟨rfl,h₅⟩)) fun _ _ h'=>h'.elim)) fun _ _ h'=>h'.elim))
theorem jC (hs:∀ x,foldedSetIterable i1 env x=pure x)(I:Nat->Shared->Prop)
  (turn:∀ n s,I n s->wpAny (model prog w) A (pyNext it) (fun r s₁=>match r with
   | none=>R (.ok .next) s₁
   | some v=>wpAny (model prog w) A (letOwnedTupleGo t0 it v) (fun _ s₁'=>wpAny (model prog w) A (assign t0 env v) (fun _ s₂ =>
     wpAny (model prog w) A (forIn c0 true fun c r=>if r=true then do let ok <-isTrue c env (eval c env);pure (ForInStep.yield ok) else pure (ForInStep.yield r)) (fun ok s₃ =>
      if ok=true then wpAny (model prog w) A (eval i1 env) (fun x s₄ =>
       wpAny (model prog w) A (pyIter x) (fun it1 s₅=>codeAny (model prog w) A (.compStart (.ListComp elt [⟨t0,i0,c0,0⟩,⟨t1,i1,c1,0⟩] scope pos) 1 it1 acc env) (fun r s₆=>r=.ok .next/\∃ m,m<n/\I m s₆) s₅) (fun _ _=>False) s₄) (fun _ _=>False) s₃
      else ∃ m,m<n/\I m s₃) (fun _ _=>False) s₂) (fun _ _=>False) s₁') (fun _ _=>False) s₁) (fun _ _=>False) s)
  (n:Nat) (h:I n s) :
  codeAny (model prog w) A (.compLoop (.ListComp elt [⟨t0,i0,c0,0⟩,⟨t1,i1,c1,0⟩] scope pos) 0 it acc env) R s:=by
 refine codeAny_loop rfl I (fun n s hI=>?_) n h
 show wpAny _ A ((compTurn (.ListComp elt [⟨t0,i0,c0,0⟩,⟨t1,i1,c1,0⟩] scope pos) 0 it acc env).onRaise (fun x=>do noteFrame x env;theTreesLotGoes x)) _ _ s
 refine wpAny_noted ?_;rw[sd];refine Io (JA (Io (IS (turn n s hI) (fun r s₁ h₁=>?_) fun _ _ h'=>h'.elim)))
 cases r with
 | none=>exact Iu h₁
 | some v =>
  refine Io (IS h₁ (fun _ s₁' h₁'=>?_) fun _ _ h'=>h'.elim);refine Io (IS h₁' (fun _ s₂ h₂=>Io (IS h₂ (fun ok s₃ h₃=>?_) fun _ _ h'=>h'.elim)) fun _ _ h'=>h'.elim)
  cases ok with
  | false=>exact Iu ⟨rfl,h₃⟩
  | true =>
   refine Io (IS h₃ (fun x s₄ h₄=>?_) fun _ _ h'=>h'.elim);refine Io (JA (Io (wpAny_of_eq (hs x) ?_)));refine Io (Jv (IS h₄ (fun it1 s₅ h₅=>?_) fun _ _ h'=>h'.elim));refine Io (wpAny_runOwn (JH h₅ fun r s₆ h₆=>?_));obtain⟨rfl,h₆⟩:=h₆;exact Iu ⟨rfl,h₆⟩
theorem jD
  (h0:codeAny (model prog w) A (.compLoop (.ListComp elt [⟨t0,i0,c0,0⟩,⟨t1,i1,c1,0⟩] scope pos) 1 it acc env) R s)
  (h:wpAny (model prog w) A (pyIter it) (fun it' s'=>codeAny (model prog w) A (.compLoop (.ListComp elt [⟨t0,i0,c0,0⟩,⟨t1,i1,c1,0⟩] scope pos) 1 it' acc env) R s')
   (notedBy (model prog w) A env fun x s'=>R (.error x) s') s) :
  codeAny (model prog w) A (.compStart (.ListComp elt [⟨t0,i0,c0,0⟩,⟨t1,i1,c1,0⟩] scope pos) 1 it acc env) R s:=by
 refine codeAny_of_tree ?_
 show wpAny _ _ ((compStart (.ListComp elt [⟨t0,i0,c0,0⟩,⟨t1,i1,c1,0⟩] scope pos) 1 it acc env).onRaise (fun x=>do noteFrame x env;standAt theWindowsPlace)) _ _ s
 refine wpAny_notedAt ?_;unfold compStart
 show wpAny _ _ (ask >>= _) _ _ s
 refine Io (wpAny_askSetting (wpAny_ite ?_));split
 ·first
   | exact Io (Iu (Iu (And.intro rfl h0)))
   | exact Iu (And.intro rfl h0)
 ·first
   | exact Io (KU (Io (JA (Io (IS h (fun it' s' h'=>Iu (And.intro rfl h')) fun _ _ x=>x)))))
   | (refine Io (KU ?_);show wpAny _ _ (standAt i1.pos >>= _) _ _ s;exact Io (JA (Io (IS h (fun it' s' h'=>Iu (And.intro rfl h')) fun _ _ x=>x))))
end
theorem xu {Y:Cx}{P:List (Addr×Obj)}{σ:St}{H:Hp}{s:Shared}{elt t0 i0 t1 i1:Expr}{c0 c1:List Expr}{sc:Scope}{pos:Pos}{it a:Addr}{fp:List Addr}{tn:Nat->Heap->Prop}{J:It}{g:TG}{tt:TT}{te:TE}{nx:St->Hp->Prop}{rt:VK}{bk ct:St->Hp->Prop}
  (hc:Y.calm=true) (hxe:Y.xe=fun _ _=>False) (I:au Y P σ H s) (T:t8 Y.prog Y.w Y.K t1 J fp it tn) (st:tn 0 s.heap) (f:∀ b∈fp,fT Y P H b) (hL:lT J g (CB tt te a) ⟨nx,rt,bk,ct⟩ σ H) (hg:PG Y t1 g) (ht:DT Y c1 tt) (he:PE Y elt te) :
  codeAny (model Y.prog Y.w) Y.A (.compLoop (.ListComp elt [⟨t0,i0,c0,0⟩,⟨t1,i1,c1,0⟩] sc pos) 1 (.ref it) (.ref a) Y.env) (fun r s'=>r=.ok .next/\∃ σ' H',au Y P σ' H' s'/\nx σ' H') s:=by
 obtain⟨W,⟨m0,w0⟩,turn⟩:=hL;have stat:∀ {H':Hp},(∀ b∈fp,H' b=none)->∀ b∈fp,fT Y P H' b:=fun {H'} hn b hb=>⟨hn b hb,(f b hb).2⟩;refine kq (fun n s'=>∃ i σ' H',au Y P σ' H' s'/\tn i s'.heap/\(∀ b∈fp,H' b=none)/\W i n σ' H') ?_ m0 ⟨0,_,_,I,st,fun b hb=>(f b hb).1,w0⟩;rintro n s6 ⟨i,σ6,H6,I6,st6,fr6,w6⟩;rcases turn i n σ6 H6 w6 with ⟨stop,qn⟩ | ⟨go,Nx,hN,step⟩
 ·refine bx (T.done Y rfl rfl rfl hc i P s6 σ6 H6 _ I6 (stat fr6) st6 stop) fun r s7 ⟨hr,I7⟩=>?_
  subst hr;exact⟨rfl,σ6,H6,I7,qn⟩
 ·refine bx (T.item Y rfl rfl rfl hc i P s6 σ6 H6 _ I6 (stat fr6) st6 go) fun r s7 ⟨u,hr,h7⟩=>?_
  subst hr;refine bx h7 fun _ s8 ⟨x,H8,I8,r8,y8,st8,fr8⟩=>?_;have I8':=I8.pinned (stat fr8) (T.obj _ _ st8);have hgx:=hg _ s8 σ6 H8 x u _ I8' r8 (step x H8 y8);rw[hxe]at hgx;refine bx hgx fun _ s9 ⟨σ9,H9,I9,q9⟩=>?_
  have again:∀ {s':Shared}{σ7:St}{H7:Hp},au Y (P++i8 fp s8.heap) σ7 H7 s'->Nx σ7 H7->∃ m,m<n/\∃ i σ' H',au Y P σ' H' s'/\tn i s'.heap/\(∀ b∈fp,H' b=none)/\W i m σ' H':=fun {s' σ7 H7} I7 n7=>by
   obtain⟨m',hm,w7⟩:=hN σ7 H7 n7;refine⟨m',hm,i+1,σ7,H7,I7.unpinned,T.keep _ _ _ st8 fun b hb o e=>(I7.pin (b,o) (IF _ (IF _ (bU hb e)))).1,fun b hb=>?_,w7⟩;obtain⟨o,e,d⟩:=T.obj _ _ st8 b hb;exact (I7.pin (b,o) (IF _ (IF _ (bU hb e)))).2.1
  have htx:=ht _ s9 σ9 H9 _ I9 q9;rw[hxe]at htx;refine bx htx fun ok s10 ⟨H10,I10,q10⟩=>?_
  cases ok with
  | false =>
   rw[Ip Iw]at q10 ⊢;exact again I10 q10
  | true =>
   rw[Iq rfl]at q10 ⊢;have hex:=he _ s10 σ9 H10 _ I10 q10;rw[hxe]at hex;refine bx hex fun y s11 ⟨yv,H11,I11,ry,ys,hys,hlen,q11⟩=>?_;exact bx (jB (X:=Y) I11 hys hlen ry) fun _ s12 I12=>again I12 q11
def Fz (tt0:TT)(wi1:TI)(g1:TG)(tt1:TT)(te:TE)(a:Addr):TS:=fun D σ H=>tt0 σ H fun b H1=>if b=true then wi1 σ H1 fun J1 H2=>lT J1 g1 (CB tt1 te a) { nx:=D.nx,rt:=fun _ _=>False } σ H2 else D.nx σ H1
def Fo (wi:TI)(g0:TG)(tt0:TT)(wi1:TI)(g1:TG)(tt1:TT)(te:TE)(src:List (Option Nat)):TE:=fun σ H Q=>wi σ H fun J H1=>∀ a,H1 a=none ->
 lT J g0 (Fz tt0 wi1 g1 tt1 te a) { nx:=fun _ H'=>Q (.ref a) H',rt:=fun _ _=>False } (iV src σ) (upd H1 a (.lst []))
theorem BE {X:Cx}{elt tg iter t1 i1:Expr}{ifs c1:List Expr}{sc so:Scope}{pos:Pos}{N':List Str}{src:List (Option Nat)}{wi wi1:TI}{g g1:TG}{tt tt1:TT}{te:TE}{N:List Str}(hso:X.env.scope=so)(hXN:X.N=N)(S:sR so sc N N' src)(hc:X.calm=true)(hi:PI X tg iter wi)
  (hb:∀ (cl:List (Str×Addr))(C:Addr)(s:Shared)(H:Hp)(ex:List Addr),PG (cH X sc cl C N' s H ex) tg g/\DT (cH X sc cl C N' s H ex) ifs tt/\PI (cH X sc cl C N' s H ex) t1 i1 wi1/\PG (cH X sc cl C N' s H ex) t1 g1/\DT (cH X sc cl C N' s H ex) c1 tt1/\PE (cH X sc cl C N' s H ex) elt te)
  (hs:∀ x,foldedSetIterable iter X.env x=pure x:=by intro _;rfl) (hs1:∀ env x,foldedSetIterable i1 env x=pure x:=by intro _ _;rfl):PE X (.ListComp elt [⟨tg,iter,ifs,0⟩,⟨t1,i1,c1,0⟩] sc pos) (Fo wi g tt wi1 g1 tt1 te src):=by
 subst hXN;intro pins s σ H Q I h
 obtain⟨cl,hcl,q1,q3⟩:=iU (sc:=sc) (env:=X.env) fun y hy hf=>by
  have:=S.fre y hy hf;rw[<-hso]at this;exact I.ok.has y.1 this
 rw[eval_ListComp];refine wpAny_comprehension_free (use:=none) rfl hs hcl S.kind S.loc (bx (hi pins s σ H _ I h) fun v s1 h1=>bx h1 fun itv s2 h2=>?_);obtain⟨it,fp,tn,J,H2,e,I2,T,st2,f2,hR⟩:=h2;subst e;refine Jq ?_
 have I3:au X pins σ (upd H2 s2.heap.objs.size (.lst [])) { s2 with heap:=s2.heap.push { cls:=.type "list",dict:=none,data:=.seq ([]:List Value).toArray } } :=
  I2.laid (t':=s2.toks) (fun b u q=>Heap.get?_push_of_some _ q) (Iv _) ⟨IX _,[],0,.nil,Heap.get?_push_size _ rfl⟩
 have hfr:=I2.hok.fresh (Iv s2.heap.objs.size);obtain⟨W,⟨m0,w0⟩,turn⟩:=hR _ hfr
 have flt:∀ b∈fp,b<s2.heap.objs.size:=fun b hb=>by obtain⟨o,e,_⟩:=T.obj _ _ st2 b hb;exact IA e
 generalize hs3:({ s2 with heap:=s2.heap.push { cls:=.type "list",dict:=none,data:=.seq ([]:List Value).toArray } }:Shared)=s3 at I3 ⊢
 have e3:s3.heap=s2.heap.push { cls:=.type "list",dict:=none,data:=.seq ([]:List Value).toArray }:=by rw[<-hs3]
 have sz3:s3.heap.objs.size=s2.heap.objs.size+1:=by rw[e3,JT]
 have hf3:∀ b∈fp,fT X pins (upd H2 s2.heap.objs.size (.lst [])) b:=fun b hb=>⟨by rw[ag (IC (flt b hb))];exact (f2 b hb).1,(f2 b hb).2⟩
 have flt3:∀ b∈fp,b<s3.heap.objs.size:=fun b hb=>by rw[sz3];exact JR (flt b hb)
 have st3:tn 0 s3.heap:=T.keep _ _ _ st2 fun b _ o e=>by rw[e3];exact Heap.get?_push_of_some _ e
 refine Kk S.nocell (by intro y hy;simp at hy) (fun h4 hns4 hsb4=>?_) S.kind;have kp4:∀ b o,s3.heap.get? b=some o->h4.get? b=some o:=fun b o e=>hsb4.extBut b o (IC (IA e)) (Heap.get?_push_of_some _ e);have I4:=mh (h':=h4) I3 hso S q1 q3 hf3 flt3 (by simpa using hns4) kp4 (s3.toks+([]:List (Str×Value)).length);have st4:tn 0 h4:=T.keep _ _ _ st3 fun b _ o e=>kp4 b o e;generalize hC:s3.heap.objs.size=C at I4 hns4 hsb4 ⊢;obtain⟨hg,ht,hi1,hg1,ht1,he⟩:=hb cl C s3 (upd H2 s2.heap.objs.size (.lst [])) fp
 let Y:Cx:=cH X sc cl C N' s3 (upd H2 s2.heap.objs.size (.lst [])) fp
 have loop:∀ s5:Shared,s5={ s3 with heap:=h4,toks:=s3.toks+([]:List (Str×Value)).length }->codeAny (model X.prog X.w) X.A (.compLoop (.ListComp elt [⟨tg,iter,ifs,0⟩,⟨t1,i1,c1,0⟩] sc pos) 0 (.ref it) (.ref s2.heap.objs.size) (compEnvC sc cl C X.env))
   (compPost (model X.prog X.w) X.A X.xe none (EP X pins σ Q) (.ref s2.heap.objs.size) C) s5:=by
  rintro s5 rfl
  have stat:∀ {H':Hp},(∀ b∈fp,H' b=none)->∀ b∈fp,fT Y [] H' b:=fun {H'} hn b hb=>by
   obtain⟨f0,f1,f2',f3,f4,f5⟩:=hf3 b hb;refine⟨hn b hb,?_,fun z=>?_,.inl hb,fun x c e=>f4 x c (q1 x c e),fun p hp=>absurd (show p∈([]:List (Addr×Obj)) from hp) (by simp)⟩
   ·show b≠C
    rw[<-hC];exact IC (flt3 b hb)
   ·have z:b∈iq X.stack:=z
    rcases IE.mp (I3.stkSub b z) with y | y
    ·exact f1 y
    ·exact f2' y
  refine jC (fun x=>hs1 _ x) (fun n s'=>∃ i σ' H',au Y [] σ' H' s'/\tn i s'.heap/\(∀ b∈fp,H' b=none)/\W i n σ' H') ?_ m0 ⟨0,_,_,I4,st4,fun b hb=>(hf3 b hb).1,w0⟩;rintro n s6 ⟨i,σ6,H6,I6,st6,fr6,w6⟩;rcases turn i n σ6 H6 w6 with ⟨stop,qn⟩ | ⟨go,Nx,hN,step⟩
  ·refine bx (T.done Y rfl rfl rfl hc i [] s6 σ6 H6 _ I6 (stat fr6) st6 stop) fun r s7 ⟨hr,I7⟩=>?_
   subst hr;obtain⟨m,hn,_⟩:=id I7.loc;refine⟨m,hn,fun h' hsb=>?_⟩
   have neC:∀ b o,s3.heap.get? b=some o->b≠C:=fun b o e=>by rw[<-hC];exact IC (IA e)
   have freeC:H6 C=none:=I7.free
   have un:Un (iq X.stack) fp (upd H2 s2.heap.objs.size (.lst [])) H6 s3.heap h' :=
    ⟨fun b o e n hb hx=>(hsb.2 b (neC b o e)).trans (I7.base.keep b o e n hb hx),fun b o e n hb hx=>by
      obtain⟨sl,q⟩:=I7.base.slot b o e n hb hx
      exact⟨sl,(hsb.2 b (neC b o e)).trans q⟩,I7.base.free,fun b o e hx=>by
      obtain⟨o',q⟩:=I7.base.there b o e hx
      exact⟨o',(hsb.2 b (neC b o e)).trans q⟩,I7.base.tups,I7.base.frzs,I7.base.tbls⟩
   have hok:iQ X.prog X.w H6 h':=fun b ob e=>by
    refine (I7.hok b ob e).stay (fun c w' hc' q=>(hsb.2 c ?_).trans q) (fun _ q=>q) fun _ _ q=>q;rintro rfl;rcases hc' with z | z
    ·rw[<-z,freeC]at e;cases e
    ·rw[freeC]at z;cases z
   have J7:au X pins σ H6 { s7 with heap:=h' }:=I3.call' (ch:=fp) (s':={ s7 with heap:=h' }) I7.os un hok I7.bare fun b hb=>⟨(hf3 b hb).2.2.2.1,(hf3 b hb).2.1,(hf3 b hb).2.2.2.2.1,(hf3 b hb).2.2.2.2.2⟩;exact⟨.ref s2.heap.objs.size,H6,J7,rfl,qn⟩
  ·refine bx (T.item Y rfl rfl rfl hc i [] s6 σ6 H6 _ I6 (stat fr6) st6 go) fun r s7 ⟨u,hr,h7⟩=>?_
   subst hr;refine bx h7 fun _ s8 ⟨x,H8,I8,r8,y8,st8,fr8⟩=>?_;have I8':=I8.pinned (stat fr8) (T.obj _ _ st8);refine bx (hg _ s8 σ6 H8 x u _ I8' r8 (step x H8 y8)) fun _ s9 ⟨σ9,H9,I9,q9⟩=>?_
   have again:∀ {s':Shared}{σ7:St}{H7:Hp},au Y ([]++i8 fp s8.heap) σ7 H7 s'->Nx σ7 H7->∃ m,m<n/\∃ i σ' H',au Y [] σ' H' s'/\tn i s'.heap/\(∀ b∈fp,H' b=none)/\W i m σ' H':=fun {s' σ7 H7} I7 n7=>by
    obtain⟨m',hm,w7⟩:=hN σ7 H7 n7;refine⟨m',hm,i+1,σ7,H7,I7.unpinned,T.keep _ _ _ st8 fun b hb o e=>(I7.pin (b,o) (IF _ (IF _ (bU hb e)))).1,fun b hb=>?_,w7⟩;obtain⟨o,e,d⟩:=T.obj _ _ st8 b hb;exact (I7.pin (b,o) (IF _ (IF _ (bU hb e)))).2.1
   refine bx (ht _ s9 σ9 H9 _ I9 q9) fun ok s10 ⟨H10,I10,q10⟩=>?_
   cases ok with
   | false =>
    rw[Ip Iw]at q10 ⊢;exact again I10 q10
   | true =>
    rw[Iq rfl]at q10 ⊢;refine bx (hi1 _ s10 σ9 H10 _ I10 q10) fun x1 s11 h11=>bx h11 fun it1 s12 h12=>?_;obtain⟨ia,fp1,tn1,J1,H12,e1,I12,T1,st12,f12,hR1⟩:=h12;subst e1;have inner:=xu (Y:=Y) (t0:=tg) (i0:=iter) (c0:=ifs) (i1:=i1) (sc:=sc) (pos:=pos) hc rfl I12 T1 st12 f12 hR1 hg1 ht1 he;have inner':=JH inner (R':=fun r s₆=>r=.ok .next/\∃ m,m<n/\∃ i σ' H',au Y [] σ' H' s₆/\tn i s₆.heap/\(∀ b∈fp,H' b=none)/\W i m σ' H') fun r s6 ⟨er,σ7,H7,I7,n7⟩=>⟨er,again I7 n7⟩;exact jD inner' (T1.self _ 0 _ _ _ st12 inner')
 exact codeAny_compStart_list (loop _ rfl) (T.self _ 0 _ _ _ st4 (loop _ rfl))
end L2
namespace Qs
open PySem PySem.W PyProof.Rows
structure Ik (n:Nat)(lt:Nat->Nat->Bool):Prop where
 irr:∀ i,lt i i=false
 tot:∀ i j,i<n->j<n->i≠j->lt i j=true\/lt j i=true
 tr:∀ i j k,lt i j=true->lt j k=true->lt i k=true
def ask {α:Type}(lt:Nat->Nat->Bool):KasT α->α
 | .ret a=>a
 | .ask i j k=>ask lt (k (lt i j))
def Hv {α:Type}(n:Nat)(lt:Nat->Nat->Bool):KasT α->Prop
 | .ret _=>True
 | .ask i j k=>i<n/\j<n/\Hv n lt (k (lt i j))
def Il {α:Type}(n:Nat)(lt:Nat->Nat->Bool)(t:KasT α)(R:α->Prop):Prop:=Hv n lt t/\R (ask lt t)
section
variable {n:Nat}{lt:Nat->Nat->Bool}{p:Array Nat}
def Pm (n:Nat)(p:Array Nat):Prop:=p.Perm (List.toArray (List.range n))
def Up (lt:Nat->Nat->Bool)(p:Array Nat)(k:Nat):Prop:=∀ i j,i<j->j<k->lt (p.getD i 0) (p.getD j 0)=true
def Dn (lt:Nat->Nat->Bool)(p:Array Nat)(k:Nat):Prop:=∀ i j,i<j->j<k->lt (p.getD j 0) (p.getD i 0)=true
end
def ltP (p q:Int×Int):Bool:=decide (p.1<q.1\/(p.1=q.1/\p.2<q.2))
theorem ltP_irr (p:Int×Int):ltP p p=false:=by unfold ltP;simp
theorem ltP_tr {p q r:Int×Int}(h1:ltP p q=true)(h2:ltP q r=true):ltP p r=true:=by
 unfold ltP at *;have h1:=JK h1;have h2:=JK h2;exact IG (by omega)
theorem Dg {p q:Int×Int}(h:p≠q):ltP p q=true\/ltP q p=true:=by
 unfold ltP
 by_cases h1:p.1<q.1
 ·exact .inl (IG (.inl h1))
 ·by_cases h2:q.1<p.1
  ·exact .inr (IG (.inl h2))
  ·have e:p.1=q.1:=by omega
   have n:p.2≠q.2:=fun z=>h (Prod.ext e z)
   by_cases h3:p.2<q.2
   ·exact .inl (IG (.inr ⟨e,h3⟩))
   ·exact .inr (IG (.inr ⟨e.symm,by omega⟩))
def HU (ps:List (Int×Int))(i j:Nat):Bool:=ltP (ps.getD i (0,0)) (ps.getD j (0,0))
def PairAt (h:Heap)(v:Value)(p:Int×Int):Prop:=∃ (b:Addr)(o:Obj)(n:Nat)(t u:Tok),v=.ref b/\h.get? b=some o/\o.cls=.type "tuple"/\o.data=.seq #[.int p.1 t,.int p.2 u] n
section
variable {prog:Program}{w:World}{A:Around}{E:Value->Shared->Prop}{s:Shared}
theorem Dh {x y:Value}{p q:Int×Int}{Q:Bool->Shared->Prop}(hx:PairAt s.heap x p)(hy:PairAt s.heap y q)(h:Q (ltP p q) s):wpAny (model prog w) A (keyLt' (tuples' true) x y) Q E s:=by
 obtain⟨b,o,n,t,u,rfl,ho,hc,hd⟩:=hx;obtain⟨b',o',n',t',u',rfl,ho',hc',hd'⟩:=hy;refine kat_lt ho hd ho' hd' ?_
 show KatLex prog w A true (decide (2<2)) Q [(.int p.1 t,.int q.1 t'),(.int p.2 u,.int q.2 u')] 0 s
 refine kat_cons (wpAny_eqBool_int ?_)
 by_cases h1:p.1=q.1
 ·rw[show (p.1 == q.1)=true by simpa using h1]
  refine kat_yes (kat_cons (wpAny_eqBool_int ?_))
  by_cases h2:p.2=q.2
  ·rw[show (p.2 == q.2)=true by simpa using h2]
   refine kat_yes (kat_nil ?_)
   have e:ltP p q=decide (2<2):=by rw[show p=q from Prod.ext h1 h2,ltP_irr];rfl
   rw[<-e];exact h
  ·rw[show (p.2 == q.2)=false by simpa using h2]
   refine kat_no ?_
   show wpAny (model prog w) A (oneLt' false (.int p.2 u) (.int q.2 u')) Q _ s
   refine kat_one _ _ (wpAny_lt_int ?_)
   show Q (decide (p.2<q.2)) s
   have e:ltP p q=decide (p.2<q.2):=by unfold ltP;simp[h1]
   rw[<-e];exact h
 ·rw[show (p.1 == q.1)=false by simpa using h1]
  refine kat_no ?_
  show wpAny (model prog w) A (oneLt' true (.int p.1 t) (.int q.1 t')) Q _ s
  refine oneLt_int ?_
  have e:ltP p q=decide (p.1<q.1):=by unfold ltP;simp[h1]
  rw[<-e];exact h
theorem zp {h:Heap}:∀ {vs:List Value}{ps:List (Int×Int)},Paired (PairAt h) vs ps->∃ fs:List Value,KatTups h vs fs/\fs.length=vs.length/\∀ v∈fs,∃ i t,v=Value.int i t
 | [],[],.nil=>⟨[],KatTups.nil,rfl,fun v h=>by cases h⟩
 | v::vs,p::ps,.cons hv r=>by
  obtain⟨fs,k,hl,hi⟩:=zp r;obtain⟨b,o,n,t,u,rfl,ho,hc,hd⟩:=hv;refine⟨.int p.1 t::fs,KatTups.cons ho hc hd rfl k,by simp[hl],fun v hv=>?_⟩;rcases IE.mp hv with z | z
  ·exact⟨_,_,z⟩
  ·exact hi v z
theorem xI {vs:List Value}{ps:List (Int×Int)}{Q:SortKind->Shared->Prop}(hp:Paired (PairAt s.heap) vs ps)(h2:0<vs.length)(h:Q (tuples' true) s):wpAny (model prog w) A (keyKind' vs.toArray) Q E s:=by
 obtain⟨fs,k,hl,hi⟩:=zp hp;refine kat_kind (T:=.type "int") k (by omega) (fun v hv=>?_) (by decide) h;obtain⟨i,t,rfl⟩:=hi v hv;exact .now
theorem ph {α β:Type}{F:α->β->Prop}{d:α}{e:β}:∀ {l:List α}{m:List β},Paired F l m->∀ i,i<l.length->F (l.getD i d) (m.getD i e)
 | _::_,_::_,.cons h _,0,_=>h
 | _::l,_::m,.cons _ r,i+1,hi=>ph r i (by simpa using hi)
def xk (vs:List Value)(ps:List (Int×Int))(out:List Value):Prop:=∃ ix:List Nat,ix.Perm (List.range vs.length)/\out=ix.map (fun i=>vs.getD i Value.none)/\(ix.map fun i=>ps.getD i (0,0)).Pairwise (fun a b=>ltP a b=true)
end
section
variable {prog:Program}{w:World}{A:Around}{E:Value->Shared->Prop}{s:Shared}
end
def RawAt (h:Heap)(d:Addr)(es:Array DictEntry)(ep:Nat):Prop:=∃ o,h.get? d=some o/\o.ExactDict/\o.data=.dict es ep
section
variable {prog:Program}{w:World}{A:Around}{E:Value->Shared->Prop}{s:Shared}{d it:Addr}{es:Array DictEntry}{ep i:Nat}
theorem RawAt.typeIs (h:RawAt s.heap d es ep):s.TypeIs (.ref d) "dict":=let ⟨o,ho,hc,_⟩:=h;⟨o,ho,hc.1⟩
theorem RawAt.lt {h:Heap}(x:RawAt h d es ep):d<h.objs.size:=let ⟨_,ho,_⟩:=x;IA ho
theorem RawAt.at {h h':Heap}(x:RawAt h d es ep)(e:∀ o,h.get? d=some o->h'.get? d=some o):RawAt h' d es ep:=let ⟨o,ho,r⟩:=x;⟨o,e _ ho,r⟩
theorem BW {Q:Value->Shared->Prop}(lo:(d == sysModules)=false)(hm:RawAt s.heap d es ep)
  (hQ:Q (.ref s.heap.objs.size) { s with heap:=s.heap.push { cls:=.type "dict_keyiterator",data:=.fields #[.ref d,.int 0 0,.int es.size 0,.int ep 0] } }):wpAny (model prog w) A (pyIter (.ref d)) Q E s:=by
 have hT:=hm.typeIs;obtain⟨o,ho,hc,hdat⟩:=hm;refine wpAny_pyIter_slot hT F.slot_dict_iter (J6 F.slot_dict_iter hT F.entry_dict_iter ?go (F.args_dict_iter_1 _))
 case go =>
  unfold Builtin.«dict.__iter__»;refine Io ?_;unfold Builtin.Dict.dictSlotNone;refine Io (wpAny_notOrdered_dict hT (?_:wpAny (model prog w) A.in1 (pure (Value.ref d)) _ _ s));refine Iu ?_
  show wpAny _ _ (Builtin.Dict.showsAll d >>= _) _ _ s;unfold Builtin.Dict.showsAll;rw[Ip (by rw[lo];simp)]
  refine Io (Iu (Io (J3 ho hdat (Io (wpAny_dictEpoch ho hdat ?_)))));refine Io (Jq (Iu ⟨_,rfl,"dict_keyiterator",_,⟨_,Heap.get?_push_size _ rfl,rfl⟩,JQ.lookup,?_⟩));simpa [rawInt] using hQ
theorem BV {Q:Option Value->Shared->Prop}{e:DictEntry}(hit:s.heap.IsKeyIter it d i es.size ep)(hm:RawAt s.heap d es ep)(hx:es[i]? = some e)
  (hQ:∀ h',h'.IsKeyIter it d (i+1) es.size ep->Heap.SameBut it s.heap h'->Q (some e.key) { s with heap:=h' }):wpAny (model prog w) A (pyNext (.ref it)) Q E s:=by
 obtain⟨o,ho,hc,hd⟩:=id hit;obtain⟨od,hod,hcd,hdd⟩:=id hm
 have hlt:i<es.size:=by
  by_cases h:i<es.size
  ·exact h
  ·rw[Array.getElem?_eq_none (by omega)]at hx;cases hx
 have he:es[i]=e:=by rw[Array.getElem?_eq_getElem hlt]at hx;exact Iy hx
 unfold pyNext;refine Io (wpAny_attempt (wpAny_callSpecial?_slot (name:=Str.ofString "__next__") hit.typeIs JQ (J6 JQ hit.typeIs F.entry_dict_keyiterator_next ?go (F.args_dict_keyiterator_next_1 _))))
 case go =>
  refine Io (Iu (Io (Io ?_)))
  first | refine Io (JO hit.typeIs (Iu (Io (wpAny_fieldsOf ho hd ?_)))) | refine Io (JX hit.typeIs (Iu (Io (wpAny_fieldsOf ho hd ?_))))
  simp only[show Builtin.Dict_items.ownsTuple "dict_keyiterator" = false by decide,JF,J5]
  show wpAny _ _ (if (Value.ref d == Value.none)=true then _ else _) _ _ s;rw[Ip (show ¬ ((Value.ref d == Value.none)=true) from Iw)]
  refine Io (Iu (Io (J3 hod hdd ?_)));rw[Ip (by simp)];refine Io (Iu (Io (wpAny_dictEpoch hod hdd ?_)));rw[Ip (by simp)];refine Iu ?_;simp only[show ¬ ((i:Int)<0) from by omega,J5,Int.toNat_natCast,Array.getElem?_eq_getElem hlt];refine Io ?_
  first | refine Io (JO hit.typeIs (Iu (Io (wpAny_isOneOf_keyiter hit.typeIs ?_)))) | refine Io (JX hit.typeIs (Iu (Io (wpAny_isOneOf_keyiter hit.typeIs ?_)))) | (first | refine Io (JO hit.typeIs (Iu ?_)) | refine Io (JX hit.typeIs (Iu ?_));refine Io (wpAny_isOneOf_keyiter hit.typeIs ?_))
  show wpAny _ _ (setField (.ref it) 1 (rawInt ((i:Int)+1)) >>= _) _ _ s;refine Io (KQ ho hd (by simp) ?_)
  have hit':(s.heap.update it (Obj.mapFields (·.setIfInBounds 1 (rawInt ((i:Int)+1))))).IsKeyIter it d (i+1) es.size ep:=⟨_,Heap.get?_update_self _ ho (Obj.isFreed_of_fields (KD hd _)),(Obj.cls_mapFields ..).trans hc,by rw[KD hd];simp[rawInt]⟩;refine Io (Jv (Io (wpAny_isOneOf_keyiter (s:={ s with heap:=s.heap.update it (Obj.mapFields (·.setIfInBounds 1 (rawInt ((i:Int)+1)))) }) hit'.typeIs ?_)))
  show wpAny _ _ (pure es[i].key) _ _ _;rw[he];exact Iu (Iu ⟨_,rfl,Iu (hQ _ hit' (Heap.SameBut.update ..))⟩)
theorem DB {Q:Option Value->Shared->Prop}(hh:A.handled=none)(hit:s.heap.IsKeyIter it d i es.size ep)(hm:RawAt s.heap d es ep)(hx:es.size<=i)
  (hQ:∀ h',Heap.ExtBut it s.heap h'->Q none { s with heap:=h' }):wpAny (model prog w) A (pyNext (.ref it)) Q E s:=by
 obtain⟨o,ho,hc,hd⟩:=id hit;obtain⟨od,hod,hcd,hdd⟩:=id hm;unfold pyNext;refine Io (wpAny_attempt (wpAny_callSpecial?_slot (name:=Str.ofString "__next__") hit.typeIs JQ (J6 JQ hit.typeIs F.entry_dict_keyiterator_next ?go (F.args_dict_keyiterator_next_1 _))))
 case go =>
  refine Io (Iu (Io (Io ?_)))
  first | refine Io (JO hit.typeIs (Iu (Io (wpAny_fieldsOf ho hd ?_)))) | refine Io (JX hit.typeIs (Iu (Io (wpAny_fieldsOf ho hd ?_))))
  simp only[show Builtin.Dict_items.ownsTuple "dict_keyiterator" = false by decide,JF,J5]
  show wpAny _ _ (if (Value.ref d == Value.none)=true then _ else _) _ _ s;rw[Ip (show ¬ ((Value.ref d == Value.none)=true) from Iw)]
  refine Io (Iu (Io (J3 hod hdd ?_)));rw[Ip (by simp)];refine Io (Iu (Io (wpAny_dictEpoch hod hdd ?_)));rw[Ip (by simp)];refine Iu ?_;simp only[show ¬ ((i:Int)<0) from by omega,J5,Int.toNat_natCast,Array.getElem?_eq_none hx];refine Io ?_
  first | refine Io (JO hit.typeIs (Iu ?_)) | refine Io (JX hit.typeIs (Iu ?_))
  show wpAny _ _ (setField (.ref it) 0 .none >>= _) _ _ s;refine Io (KQ ho hd (by simp) ?_)
  show wpAny _ _ (newExc (.type "StopIteration") [] >>= _) _ _ _;refine Io ?_;simp only[newExc,newTuple]
  refine Io (Jq ?_ (by size_fits));refine Io (m:=firstArgMember _ _) (wpAny_of_eq (a:=Value.none) (by first | rfl | (simp only[firstArgMember];rfl)) ?_);refine Jq ?_ (by size_fits);simp only[raiseNew];refine Io (wpAny_handled ?_);rw[show A.in1.handled=none from hh];refine Io (Iu (wpAny_throw ?_));refine Io (wpAny_isInstance (T:="StopIteration") (b:=true) ⟨_,Heap.get?_push_size _ rfl,rfl⟩ isSubtype_stop ?_);exact Iu (hQ _ (((Heap.SameBut.update ..).extBut.push _).push _))
end
theorem Au {prog:Program}{w:World}{A:Around}(hh:A.handled=none)(I d:Addr)(hne:d≠I)(es:Array DictEntry)(ep:Nat) :
  Walks prog w A I [I,d] [I] es.size (fun i v=>∃ e,es[i]? = some e/\v=e.key) (fun i h=>h.IsKeyIter I d i es.size ep/\RawAt h d es ep) where
 sub:=fun b hb=>by simp at hb;simp[hb]
 frame:=fun _ _ _ st hk=>⟨st.1.at fun o e=>hk I (by simp) o e,st.2.at fun o e=>hk d (by simp) o e⟩
 item:=fun i s Q E hi st hQ=>BV st.1 st.2 (Array.getElem?_eq_getElem hi) fun h' hit' hs'=>hQ _ h' s.toks ⟨_,Array.getElem?_eq_getElem hi,rfl⟩ ⟨hit',st.2.at fun o e=>hs'.extBut d o hne e⟩ fun b o hb e=>hs'.extBut b o (fun h=>hb (by simp[h])) e
 done:=fun s Q E st hQ=>DB hh st.1 st.2 (Iv _) fun h' he'=>hQ h' s.toks fun b o hb e=>he' b o (fun h=>hb (by simp[h])) e
 self:=fun _ _ _ _ st hQ=>wpAny_pyIter_keyiter st.1 hQ
theorem raw_src {prog:Program}{w:World}{d:Addr}{es:Array DictEntry}{ep:Nat}(lo:(d == sysModules)=false):KdlSrc prog w "dict" d d es.size (fun i v=>∃ e,es[i]? = some e/\v=e.key) (fun h=>RawAt h d es ep) where
 type:=fun _ hm=>hm.typeIs
 there:=fun _ hm=>⟨hm.lt,hm.lt⟩
 keep:=fun _ _ hm hk=>hm.at fun o e=>hk d (.inl rfl) o e
 notList:=by decide
 notTuple:=by decide
 hint:=fun _ _ _ _ hm hq=>kdl_hint_dict hm.typeIs hq
 iter:=fun _ _ hh hm=>⟨_,_,(fun _ _ hq=>BW lo hm hq),Au hh _ d (IC hm.lt) es ep,⟨⟨_,Heap.get?_push_size _ rfl,rfl,rfl⟩,hm.at fun o e=>Heap.get?_push_of_some _ e⟩⟩
end Qs
namespace Wz
open PySem PySem.Spec PyProof.Rows L2
theorem jJ {α β γ:Type}{F:β->γ->Prop}{f:α->β}{g:α->γ}:∀ (l:List α),(∀ x∈l,F (f x) (g x))->Paired F (l.map f) (l.map g)
 | [],_=>.nil
 | x::l,h=>.cons (h x IJ) (jJ l fun y hy=>h y (Iz _ hy))
theorem lj {α:Type}(d:α)(l:List α):(List.range l.length).map (fun i=>l.getD i d)=l:=by
 apply KN
 intro i;rw[List.getElem?_map]
 by_cases hi:i<l.length
 ·rw[List.getElem?_range hi];simp[hi]
 ·rw[List.getElem?_eq_none (by simp;omega),List.getElem?_eq_none (by omega)];rfl
end Wz
namespace L2
open PySem PySem.Spec PyProof.Rows
theorem au.thaw {X:Cx}{pins:List (Addr×Obj)}{σ:St}{H:Hp}{s:Shared}{d:Addr}{o:Obj}{u:HO}(I:au X pins σ H s)(hd:H d=some (.frz o u))(h0:∀ o' u',X.H₀ d≠some (.frz o' u')):au X pins σ (upd H d u) s:=by
 have up:∀ b,upd H d u b=none->H b=none:=fun b e=>by
  by_cases hb:b=d
  ·rw[hb,af]at e;cases e
  ·rw[ag hb]at e;exact e
 have dn:∀ b,H b=none->upd H d u b=none:=fun b e=>by rw[ag (fun z=>by rw[z,hd]at e;cases e)];exact e
 have ne:∀ b v,H b=some v->(∀ o' u',v≠.frz o' u')->b≠d:=fun b v e n z=>by rw[z,hd]at e;exact n _ _ (Iy e).symm
 refine⟨I.ok,I.os,I.bare,⟨I.base.keep,I.base.slot,fun b ob e n hx=>dn _ (I.base.free b ob e n hx),I.base.there,fun b xs e=>?_,fun b ob v e=>?_,fun b ps e=>?_⟩,I.loc,I.cell,dn _ I.free,fun x c e=>dn _ (I.freeC x c e),fun p hp=>?_,fun b ob e=>?_,I.len⟩
 ·have e1:=I.base.tups b xs e
  rw[ag (ne b _ e1 (fun _ _ z=>by cases z))];exact e1
 ·have nb:b≠d:=fun z=>h0 ob v (by rw[<-z];exact e)
  rw[ag nb];exact I.base.frzs b ob v e
 ·obtain⟨more,e1⟩:=I.base.tbls b ps e
  exact⟨more,by rw[ag (ne b _ e1 (fun _ _ z=>by cases z))];exact e1⟩
 ·obtain⟨a1,a2,a3⟩:=I.pin p hp
  exact⟨a1,dn _ a2,a3⟩
 ·have tr:∀ v,bo X.prog X.w H s.heap b v->bo X.prog X.w (upd H d u) s.heap b v:=fun v x=>x.stay (fun c w' hc q=>q) (fun c q=>(by rw[ag (ne c _ q (fun _ _ z=>by cases z))];exact q)) (fun c y q=>(by rw[ag (ne c _ q (fun _ _ z=>by cases z))];exact q))
  by_cases hb:b=d
  ·rw[hb,af]at e
   cases e;obtain⟨_,x⟩:=(show bo X.prog X.w H s.heap d (.frz o u) from I.hok d _ hd);rw[hb];rw[hb]at tr;exact tr u x
  ·rw[ag hb]at e
   exact tr ob (I.hok b ob e)
def GD (H0:Hp)(nx:St->Hp->Prop):St->Hp->Prop:=fun σ H=>∃ d o u,H d=some (.frz o u)/\(∀ o' u',H0 d≠some (.frz o' u'))/\nx σ (upd H d u)
theorem zc {X:Cx}{st:Stmt}{t:TS}(h:PS X st t):PS X st (fun D σ H=>t { D with nx:=GD X.H₀ D.nx } σ H):=by
 intro pins s σ H D I ht;refine bx (h pins s σ H _ I ht) fun f s' hq=>?_
 cases f with
 | next=>obtain⟨σ',H',I',d,o,u,hd,h0,q⟩:=hq;exact⟨σ',_,I'.thaw hd h0,q⟩
 | brk=>exact hq
 | cont=>exact hq
 | ret v=>exact hq
end L2
namespace Wz
open PySem L2
structure yw (L:List Int)(st:bO):Prop where
 kn:(st.circ.map (·.1)).Nodup
 kl:∀ x∈st.circ,x.1∈L/\x.2.Nodup/\∀ b∈x.2,b∈L
theorem GZ {L:List Int}:yw L ⟨[],[],[],[]⟩:=⟨J8,fun x h=>by cases h⟩
theorem CJ {L ks:List Int}{b:Int}(h:ks.Nodup/\∀ x∈ks,x∈L)(hb:b∈L):(ko ks b).Nodup/\∀ x∈ko ks b,x∈L:=by
 unfold ko;split
 ·exact h
 ·rename_i n
  refine⟨mD h.1 n,fun x hx=>?_⟩;rcases IP.mp hx with z | z
  ·exact h.2 x z
  ·rw[IB.mp z];exact hb
theorem ud {L:List Int}{a b:Int}(ha:a∈L)(hb:b∈L):∀ {ci:List (Int×List Int)},(ci.map (·.1)).Nodup->(∀ x∈ci,x.1∈L/\x.2.Nodup/\∀ y∈x.2,y∈L) ->
  ((ca ci a b).map (·.1)).Nodup/\(∀ x∈ca ci a b,x.1∈L/\x.2.Nodup/\∀ y∈x.2,y∈L)/\∀ k,k∈(ca ci a b).map (·.1)->k∈ci.map (·.1)\/k=a
 | [],_,_=>by
  refine⟨by simp[ca],fun x hx=>?_,fun k hk=>?_⟩
  ·simp[ca]at hx
   subst hx;exact⟨ha,by simp,fun y hy=>by simp at hy;rw[hy];exact hb⟩
  ·simp[ca]at hk
   exact .inr hk
 | x::r,hn,hl=>by
  rw[IT,I0]at hn;unfold ca
  by_cases h:x.1=a
  ·rw[Iq h]
   refine⟨by rw[IT,I0];exact hn,fun y hy=>?_,fun k hk=>.inl (by simpa using hk)⟩;rcases IE.mp hy with z | z
   ·subst z
    obtain⟨h1,h2,h3⟩:=hl x IJ;exact⟨h1,CJ ⟨h2,h3⟩ hb⟩
   ·exact hl y (Iz _ z)
  ·rw[Ip h]
   obtain⟨i1,i2,i3⟩:=ud ha hb (ci:=r) hn.2 (fun y hy=>hl y (Iz _ hy));refine⟨?_,fun y hy=>?_,fun k hk=>?_⟩
   ·rw[IT,I0]
    refine⟨fun z=>?_,i1⟩;rcases i3 _ z with z | z
    ·exact hn.1 z
    ·exact h z
   ·rcases IE.mp hy with z | z
    ·subst z;exact hl _ IJ
    ·exact i2 y z
   ·rw[IT]at hk
    rcases IE.mp hk with z | z
    ·exact .inl (by rw[z];simp)
    ·rcases i3 k z with z | z
     ·exact .inl (Iz _ z)
     ·exact .inr z
theorem AO {L:List Int}{st:bO}{d:aD}(h:yw L st)(hn:∀ g∈names d,g∈L):yw L (a7 st d):=by
 unfold a7;split
 ·cases d with
  | come g=>exact⟨h.kn,h.kl⟩
  | go g=>exact⟨h.kn,h.kl⟩
  | exch a b =>
   have ha:=hn a (by simp[names]);have hb:=hn b (by simp[names]);obtain⟨j1,j2,_⟩:=ud ha hb h.kn h.kl;obtain⟨k1,k2,_⟩:=ud hb ha j1 j2;exact⟨k1,k2⟩
 ·exact h
theorem nN {L:List Int}{a:Int}:∀ {ci:List (Int×List Int)},(∀ x∈ci,x.1∈L/\x.2.Nodup/\∀ y∈x.2,y∈L)->(iL ci a).Nodup/\(∀ y∈iL ci a,y∈L)/\∀ y,y∈iL ci a->a∈ci.map (·.1)
 | [],_=>⟨J8,(fun y h=>by cases h),fun y h=>by cases h⟩
 | x::r,hl=>by
  unfold iL
  by_cases h:x.1=a
  ·rw[Iq h]
   obtain⟨_,h2,h3⟩:=hl x IJ;exact⟨h2,h3,fun y _=>by rw[<-h];simp⟩
  ·rw[Ip h]
   obtain⟨i1,i2,i3⟩:=nN (ci:=r) (a:=a) fun y hy=>hl y (Iz _ hy);exact⟨i1,i2,fun y hy=>Iz _ (i3 y hy)⟩
theorem yw.cl {L:List Int}{st:bO}(h:yw L st)(a:Int):(iL st.circ a).length<=L.length:=by obtain⟨h1,h2,_⟩:=nN (a:=a) h.kl;exact dB h1 h2
theorem yw.kk {L:List Int}{st:bO}(h:yw L st):st.circ.length<=L.length:=by
 have:=dB h.kn (m:=L) fun x hx=>by obtain⟨y,hy,e⟩:=Je.mp hx;rw[<-e];exact (h.kl y hy).1
 rwa [Ir]at this
def dS (ci:List (Int×List Int))(a:Int):List (Int×Int):=((b7 (iL ci a)).filter fun b=>decide (a<b)).map fun b=>(a,b)
def eF (ci:List (Int×List Int)):List (Int×Int):=(b7 (ci.map (·.1))).flatMap (dS ci)
structure t7 (ml:List (Int×Int)):Prop where
 nd:ml.Nodup
 lo:∀ p∈ml,p.1<p.2
theorem HV:t7 []:=⟨J8,fun p h=>by cases h⟩
theorem Di {st:bO}{ml:List (Int×Int)}(h:t7 ml)(d:aD):t7 (kN st ml d):=by
 unfold kN;split
 ·rename_i hj
  cases d with
  | come g=>exact h
  | go g=>exact h
  | exch a b =>
   have hab:a≠b:=fun e=>by
    subst e
    cases e:look st.worn a with
    | none=>simp[aK,e]at hj
    | some m=>simp[aK,e]at hj
   show t7 (pE ml (cZ a b))
   unfold pE;split
   ·exact h
   ·rename_i n
    refine⟨?_,fun p hp=>?_⟩
    ·rw[List.nodup_append]
     exact⟨h.nd,by simp,fun x hx y hy e=>n (by rw[IB.mp hy]at e;rw[<-e];exact hx)⟩
    ·rcases IP.mp hp with z | z
     ·exact h.lo p z
     ·rw[IB.mp z]
      unfold cZ;split
      ·assumption
      ·show a<b
       omega
 ·exact h
theorem mJ {L:List Int}{st:bO}(h:yw L st):(eF st.circ).Pairwise fun a b=>Qs.ltP a b=true:=by
 have ss:∀ l:List Int,l.Nodup->(b7 l).Pairwise (· < ·):=fun l nd=>by
  have h1:=ym l;have h2:(b7 l).Nodup:=(yn l).nodup_iff.mpr nd
  exact (h1.and h2).imp fun {a b} ⟨x,y⟩=>by have:a≠b:=y;omega
 unfold eF;rw[List.pairwise_flatMap];refine⟨fun a ha=>?_,(ss _ h.kn).imp fun {a b} hab x hx y hy=>?_⟩
 ·unfold dS
  rw[KO];refine ((ss _ (nN h.kl).1).filter _).imp fun {x y} hxy=>?_;unfold Qs.ltP;exact IG (.inr ⟨rfl,hxy⟩)
 ·unfold dS at hx hy
  obtain⟨x',_,rfl⟩:=Je.mp hx;obtain⟨y',_,rfl⟩:=Je.mp hy;unfold Qs.ltP;exact IG (.inl hab)
theorem tT {L:List Int}{st:bO}{ml:List (Int×Int)}(h:yw L st)(al:lM st ml)(ok:t7 ml)(p:Int×Int):p∈eF st.circ↔p∈ml:=by
 obtain⟨a,b⟩:=p
 have hm:b∈iL st.circ a↔cZ a b∈ml:=by
  have:=al a b;unfold iZ ou at this;constructor
  ·intro z;rw[IG z]at this;exact JK this.symm
  ·intro z;rw[IG z]at this;exact JK this
 unfold eF;rw[List.mem_flatMap];constructor
 ·rintro⟨a',ha',hb⟩
  unfold dS at hb;obtain⟨b',hb',e⟩:=Je.mp hb;cases e;obtain⟨h1,h2⟩:=Kd.mp hb';have h2:=JK h2;have:=hm.mp (oq.mp h1);unfold cZ at this;rw[Ip (by omega)]at this;exact this
 ·intro hp
  have hlt:=ok.lo _ hp;have hb:b∈iL st.circ a:=hm.mpr (by unfold cZ;rw[Ip (by show ¬ b<a;have:a<b:=hlt;omega)];exact hp);refine⟨a,oq.mpr ((nN h.kl).2.2 b hb),?_⟩;unfold dS;exact Je.mpr ⟨b,Kd.mpr ⟨oq.mpr hb,IG hlt⟩,rfl⟩
theorem BB {L:List Int}{st:bO}{ml qs:List (Int×Int)}(h:yw L st)(al:lM st ml)(ok:t7 ml)(hp:qs.Perm ml)(hs:qs.Pairwise fun a b=>Qs.ltP a b=true):eF st.circ=qs:=by
 have p1:=mJ h
 have irr:∀ a b:Int×Int,Qs.ltP a b=true->a≠b:=fun a b z e=>by rw[e,Qs.ltP_irr]at z;cases z
 have nd1:(eF st.circ).Nodup:=p1.imp fun {a b} z=>irr a b z;have nd2:qs.Nodup:=hp.nodup_iff.mpr ok.nd
 have pm:(eF st.circ).Perm qs:=(List.perm_ext_iff_of_nodup nd1 nd2).mpr fun x=>by rw[tT h al ok,hp.mem_iff]
 exact pm.eq_of_pairwise (fun a b _ _ z1 z2=>by have:=Qs.ltP_tr z1 z2;rw[Qs.ltP_irr]at this;cases this) p1 hs
inductive jc (C:Addr) (vs:List V) (H:Hp) (Q:VK) (E_:XK):Prop
 | mk (p:Addr) (A:HA) (st:bO) (g:Int) (h_0:vs=[.ref p,.int g]) (h_1:az C H p A st) (h_2:(iL st.circ g).length<64) (h_3:∀ (l:Addr)(H':Hp),H l=none->aA H H'->H' l=some (.lst ((b7 (iL st.circ g)).map V.int))->Q (.ref l) H'):jc C vs H Q E_
inductive nk (C:Addr) (vs:List V) (H:Hp) (Q:VK) (E_:XK):Prop
 | mk (p:Addr) (A:HA) (st:bO) (L:List Int) (h_0:vs=[.ref p]) (h_1:az C H p A st) (h_2:yw L st) (h_3:L.length<64) (h_4:(eF st.circ).length<=1000) (h_5:∀ (l:Addr)(H':Hp),H l=none->aA H H'->aT H' l (eF st.circ)->Q (.ref l) H'):nk C vs H Q E_
end Wz
namespace L2
open PySem PySem.Spec PyProof.Rows
inductive Gj (neg:Bool) (x:V) (y:V) (H:Hp) (Q:VK):Prop
 | mk (a b:Bool) (h_0:x=.bl a) (h_1:y=.bl b) (h_2:Q (.bl (if neg then !decide (a=b) else decide (a=b))) H):Gj neg x y H Q
theorem Ah {X:Cx}:qr X (compareOp .IsNot) (Gj true):=by
 intro pins s σ H x y v u Q I rx ry h;obtain⟨a,b,rfl,rfl,q⟩:=h;cases rx;cases ry;refine wpAny_isNot_plain rfl ⟨.bl _,H,I,?_,q⟩;cases a<;>cases b<;>rfl
theorem BQ {X:Cx}{tg:Expr}(K:PySem.W.Frag){l:Expr}{tl:TE}(hl:PE X l tl)(hK:X.K=K:=by rfl):PI X tg l (D2 K tl):=by subst hK;exact dj hl
theorem Ck {wi1:TI}{g1:TG}{tt1:TT}{te:TE}{a:Addr}{D:hG}{σ:St}{H:Hp}(h:wi1 σ H fun J1 H2=>lT J1 g1 (CB tt1 te a) { nx:=D.nx,rt:=fun _ _=>False } σ H2):Fz ve wi1 g1 tt1 te a D σ H:=by
 unfold Fz ve;dsimp only;rw[Iq rfl];exact h
end L2
namespace Wz
open PySem L2
end Wz
namespace L2
open PySem PySem.Spec PyProof.Rows
end L2
namespace Wz
open PySem L2
def pJ:aD->Bool
 | .exch _ _=>true
 | _=>false
inductive nh (K:PySem.W.Frag) (vs:List V) (H:Hp) (Q:VK) (E_:XK):Prop
 | mk (a:Addr) (ns:List Int) (h_0:vs=[.ref a]) (h_1:bF K H a (ns.map V.int)) (h_2:∀ (l:Addr)(H':Hp)(ds:List aD),H l=none->aA H H'->aU H' l ds->(∀ d∈ds,∀ g∈names d,g∈aZ 40 (cY ns 1))->ds.length<=88->(ds.filter pJ).length<=48->Q (.ref l) H'):nh K vs H Q E_
theorem xN (st:bO)(ml:List (Int×Int))(d:aD):(kN st ml d).length<=ml.length+(if pJ d then 1 else 0):=by
 unfold kN;split
 ·cases d with
  | come g=>exact Iv _
  | go g=>exact Iv _
  | exch a b=>show (pE ml _).length<=_;unfold pE;split<;>simp[pJ]
 ·omega
end Wz
namespace L2
open PySem PySem.Spec PyProof.Rows
end L2
namespace Wz
open PySem L2
def ku (ds:List aD):List (Int×Int):=ds.foldl qu []
theorem tR (ds:List aD)(d:aD):ku (ds++[d])=qu (ku ds) d:=by unfold ku;rw[List.foldl_append];rfl
theorem qH:∀ (ds:List aD)(st:bO),(ds.foldl after st).deeds=st.deeds++ds
 | [],st=>by simp
 | d::ds,st=>by rw[KF,qH ds,vq,Jz];rfl
theorem gu (ds:List aD):(aJ ds).deeds=ds:=by unfold aJ;rw[qH];rfl
structure FL (L:List Int)(ds:List aD):Prop where
 good:d8 (aJ ds)
 of:Of L (aJ ds)
 sz:Sz ds.length (aJ ds)
 al:lM (aJ ds) (ku ds)
 ci:yw L (aJ ds)
 mo:t7 (ku ds)
 ml:(ku ds).length<=(ds.filter pJ).length
theorem Hb {L:List Int}:FL L []:=⟨fZ,of_empty,Gp,vt,GZ,HV,Iv _⟩
theorem eW {ds:List aD}{d:aD}(hj:aK (aJ ds) d=.done):a7 (aJ ds) d=aJ (ds++[d]):=by unfold a7;rw[Iq hj,kj]
theorem qU {ds:List aD}{d:aD}(hj:aK (aJ ds) d=.done):kN (aJ ds) (ku ds) d=ku (ds++[d]):=by unfold kN;rw[Iq hj,tR]
theorem FL.next {L:List Int}{ds:List aD}{d:aD}(h:FL L ds)(hj:aK (aJ ds) d=.done)(hn:∀ g∈names d,g∈L/\bK g):FL L (ds++[d]):=by
 have e1:=eW hj;have e2:=qU hj;refine⟨?_,?_,?_,?_,?_,?_,?_⟩
 ·rw[<-e1];exact fR h.good fun g hg=>(hn g hg).2
 ·rw[<-e1];exact mF h.good h.of fun g hg=>(hn g hg).1
 ·rw[<-e1,ID];exact nz h.sz d
 ·rw[<-e1,<-e2];exact xq h.al
 ·rw[<-e1];exact AO h.ci fun g hg=>(hn g hg).1
 ·rw[<-e2];exact Di h.mo d
 ·rw[<-e2,KG,ID]
  have h1:=xN (aJ ds) (ku ds) d;have h2:=h.ml;cases e:pJ d<;>simp[e]at h1 ⊢<;>omega
theorem lG {L:List Int}{ds:List aD}(hd:cU ds)(hn:∀ d∈ds,∀ g∈names d,g∈L/\bK g):∀ i,FL L (ds.take i)
 | 0=>Hb
 | i+1=>by
  have ih:=lG hd hn i;rw[IZ]
  cases e:ds[i]? with
  | none=>simpa using ih
  | some d=>rw[Jd];exact ih.next (hd i d e) (hn d (IV e))
inductive i9 (K:PySem.W.Frag) (vs:List V) (H:Hp) (Q:VK) (E_:XK):Prop
 | mk (a:Addr) (ns:List Int) (h_0:vs=[.ref a]) (h_1:bF K H a (ns.map V.int)) (h_2:∀ (t w m ls:Addr)(H':Hp)(es:List aD),aA H H'->H' t=some (.tup [.ref w,.ref m,.ref ls])->zB H H' w m ls (aJ es) (ku es)->cU es->(∀ d∈es,∀ g∈names d,g∈aZ 40 (cY ns 1))->es.length<=88->(es.filter pJ).length<=48->Q (.ref t) H'):i9 K vs H Q E_
end Wz
namespace L2
open PySem PySem.Spec PyProof.Rows
end L2
namespace Wz
open PySem L2
theorem uq {k c m:Int}(h:0<=k/\k<m):gM k c∈aZ m c:=by
 unfold aZ;rw[Je];exact⟨k.toNat,Jt.mpr (by omega),by rw[Int.toNat_of_nonneg h.1]⟩
theorem lu {m c g:Int}(h:g∈aZ m c):∃ k:Int,(0<=k/\k<m)/\g=gM k c:=by
 unfold aZ at h;obtain⟨k,hk,rfl⟩:=Je.mp h;have:=Jt.mp hk;exact⟨k,by omega,rfl⟩
theorem qT {m n c g:Int}(h:g∈aZ m c)(hmn:m<=n):g∈aZ n c:=by
 obtain⟨k,hk,rfl⟩:=lu h;exact uq ⟨hk.1,by omega⟩
def FI (f:Int->Int):Prop:=∀ a b,f a=f b->a=b
theorem vi {w:List (Int×Int)}{g:Int}(h:g∉ay w):wr w g=g:=by
 unfold wr
 cases e:look w g with
 | none=>rfl
 | some m=>exact absurd (cE.mp (by rw[e];rfl)) h
def iter (f:Int->Int):Nat->Int->Int
 | 0,g=>g
 | n+1,g=>f (iter f n g)
theorem mi (f:Int->Int)(m:Nat):∀ (n:Nat)(g:Int),iter f (n+m) g=iter f n (iter f m g)
 | 0,_=>by rw[Nat.zero_add];rfl
 | n+1,g=>by
  rw[Nat.add_right_comm]
  show f (iter f (n+m) g)=f (iter f n (iter f m g))
  rw[mi f m n g]
theorem qL {f:Int->Int}(h:FI f):∀ (n:Nat){a b:Int},iter f n a=iter f n b->a=b
 | 0,_,_,e=>e
 | n+1,_,_,e=>qL h n (h _ _ e)
theorem pZ {f:Int->Int}{ks:List Int}(hk:∀ g∈ks,f g∈ks){g:Int}(hg:g∈ks):∀ n,iter f n g∈ks
 | 0=>hg
 | n+1=>hk _ (pZ hk hg n)
theorem oB:∀ {l:List Int},¬ l.Nodup->∃ i j:Nat,i<j/\∃ x,l[i]? = some x/\l[j]? = some x
 | [],h=>absurd J8 h
 | a::r,h=>by
  by_cases ha:a∈r
  ·obtain⟨n,hn,e⟩:=Kt ha
   exact⟨0,n+1,Nat.succ_pos _,a,rfl,by rw[List.getElem?_cons_succ,List.getElem?_eq_getElem hn,e]⟩
  ·have hr:¬ r.Nodup:=fun z=>h (I0.mpr ⟨ha,z⟩)
   obtain⟨i,j,hij,x,e1,e2⟩:=oB hr;exact⟨i+1,j+1,Nat.succ_lt_succ hij,x,by simpa using e1,by simpa using e2⟩
theorem xt {f:Int->Int}(hf:FI f){ks:List Int}(hk:∀ g∈ks,f g∈ks){g:Int}(hg:g∈ks):∃ n,0<n/\n<=ks.length/\iter f n g=g:=by
 have h:¬ ((List.range (ks.length+1)).map fun n=>iter f n g).Nodup:=fun nd=>by
  have:=dB nd (m:=ks) fun x hx=>by
   obtain⟨n,_,rfl⟩:=Je.mp hx;exact pZ hk hg n
  rw[Ir,J4]at this;omega
 obtain⟨i,j,hij,x,e1,e2⟩:=oB h;rw[List.getElem?_map]at e1 e2
 have hj:j<ks.length+1:=by
  have:=(List.getElem?_eq_some_iff.mp (show ((List.range (ks.length+1)).map fun n=>iter f n g)[j]? = some x by rw[List.getElem?_map];exact e2)).1;simpa using this
 have hi:i<ks.length+1:=by omega
 rw[List.getElem?_range hi]at e1;rw[List.getElem?_range hj]at e2;have e1':iter f i g=x:=Iy e1;have e2':iter f j g=x:=Iy e2;refine⟨j-i,by omega,by omega,?_⟩
 have e3:iter f (i+(j-i)) g=iter f i g:=by rw[show i+(j-i)=j by omega,e2',e1']
 rw[mi]at e3;exact qL hf i e3
theorem xA {f:Int->Int}{g:Int}:∀ (n:Nat),0<n->iter f n g=g->∃ m,0<m/\m<=n/\iter f m g=g/\∀ k,0<k->k<m->iter f k g≠g:=by
 intro n
 induction n using Nat.strongRecOn with
 | _ n ih =>
  intro hn he
  by_cases h:∃ k,0<k/\k<n/\iter f k g=g
  ·obtain⟨k,k0,kn,ke⟩:=h
   obtain⟨m,m0,mk,me,mf⟩:=ih k kn k0 ke;exact⟨m,m0,by omega,me,mf⟩
  ·exact⟨n,hn,Iv _,he,fun k k0 kn ke=>h ⟨k,k0,kn,ke⟩⟩
def jq (f:Int->Int)(g:Int)(m:Nat):List Int:=(List.range m).map fun i=>iter f i g
theorem rB {f:Int->Int}(hf:FI f){g:Int}{m:Nat}(hm:∀ k,0<k->k<m->iter f k g≠g):(jq f g m).Nodup:=by
 cases Classical.em (jq f g m).Nodup with
 | inl h=>exact h
 | inr h =>
  obtain⟨i,j,hij,x,e1,e2⟩:=oB h;unfold jq at e1 e2
  have hj:j<m:=by
   have:=(List.getElem?_eq_some_iff.mp e2).1;simpa using this
  rw[List.getElem?_map,List.getElem?_range (by omega)]at e1;rw[List.getElem?_map,List.getElem?_range hj]at e2;have e1':iter f i g=x:=Iy e1;have e2':iter f j g=x:=Iy e2
  have e3:iter f (i+(j-i)) g=iter f i g:=by rw[show i+(j-i)=j by omega,e2',e1']
  rw[mi]at e3;exact absurd (qL hf i e3) (hm (j-i) (by omega) (by omega))
theorem pp {f:Int->Int}{g:Int}{m:Nat}(hm:0<m)(he:iter f m g=g){x:Int}(hx:x∈jq f g m):f x∈jq f g m:=by
 unfold jq at hx ⊢;obtain⟨i,hi,rfl⟩:=Je.mp hx;have hi:=Jt.mp hi
 by_cases h:i+1<m
 ·exact Je.mpr ⟨i+1,Jt.mpr h,rfl⟩
 ·refine Je.mpr ⟨0,Jt.mpr hm,?_⟩
  have:i+1=m:=by omega
  rw[<-this]at he;exact he.symm
theorem wN (l:List Int):(b7 l).Perm l:=Kr l _
def nL (f:Int->Int)(g:Int)(m:Nat):Prop:=0<m/\iter f m g=g/\∀ k,0<k->k<m->iter f k g≠g
def wv (f:Int->Int)(N:Nat)(g:Int):Nat:=((List.range N).find? fun i=>decide (iter f (i+1) g=g)).getD 0+1
def gn (f:Int->Int)(N:Nat)(g:Int):List Int:=jq f g (wv f N g)
theorem qF (p:Nat->Bool):∀ (N m:Nat),m<N->p m=true->(∀ k,k<m->p k=false)->(List.range N).find? p=some m
 | 0,m,h,_,_=>by omega
 | N+1,m,h,hm,hk=>by
  rw[List.range_succ,List.find?_append]
  by_cases e:m<N
  ·rw[qF p N m e hm hk];rfl
  ·have e:m=N:=by omega
   subst e;rw[List.find?_eq_none.mpr fun x hx=>by rw[hk x (Jt.mp hx)];simp];simp[hm]
theorem By {f:Int->Int}{g:Int}{m N:Nat}(h:nL f g m)(hN:m<=N):wv f N g=m:=by
 obtain⟨h0,h1,h2⟩:=h;unfold wv;rw[qF _ N (m-1) (by omega) (by rw[show m-1+1=m by omega];exact IG h1) fun k hk=>IM (h2 (k+1) (by omega) (by omega))];simp;omega
theorem tG {f:Int->Int}(hf:FI f){K:List Int}(hk:∀ g∈K,f g∈K){g:Int}(hg:g∈K){N:Nat}(hN:K.length<=N):nL f g (wv f N g):=by
 obtain⟨n,n0,n1,n2⟩:=xt hf hk hg;obtain⟨m,m0,m1,m2,m3⟩:=xA n n0 n2;have R:nL f g m:=⟨m0,m2,m3⟩;rw[By R (by omega)];exact R
theorem mU {f:Int->Int}{g x:Int}{m:Nat}:x∈jq f g m↔∃ i,i<m/\x=iter f i g:=by
 unfold jq;rw[Je];constructor
 ·rintro⟨i,hi,rfl⟩;exact⟨i,Jt.mp hi,rfl⟩
 ·rintro⟨i,hi,rfl⟩;exact⟨i,Jt.mpr hi,rfl⟩
theorem oZ {f:Int->Int}{S:List Int}(h:∀ x∈S,f x∈S):∀ (n:Nat){x:Int},x∈S->iter f n x∈S
 | 0,_,hx=>hx
 | n+1,_,hx=>h _ (oZ h n hx)
theorem yc {f:Int->Int}{g:Int}{m:Nat}(R:nL f g m){S:List Int}(hS:∀ x∈S,f x∈S)(hg:g∉S):∀ x∈jq f g m,x∉S:=fun x hx z=>by
 obtain⟨i,hi,rfl⟩:=mU.mp hx;have:=oZ hS (m-i) z;rw[<-mi,show m-i+i=m by omega,R.2.1]at this;exact hg this
def db (f:Int->Int)(N:Nat):List Int->List Int->List (List Int)
 | [],_=>[]
 | g::ks,S=>if g∈S then db f N ks S else gn f N g::db f N ks (S++gn f N g)
theorem mV {f:Int->Int}(hf:FI f){K:List Int}(hk:∀ g∈K,f g∈K){N:Nat}(hN:K.length<=N):∀ (ks S:List Int),(∀ x∈ks,x∈K)->(∀ x∈S,f x∈S) ->
  (db f N ks S).flatten.Nodup/\(∀ x∈(db f N ks S).flatten,x∉S/\x∈K)/\(∀ x∈ks,x∈S\/x∈(db f N ks S).flatten)/\∀ r∈db f N ks S,∃ g∈ks,r=gn f N g/\nL f g (wv f N g)
 | [],S,_,_=>by simp[db]
 | g::ks,S,h1,h2=>by
  have hgK:=h1 g IJ;have h1':∀ x∈ks,x∈K:=fun x hx=>h1 x (Iz _ hx);unfold db
  by_cases hg:g∈S
  ·rw[Iq hg]
   obtain⟨a,b,c,d⟩:=mV hf hk hN ks S h1' h2;refine⟨a,b,fun x hx=>?_,fun r hr=>?_⟩
   ·rcases IE.mp hx with rfl | z
    ·exact .inl hg
    ·exact c x z
   ·obtain⟨q,hq,e⟩:=d r hr
    exact⟨q,Iz _ hq,e⟩
  ·rw[Ip hg]
   have R:=tG hf hk hgK hN;have ap:=yc R h2 hg;have cl:∀ x∈gn f N g,f x∈gn f N g:=fun x hx=>pp R.1 R.2.1 hx
   have inK:∀ x∈gn f N g,x∈K:=fun x hx=>by
    obtain⟨i,hi,rfl⟩:=mU.mp hx;exact pZ hk hgK i
   have g0:g∈gn f N g:=mU.mpr ⟨0,R.1,rfl⟩
   obtain⟨a,b,c,d⟩:=mV hf hk hN ks (S++gn f N g) h1' fun x hx=>by
    rcases IP.mp hx with z | z
    ·exact IP.mpr (.inl (h2 x z))
    ·exact IP.mpr (.inr (cl x z))
   rw[List.flatten_cons];refine⟨?_,fun x hx=>?_,fun x hx=>?_,fun r hr=>?_⟩
   ·rw[List.nodup_append]
    exact⟨rB hf R.2.2,a,fun x hx y hy e=>(b y hy).1 (IP.mpr (.inr (by rw[<-e];exact hx)))⟩
   ·rcases IP.mp hx with z | z
    ·exact⟨ap x z,inK x z⟩
    ·exact⟨fun q=>(b x z).1 (IP.mpr (.inl q)),(b x z).2⟩
   ·rcases IE.mp hx with rfl | z
    ·exact .inr (IP.mpr (.inl g0))
    ·rcases c x z with q | q
     ·rcases IP.mp q with q | q
      ·exact .inl q
      ·exact .inr (IP.mpr (.inl q))
     ·exact .inr (IP.mpr (.inr q))
   ·rcases IE.mp hr with rfl | z
    ·exact⟨g,IJ,rfl,R⟩
    ·obtain⟨q,hq,e⟩:=d r z
     exact⟨q,Iz _ hq,e⟩
theorem z6 {f:Int->Int}{N:Nat}{g:Int}:(gn f N g).length=wv f N g:=by unfold gn jq;rw[Ir,J4]
theorem Paired.mapP' {α β:Type}{F G:α->β->Prop}:∀ {l₁:List α}{l₂:List β},Paired F l₁ l₂->(∀ a b,a∈l₁->F a b->G a b)->Paired G l₁ l₂
 | _,_,.nil,_=>.nil
 | _,_,.cons e r,h=>.cons (h _ _ IJ e) (Paired.mapP' r fun a b ha=>h a b (Iz _ ha))
structure CI (W:List (Int×Int)):Prop where
 inj:FI (wr W)
 cl:∀ g∈ay W,wr W g∈ay W
 nd:(ay W).Nodup
theorem my {W:List (Int×Int)}{g:Int}(h:g∈ay W):look W g=some (wr W g):=by
 obtain⟨m,e⟩:=Jm.mp (cE.mpr h);unfold wr;rw[e];rfl
theorem wC {st:bO}(G:d8 st):CI st.worn:=by
 refine⟨fun a b e=>?_,fun g hg=>G.ow g _ (my hg),G.wn⟩
 by_cases ha:a∈ay st.worn
 ·have ea:=my ha
  by_cases hb:b∈ay st.worn
  ·have eb:=my hb
   have h1:=(G.wh a _).mp ea;have h2:=(G.wh b _).mp eb;rw[e,h2]at h1;exact (Iy h1).symm
  ·have:=G.ow a _ ea
   rw[e,vi hb]at this;exact absurd this hb
 ·by_cases hb:b∈ay st.worn
  ·have:=G.ow b _ (my hb)
   rw[<-e,vi ha]at this;exact absurd this ha
  ·rw[vi ha,vi hb]at e
   exact e
theorem vN (W:List (Int×Int)):(ay W).length=W.length:=by unfold ay;rw[Ir]
theorem CI.ring {W:List (Int×Int)}(P:CI W){g:Int}(hg:g∈ay W):nL (wr W) g (wv (wr W) W.length g):=tG P.inj P.cl hg (by rw[vN];exact Iv _)
theorem CI.ord_le {W:List (Int×Int)}(P:CI W){g:Int}(hg:g∈ay W):wv (wr W) W.length g<=W.length:=by
 have h:=dB (rB P.inj (P.ring hg).2.2) (m:=ay W) fun x hx=>by
  obtain⟨i,_,rfl⟩:=mU.mp hx;exact pZ P.cl hg i
 rw[vN]at h;unfold jq at h
 rwa [Ir,J4]at h
def yd (W:List (Int×Int)):List (List Int):=db (wr W) W.length (bX W) []
theorem CI.wrong {W:List (Int×Int)}(P:CI W):(∀ g∈bX W,g∈ay W/\wr W g≠g)/\(bX W).Nodup/\(∀ g∈bX W,wr W g∈bX W)/\(bX W).length<=W.length:=by
 have m:∀ g,g∈bX W↔g∈ay W/\wr W g≠g:=fun g=>by
  unfold bX;rw[Kd,(wN _).mem_iff];simp
 refine⟨fun g hg=>(m g).mp hg,((wN _).nodup_iff.mpr P.nd).filter _,fun g hg=>(m _).mpr ⟨P.cl g ((m g).mp hg).1,fun z=>((m g).mp hg).2 (P.inj _ _ z)⟩,tY W⟩
def zj (f:Int->Int)(N:Nat)(q:List Int×List (List Int))(g:Int):List Int×List (List Int):=if g∈q.1 then q else (q.1++gn f N g,q.2++[gn f N g])
theorem iY (f:Int->Int)(N:Nat):∀ (ks S:List Int)(rs:List (List Int)),ks.foldl (zj f N) (S,rs)=(S++(db f N ks S).flatten,rs++db f N ks S)
 | [],S,rs=>by simp[db]
 | g::ks,S,rs=>by
  rw[KF];unfold zj db
  by_cases h:g∈S
  ·rw[Iq h,Iq h];exact iY f N ks S rs
  ·rw[Ip h,Ip h]
   have:=iY f N ks (S++gn f N g) (rs++[gn f N g]);unfold zj at this;rw[this,List.flatten_cons];simp
def qR (W:List (Int×Int))(i:Nat):List Int×List (List Int):=((bX W).take i).foldl (zj (wr W) W.length) ([],[])
theorem Fd (W:List (Int×Int)){n:Nat}(h:(bX W).length<=n):(qR W n).2=yd W:=by unfold qR;rw[JJ h,iY];rfl
theorem Gi {W:List (Int×Int)}(P:CI W)(i:Nat):(qR W i).1.Nodup/\(∀ x∈(qR W i).1,x∈bX W)/\(∀ x∈(qR W i).1,wr W x∈(qR W i).1)/\(qR W i).1.length<=W.length/\(qR W i).2.length<=i:=by
 obtain⟨w1,w2,w3,w4⟩:=P.wrong;have sub:∀ x∈(bX W).take i,x∈bX W:=fun x hx=>List.mem_of_mem_take hx;obtain⟨a,b,c,d⟩:=mV P.inj w3 w4 ((bX W).take i) [] sub (fun x h=>by cases h)
 have e:qR W i=((db (wr W) W.length ((bX W).take i) []).flatten,db (wr W) W.length ((bX W).take i) []):=by unfold qR;rw[iY];rfl
 rw[e];refine⟨a,fun x hx=>(b x hx).2,fun x hx=>?_,Jb (dB a fun x hx=>(b x hx).2) w4,?_⟩
 ·obtain⟨r,hr,hxr⟩:=List.mem_flatten.mp hx
  obtain⟨g,_,rfl,R⟩:=d r hr;exact List.mem_flatten.mpr ⟨_,hr,pp R.1 R.2.1 hxr⟩
 ·have:∀ (ks S:List Int),(db (wr W) W.length ks S).length<=ks.length:=by
   intro ks
   induction ks with
   | nil=>intro S;exact Iv _
   | cons g ks ih =>
    intro S;unfold db;split
    ·exact Nat.le_succ_of_le (ih S)
    ·rw[Jc,Jc]
     have:=ih (S++gn (wr W) W.length g);omega
  have h1:=this ((bX W).take i) [];rw[Jn]at h1
  show (db (wr W) W.length ((bX W).take i) []).length<=i
  omega
theorem wH {W:List (Int×Int)}(P:CI W):(yd W).length<=W.length/\∀ r∈yd W,r.length<=W.length:=by
 obtain⟨w1,w2,w3,w4⟩:=P.wrong;have h:=Gi P (bX W).length;rw[Fd W (Iv _)]at h;refine⟨by omega,fun r hr=>?_⟩;obtain⟨g,hg,rfl,R⟩:=(mV P.inj w3 w4 (bX W) [] (fun x h=>h) (fun x h=>by cases h)).2.2.2 r hr;rw[z6];exact P.ord_le (w1 g hg).1
end Wz
namespace L2
open PySem PySem.Spec PyProof.Rows
theorem iS {X:Cx}:kA X (.type "dict") (fun xs H Q=>∃ p kvs,xs=[.ref p]/\H p=some (.dK kvs)/\∀ l,H l=none->Q (.ref l) (upd H l (.dK kvs))):=by
 intro pins s σ H xs us Q I r h;obtain⟨p,kvs,rfl,hp,q⟩:=h;obtain⟨u,rfl,rx⟩:=kW r;cases rx;obtain⟨hz,hS,vs,rv,m⟩:kvs.length<=sizeLine/\(p == sysModules)=false/\∃ vs,KV kvs vs/\s.heap.DictOf (aB X.prog X.w) p vs:=I.hok p _ hp;have hlen:kvs.length=vs.length:=Ix rv;refine kt_call_dict hS m (by omega) fun h' hm hs=>?_;have kp:∀ b o',s.heap.get? b=some o'->h'.get? b=some o':=fun b o' e=>hs.extBut b o' (IC (IA e)) (Heap.get?_push_of_some _ e);have e0:bo X.prog X.w (upd H s.heap.objs.size (.dK [])) _ s.heap.objs.size (.dK []):=lY s.heap I.big;have e1:(s.heap.objs.size == sysModules)=false:=e0.2.1;exact⟨.ref s.heap.objs.size,_,I.laid (t':=s.toks) kp (Iv _) (show bo X.prog X.w _ h' _ (.dK kvs) from ⟨hz,e1,vs,rv,hm⟩),rfl,q _ (I.hok.fresh (Iv _))⟩
end L2
namespace Wz
open PySem L2
theorem zE {ns:List Int}{k:Int}{n:Nat}(h0:0<=k)(h:k<n):cY (ns.take n) k=cY ns k:=by
 unfold cY;rw[Jn]
 by_cases hk:k<(ns.length:Int)
 ·rw[Iq hk,Iq (by omega),List.getD_eq_getElem?_getD,List.getD_eq_getElem?_getD,List.getElem?_take_of_lt (by omega)]
 ·rw[Ip hk,Ip (by omega)]
end Wz
namespace L2
open PySem PySem.Spec PyProof.Rows PySem.Calls
section
variable {X:Cx}{pins:List (Addr×Obj)}{σ:St}{H H':Hp}{s:Shared}
end
section
variable {prog:Program}{w:World}{A:Around}{E:Value->Shared->Prop}{s:Shared}
end
end L2
namespace Wz
open PySem L2
end Wz
namespace L2
open PySem PySem.Spec PyProof.Rows
end L2
namespace Wz
open PySem L2
end Wz
namespace L2
open PySem PySem.Spec PyProof.Rows
end L2
namespace Wz
open PySem L2
end Wz
namespace L2
open PySem PySem.Spec PyProof.Rows
theorem zF {X:Cx}{pins:List (Addr×Obj)}{σ:St}{H:Hp}{s:Shared}{a:Addr}{v:V}{u r:Value}{A:Around}{E:Value->Shared->Prop}{kvs:List (bV×V)}{k:bV}{Q:Unit->Shared->Prop}(I:au X pins σ H s)(e:H a=some (.dK kvs))(l:kvs.length<sizeLine)(ry:aY (kV k) u)(rv:aY v r)(h:∀ s',au X pins σ (upd H a (.dK (fq kvs k v))) s'->Q () s') :
  wpAny (model X.prog X.w) A (dictSet a u r) Q E s:=by
 obtain⟨z,hd,vs,rel,dd⟩:=yK I.hok e
 have hz:vs.length<=sizeLine:=by rw[<-rel.length];exact z
 have hl:(fq kvs k v).length<=sizeLine:=by have:=gO kvs k v;omega
 refine wpAny_dictSet_pairs (hsz:=hz) (mq ry) dd fun h' dd' hs=>h _ ?_;have he:∃ q,h'.get? a=some q:=let ⟨q,_,_,hq,_⟩:=dd';⟨q,hq⟩;exact lX I (by rw[e];exact True.intro) hs he (uj hl hd (rel.put k rv) dd')
theorem jr {prog:Program}{w:World}{A:Around}{R:Result->Shared->Prop}{s:Shared}{kx vx target iter:Expr}{ifs:List Expr}{scope:Scope}{pos:Pos}{it:Value}{acc:Addr}{env:Env}(I:Nat->Shared->Prop)
  (turn:∀ n s,I n s->wpAny (model prog w) A (pyNext it) (fun r s₁=>match r with
   | none=>R (.ok .next) s₁
   | some v=>wpAny (model prog w) A (letOwnedTupleGo target it v) (fun _ s₁'=>wpAny (model prog w) A (assign target env v) (fun _ s₂ =>
     wpAny (model prog w) A (forIn ifs true fun c r=>if r=true then do let ok <-isTrue c env (eval c env);pure (ForInStep.yield ok) else pure (ForInStep.yield r)) (fun ok s₃ =>
      if ok=true then wpAny (model prog w) A (eval kx env) (fun kv s₄=>wpAny (model prog w) A (eval vx env) (fun vv s₅ =>
       wpAny (model prog w) A (dictSet acc kv vv) (fun _ s₆=>∃ m,m<n/\I m s₆) (fun _ _=>False) s₅) (fun _ _=>False) s₄) (fun _ _=>False) s₃
      else ∃ m,m<n/\I m s₃) (fun _ _=>False) s₂) (fun _ _=>False) s₁') (fun _ _=>False) s₁) (fun _ _=>False) s)
  (n:Nat) (h:I n s) :
  codeAny (model prog w) A (.compLoop (.DictComp kx vx [⟨target,iter,ifs,0⟩] scope pos) 0 it (.ref acc) env) R s:=by
 refine codeAny_loop rfl I (fun n s hI=>?_) n h
 show wpAny _ A ((compTurn (.DictComp kx vx [⟨target,iter,ifs,0⟩] scope pos) 0 it (.ref acc) env).onRaise (fun x=>do noteFrame x env;theTreesLotGoes x)) _ _ s
 refine wpAny_noted ?_;rw[compTurn_dict];refine Io (JA (Io (IS (turn n s hI) (fun r s₁ h₁=>?_) fun _ _ h'=>h'.elim)))
 cases r with
 | none=>exact Iu h₁
 | some v =>
  refine Io (IS h₁ (fun _ s₁' h₁'=>?_) fun _ _ h'=>h'.elim);refine Io (IS h₁' (fun _ s₂ h₂=>Io (IS h₂ (fun ok s₃ h₃=>?_) fun _ _ h'=>h'.elim)) fun _ _ h'=>h'.elim)
  cases ok with
  | false=>exact Iu ⟨rfl,h₃⟩
  | true =>
   exact Io (Io (IS h₃ (fun kv s₄ h₄=>Io (Jv (IS h₄ (fun vv s₅ h₅=>Io (JA (Jv (IS h₅ (fun _ s₆ h₆=>Iu ⟨rfl,h₆⟩) fun _ _ h'=>h'.elim)))) fun _ _ h'=>h'.elim))) fun _ _ h'=>h'.elim))
def Hs (tt:TT)(tk tv:TE)(a:Addr):TS:=fun D σ H=>tt σ H fun b H1=>if b=true then tk σ H1 fun y H2=>tv σ H2 fun z H3=>∃ kvs k,H3 a=some (.dK kvs)/\y=kV k/\kvs.length<sizeLine/\D.nx σ (upd H3 a (.dK (fq kvs k z))) else D.nx σ H1
def Fq (wi:TI)(g:TG)(tt:TT)(tk tv:TE)(src:List (Option Nat)):TE:=fun σ H Q=>wi σ H fun J H1=>∀ a,H1 a=none ->
 lT J g (Hs tt tk tv a) { nx:=fun _ H'=>Q (.ref a) H',rt:=fun _ _=>False } (iV src σ) (upd H1 a (.dK []))
theorem BF {X:Cx}{kx vx tg iter:Expr}{ifs:List Expr}{sc so:Scope}{pos:Pos}{N':List Str}{src:List (Option Nat)}{wi:TI}{g:TG}{tt:TT}{tk tv:TE}{N:List Str}(hso:X.env.scope=so)(hXN:X.N=N)(S:sR so sc N N' src)(hc:X.calm=true)(hi:PI X tg iter wi)
  (hb:∀ (cl:List (Str×Addr))(C:Addr)(s:Shared)(H:Hp)(ex:List Addr),PG (cH X sc cl C N' s H ex) tg g/\DT (cH X sc cl C N' s H ex) ifs tt/\PE (cH X sc cl C N' s H ex) kx tk/\PE (cH X sc cl C N' s H ex) vx tv)
  (hs:∀ x,foldedSetIterable iter X.env x=pure x:=by intro _;rfl):PE X (.DictComp kx vx [⟨tg,iter,ifs,0⟩] sc pos) (Fq wi g tt tk tv src):=by
 subst hXN;intro pins s σ H Q I h
 obtain⟨cl,hcl,q1,q3⟩:=iU (sc:=sc) (env:=X.env) fun y hy hf=>by
  have:=S.fre y hy hf;rw[<-hso]at this;exact I.ok.has y.1 this
 rw[arm_eval_DictComp];refine wpAny_comprehension_free (use:=none) rfl hs hcl S.kind S.loc (bx (hi pins s σ H _ I h) fun v s1 h1=>bx h1 fun itv s2 h2=>?_);obtain⟨it,fp,tn,J,H2,e,I2,T,st2,f2,hR⟩:=h2;subst e;refine Jq ?_
 have I3:au X pins σ (upd H2 s2.heap.objs.size (.dK [])) { s2 with heap:=s2.heap.push { cls:=.type "dict",dict:=none,data:=.dict #[] } } :=
  I2.laid (t':=s2.toks) (fun b u q=>Heap.get?_push_of_some _ q) (Iv _) (lY s2.heap I2.big)
 have hfr:=I2.hok.fresh (Iv s2.heap.objs.size);obtain⟨W,⟨m0,w0⟩,turn⟩:=hR _ hfr
 have flt:∀ b∈fp,b<s2.heap.objs.size:=fun b hb=>by obtain⟨o,e,_⟩:=T.obj _ _ st2 b hb;exact IA e
 generalize hs3:({ s2 with heap:=s2.heap.push { cls:=.type "dict",dict:=none,data:=.dict #[] } }:Shared)=s3 at I3 ⊢
 have e3:s3.heap=s2.heap.push { cls:=.type "dict",dict:=none,data:=.dict #[] }:=by rw[<-hs3]
 have sz3:s3.heap.objs.size=s2.heap.objs.size+1:=by rw[e3,JT]
 have hf3:∀ b∈fp,fT X pins (upd H2 s2.heap.objs.size (.dK [])) b:=fun b hb=>⟨by rw[ag (IC (flt b hb))];exact (f2 b hb).1,(f2 b hb).2⟩
 have flt3:∀ b∈fp,b<s3.heap.objs.size:=fun b hb=>by rw[sz3];exact JR (flt b hb)
 have st3:tn 0 s3.heap:=T.keep _ _ _ st2 fun b _ o e=>by rw[e3];exact Heap.get?_push_of_some _ e
 refine Kk S.nocell (by intro y hy;simp at hy) (fun h4 hns4 hsb4=>?_) S.kind;have kp4:∀ b o,s3.heap.get? b=some o->h4.get? b=some o:=fun b o e=>hsb4.extBut b o (IC (IA e)) (Heap.get?_push_of_some _ e);have I4:=mh (h':=h4) I3 hso S q1 q3 hf3 flt3 (by simpa using hns4) kp4 (s3.toks+([]:List (Str×Value)).length);have st4:tn 0 h4:=T.keep _ _ _ st3 fun b _ o e=>kp4 b o e;generalize hC:s3.heap.objs.size=C at I4 hns4 hsb4 ⊢;obtain⟨hg,ht,hek,hev⟩:=hb cl C s3 (upd H2 s2.heap.objs.size (.dK [])) fp
 let Y:Cx:=cH X sc cl C N' s3 (upd H2 s2.heap.objs.size (.dK [])) fp
 have loop:∀ s5:Shared,s5={ s3 with heap:=h4,toks:=s3.toks+([]:List (Str×Value)).length }->codeAny (model X.prog X.w) X.A (.compLoop (.DictComp kx vx [⟨tg,iter,ifs,0⟩] sc pos) 0 (.ref it) (.ref s2.heap.objs.size) (compEnvC sc cl C X.env))
   (compPost (model X.prog X.w) X.A X.xe none (EP X pins σ Q) (.ref s2.heap.objs.size) C) s5:=by
  rintro s5 rfl
  have stat:∀ {H':Hp},(∀ b∈fp,H' b=none)->∀ b∈fp,fT Y [] H' b:=fun {H'} hn b hb=>by
   obtain⟨f0,f1,f2',f3,f4,f5⟩:=hf3 b hb;refine⟨hn b hb,?_,fun z=>?_,.inl hb,fun x c e=>f4 x c (q1 x c e),fun p hp=>absurd (show p∈([]:List (Addr×Obj)) from hp) (by simp)⟩
   ·show b≠C
    rw[<-hC];exact IC (flt3 b hb)
   ·have z:b∈iq X.stack:=z
    rcases IE.mp (I3.stkSub b z) with y | y
    ·exact f1 y
    ·exact f2' y
  refine jr (fun n s'=>∃ i σ' H',au Y [] σ' H' s'/\tn i s'.heap/\(∀ b∈fp,H' b=none)/\W i n σ' H') ?_ m0 ⟨0,_,_,I4,st4,fun b hb=>(hf3 b hb).1,w0⟩;rintro n s6 ⟨i,σ6,H6,I6,st6,fr6,w6⟩;rcases turn i n σ6 H6 w6 with ⟨stop,qn⟩ | ⟨go,Nx,hN,step⟩
  ·refine bx (T.done Y rfl rfl rfl hc i [] s6 σ6 H6 _ I6 (stat fr6) st6 stop) fun r s7 ⟨hr,I7⟩=>?_
   subst hr;obtain⟨m,hn,_⟩:=id I7.loc;refine⟨m,hn,fun h' hsb=>?_⟩
   have neC:∀ b o,s3.heap.get? b=some o->b≠C:=fun b o e=>by rw[<-hC];exact IC (IA e)
   have freeC:H6 C=none:=I7.free
   have un:Un (iq X.stack) fp (upd H2 s2.heap.objs.size (.dK [])) H6 s3.heap h' :=
    ⟨fun b o e n hb hx=>(hsb.2 b (neC b o e)).trans (I7.base.keep b o e n hb hx),fun b o e n hb hx=>by
      obtain⟨sl,q⟩:=I7.base.slot b o e n hb hx
      exact⟨sl,(hsb.2 b (neC b o e)).trans q⟩,I7.base.free,fun b o e hx=>by
      obtain⟨o',q⟩:=I7.base.there b o e hx
      exact⟨o',(hsb.2 b (neC b o e)).trans q⟩,I7.base.tups,I7.base.frzs,I7.base.tbls⟩
   have hok:iQ X.prog X.w H6 h':=fun b ob e=>by
    refine (I7.hok b ob e).stay (fun c w' hc' q=>(hsb.2 c ?_).trans q) (fun _ q=>q) fun _ _ q=>q;rintro rfl;rcases hc' with z | z
    ·rw[<-z,freeC]at e;cases e
    ·rw[freeC]at z;cases z
   have J7:au X pins σ H6 { s7 with heap:=h' }:=I3.call' (ch:=fp) (s':={ s7 with heap:=h' }) I7.os un hok I7.bare fun b hb=>⟨(hf3 b hb).2.2.2.1,(hf3 b hb).2.1,(hf3 b hb).2.2.2.2.1,(hf3 b hb).2.2.2.2.2⟩;exact⟨.ref s2.heap.objs.size,H6,J7,rfl,qn⟩
  ·refine bx (T.item Y rfl rfl rfl hc i [] s6 σ6 H6 _ I6 (stat fr6) st6 go) fun r s7 ⟨u,hr,h7⟩=>?_
   subst hr;refine bx h7 fun _ s8 ⟨x,H8,I8,r8,y8,st8,fr8⟩=>?_;have I8':=I8.pinned (stat fr8) (T.obj _ _ st8);refine bx (hg _ s8 σ6 H8 x u _ I8' r8 (step x H8 y8)) fun _ s9 ⟨σ9,H9,I9,q9⟩=>?_
   have again:∀ {s':Shared}{σ7:St}{H7:Hp},au Y ([]++i8 fp s8.heap) σ7 H7 s'->Nx σ7 H7->∃ m,m<n/\∃ i σ' H',au Y [] σ' H' s'/\tn i s'.heap/\(∀ b∈fp,H' b=none)/\W i m σ' H':=fun {s' σ7 H7} I7 n7=>by
    obtain⟨m',hm,w7⟩:=hN σ7 H7 n7;refine⟨m',hm,i+1,σ7,H7,I7.unpinned,T.keep _ _ _ st8 fun b hb o e=>(I7.pin (b,o) (IF _ (IF _ (bU hb e)))).1,fun b hb=>?_,w7⟩;obtain⟨o,e,d⟩:=T.obj _ _ st8 b hb;exact (I7.pin (b,o) (IF _ (IF _ (bU hb e)))).2.1
   refine bx (ht _ s9 σ9 H9 _ I9 q9) fun ok s10 ⟨H10,I10,q10⟩=>?_
   cases ok with
   | false =>
    rw[Ip Iw]at q10 ⊢;exact again I10 q10
   | true =>
    rw[Iq rfl]at q10 ⊢;refine bx (hek _ s10 σ9 H10 _ I10 q10) fun kv s11 ⟨y,H11,I11,ry,q11⟩=>?_;refine bx (hev _ s11 σ9 H11 _ I11 q11) fun vv s12 ⟨z,H12,I12,rz,kvs,kk,hkv,ey,hlen,q12⟩=>?_;subst ey;exact zF (X:=Y) I12 hkv hlen ry rz fun s13 I13=>again I13 q12
 exact codeAny_compStart_dict (loop _ rfl) (T.self _ 0 _ _ _ st4 (loop _ rfl))
open PySem
theorem DJ {tk tv:TE}{a:Addr}{D:hG}{σ:St}{H:Hp}(h:tk σ H fun y H2=>tv σ H2 fun z H3=>∃ kvs k,H3 a=some (.dK kvs)/\y=kV k/\kvs.length<sizeLine/\D.nx σ (upd H3 a (.dK (fq kvs k z)))):Hs ve tk tv a D σ H:=by
 unfold Hs ve;dsimp only;rw[Iq rfl];exact h
end L2
namespace Wz
open PySem L2
end Wz
namespace L2
open PySem PySem.Spec PyProof.Rows
end L2
namespace Wz
open PySem L2
def xH (p:Int×Int):Int×Int:=cZ p.1 p.2
def DQ (W ml:List (Int×Int))(ps:List (Int×Int)):Prop:=(∀ p∈ps,p.1≠p.2/\p.1∈ay W/\p.2∈ay W/\xH p∉ml)/\(ps.map xH).Nodup
open L2
end Wz
namespace L2
open PySem PySem.Spec PyProof.Rows
theorem qE:entryFor table "dict_itemiterator.__iter__" = some Builtin.«dict_keyiterator.__iter__»:=entryFor_alias (id':="dict_keyiterator.__iter__") (by rfl) rfl (by decide +kernel) (by rfl)
theorem pP {prog:Program}{w:World}{A:Around}{E:Value->Shared->Prop}{s:Shared}{it:Addr}{Q:Value->Shared->Prop}(hT:s.TypeIs (.ref it) "dict_itemiterator")(h:Q (.ref it) s):wpAny (model prog w) A (pyIter (.ref it)) Q E s:=by
 refine wpAny_pyIter_slot hT PySem.F.slot_dict_itemiterator_iter (J6 PySem.F.slot_dict_itemiterator_iter hT qE ?go (PySem.F.args_dict_itemiterator_iter_1 _))
 case go =>
  unfold Builtin.«dict_keyiterator.__iter__»;exact Iu ⟨_,rfl,"dict_itemiterator",_,hT,PySem.F.slot_dict_itemiterator_next.lookup,h⟩
def FQ (d:Addr)(o:Obj)(kvs:List (bV×V)):It :=
 ⟨fun i H=>H d=some (.frz o (.dK kvs))/\i<kvs.length,fun i H y H'=>∃ T p,kvs[i]? = some p/\H T=none/\y=.ref T/\H'=upd H T (.tup [kV p.1,p.2]),fun i H=>H d=some (.frz o (.dK kvs))/\kvs.length<=i⟩
theorem yp {P:Program}{w:World}{K:PySem.W.Frag}{elts:List Expr} {kk}{pos:Pos}(d it:Addr)(o:Obj)(kvs:List (bV×V))(ep:Nat)(hep:∀ es ep',o.data=.dict es ep'->ep'=ep) :
  t8 P w K (.Tuple elts kk pos) (FQ d o kvs) [it] it (fun i h=>∃ ok ov,IsItemIter h it d i kvs.length ep ok ov) where
 mem:=by simp
 obj:=fun i h st b hb=>by
  have e:b=it:=by simpa using hb
  subst e;obtain⟨ok,ov,e⟩:=st;exact⟨_,e,fun v z=>by cases z⟩
 keep:=fun i h h' st k=>by
  obtain⟨ok,ov,e⟩:=st;exact⟨ok,ov,k it (by simp) _ e⟩
 item:=by
  intro X hP hw hK hc i pins s σ H E I hf st hg;subst hP hw hK;obtain⟨hH,hi⟩:=hg;obtain⟨lo,vs,rel,hat⟩:=pT hep (I.hok d _ hH);obtain⟨f0,f1,f2,f3,f4,f5⟩:=hf it (by simp);have hl:kvs.length=vs.length:=Ix rel;obtain⟨p,hp⟩:∃ p,kvs[i]? = some p:=⟨kvs[i],by simp[hi]⟩;obtain⟨q,hq,ek,rv⟩:=Wz.paired_get rel hp;obtain⟨k,v⟩:=q;have ek:p.1=k:=ek;have rv:aY p.2 v:=rv;obtain⟨ok,ov,st⟩:=st;rw[hl]at st;have lti:it<s.heap.objs.size:=IA st;refine wpAny_pyNext_items_item (knd:=aB X.prog X.w) st hat hq fun key h' hk out hT hsz keep=>⟨.ref s.heap.objs.size,rfl,?_⟩;refine wpAny_letOwnedTupleGo_items (s:={ s with heap:=h' }) out fun h2 st2 sb2=>?_
  have rk:aY (kV p.1) key:=by
   rw[ek];rcases bM (k:=k) (v:=key) hk with ⟨j,t,ej,ev⟩ | ⟨j,t,ej,ev⟩
   ·subst ej;exact⟨t,ev⟩
   ·subst ej;exact⟨t,ev⟩
  have hfr:H s.heap.objs.size=none:=I.hok.fresh (Iv _)
  have IL:au X pins σ (upd H s.heap.objs.size (.tup [kV p.1,p.2])) { s with heap:=s.heap.push { cls:=.type "tuple",data:=.seq #[key,v] },toks:=s.toks } :=
   I.laid (fun b o q=>Heap.get?_push_of_some _ q) (Iv _) ⟨by show 2<=sizeLine;decide,[key,v],.cons rk (.cons rv .nil),⟨_,Heap.get?_push_size _ rfl,rfl,_,rfl⟩⟩
  have I2:=IL.turned (t':=s.toks) (h':=h2) (it:=it) (fun b o n1 q=>by
   refine (sb2.2 b n1).trans ?_
   show h'.get? b=some o
   by_cases hb:b=s.heap.objs.size
   ·subst hb
    have q:(s.heap.push { cls:=.type "tuple",data:=.seq #[key,v] }).get? s.heap.objs.size=some o:=q;rw[Heap.get?_push_size _ rfl]at q;cases q;exact hT
   ·have q:(s.heap.push { cls:=.type "tuple",data:=.seq #[key,v] }).get? b=some o:=q
    refine keep b o n1 ?_;rw[Heap.get?_push_ne _ _ _ hb]at q
    exact q) (by rw[ag (IC lti)];exact f0) f1 f3 f4 f5
  refine⟨.ref s.heap.objs.size,_,I2,rfl,⟨s.heap.objs.size,p,hp,hfr,rfl,rfl⟩,⟨_,_,by rw[hl];exact st2⟩,fun b hb=>?_⟩
  have hb':b=it:=by simpa using hb
  subst hb';rw[ag (IC lti)];exact f0
 done:=by
  intro X hP hw hK hc i pins s σ H E I hf st hg;subst hP hw hK;obtain⟨hH,hi⟩:=hg;obtain⟨lo,vs,rel,hat⟩:=pT hep (I.hok d _ hH);have hl:kvs.length=vs.length:=Ix rel;obtain⟨f0,f1,f2,f3,f4,f5⟩:=hf it (by simp);obtain⟨ok,ov,st⟩:=st;rw[hl]at st;exact wpAny_pyNext_items_end (knd:=aB X.prog X.w) (I.ok.hd hc) st hat (by simp;omega) fun h' eb=>⟨rfl,I.turned (t':=s.toks) (fun b o hb e=>eb b o hb e) f0 f1 f3 f4 f5⟩
 self:=fun _ _ _ _ _ st h=>by
  obtain⟨ok,ov,e⟩:=st;exact pP ⟨_,e,rfl⟩ h
def EE (tl:TE):TI:=fun σ H R=>tl σ H fun x H1=>∃ d kvs,x=.ref d/\H1 d=some (.dK kvs)/\∀ o:Obj,R (FQ d o kvs) (upd H1 d (.frz o (.dK kvs)))
theorem BP {X:Cx}{elts:List Expr} {kk}{tpos:Pos}{l:Expr}{apos cpos:Pos}{tl:TE}(hl:PE X l tl)(hbase:attributeBase l "items" X.env (eval l X.env)=eval l X.env:=by rfl)(hline:(apos.endLine == cpos.line)=true:=by rfl) :
  PI X (.Tuple elts kk tpos) (.Call (.Attribute l "items" apos) [] [] cpos) (EE tl):=by
 intro pins s σ H R I h;refine wpAny_Call_method0_late hbase hline (bx (hl pins s σ H _ I h) fun v s1 ⟨x,H1,I1,r1,q1⟩=>?_);obtain⟨d,kvs,e,hH,q⟩:=q1;subst e;cases r1;obtain⟨hz,lo,vs,rel,dd⟩:=(show bo X.prog X.w H1 s1.heap d (.dK kvs) from I1.hok d _ hH);obtain⟨ep,hat⟩:=dd.dictAt;obtain⟨o,es,ho,hc,hdat,r⟩:=id hat;have hl2:kvs.length=vs.length:=Ix rel;obtain⟨t1,t2,_⟩:=ux I1 (.inl ⟨kvs,Rd.of hH⟩);refine⟨"dict","dict.items",PySem.F.plainAttrs_dict,PySem.F.slot_dict_items,PySem.F.type_dict_items,t1,t2,Kb rfl (PySem.evalArgs_none ?_)⟩;refine call_meetsIn PySem.F.slot_dict_items t1 PySem.F.entry_dict_items (PySem.F.args_dict_items_1 _) (meets_dict_items (aB X.prog X.w) d lo) ⟨⟨vs,dd⟩,?_⟩;have I2:au X pins σ (upd H1 d (.frz o (.dK kvs))) { s1 with heap:=s1.heap,toks:=s1.toks }:=I1.write (by rw[hH];trivial) (.inl rfl) (fun b u _ e=>e) ⟨_,ho⟩ ⟨ho,hz,lo,vs,rel,dd⟩;have hV:(s1.heap.push { cls:=.type "dict_items",data:=.fields #[.ref d] }).IsItemsView s1.heap.objs.size d:=⟨_,Heap.get?_push_size _ rfl,rfl,rfl⟩;refine wpAny_pyIter_items (s:={ s1 with heap:=s1.heap.push { cls:=.type "dict_items",data:=.fields #[.ref d] } }) (knd:=aB X.prog X.w) hV (hat.at fun o e=>Heap.get?_push_of_some _ e) ?_;have sz:(s1.heap.push { cls:=.type "dict_items",data:=.fields #[.ref d] }).objs.size=s1.heap.objs.size+1:=JT ..;refine⟨_,[_],_,_,_,rfl,I2.kept (t':=s1.toks) fun b o e=>Heap.get?_push_of_some _ (Heap.get?_push_of_some _ e),yp d _ o kvs ep (fun es' ep' e=>?_),⟨_,_,by rw[hl2];exact Heap.get?_push_size _ rfl⟩,fun b hb=>?_,q o⟩
 ·rw[hdat]at e;cases e;rfl
 ·have e:b=(s1.heap.push { cls:=.type "dict_items",data:=.fields #[.ref d] }).objs.size:=by simpa using hb
  rw[e,sz];exact I2.fpOk (KH _) (I2.hok.fresh (KH _))
theorem zR {d:Addr}{o:Obj}{kvs:List (bV×V)}{g:TG}{tb:TS}{D:hG}{σ:St}{H:Hp}(Pv:Nat->St->Hp->Prop)(h0:Pv 0 σ H)(hl:∀ i σ H,i<=kvs.length->Pv i σ H->H d=some (.frz o (.dK kvs)))
  (hs:∀ i p σ H T,kvs[i]? = some p->Pv i σ H->H T=none->g (.ref T) σ (upd H T (.tup [kV p.1,p.2])) fun σ2 H2=>tb { D with nx:=Pv (i+1),ct:=Pv (i+1),bk:=D.nx } σ2 H2) (hd:∀ σ H,Pv kvs.length σ H->D.nx σ H) :
  ∃ W:Nat->Nat->St->Hp->Prop,(∃ m,W 0 m σ H)/\∀ i m σ H,W i m σ H ->
   ((FQ d o kvs).stop i H/\D.nx σ H)\/((FQ d o kvs).go i H/\∃ N:St->Hp->Prop,(∀ σ' H',N σ' H'->∃ m',m'<m/\W (i+1) m' σ' H')/\∀ x H',(FQ d o kvs).yld i H x H'->g x σ H' fun σ2 H2=>tb { D with nx:=N,ct:=N,bk:=D.nx } σ2 H2):=by
 refine⟨fun i m σ H=>m=kvs.length-i/\i<=kvs.length/\Pv i σ H,⟨kvs.length,by simp,IX _,h0⟩,?_⟩;rintro i m σ H ⟨rfl,hi,p⟩;have q:=hl i σ H hi p
 by_cases hlt:i<kvs.length
 ·refine .inr ⟨⟨q,hlt⟩,Pv (i+1),fun σ' H' p'=>⟨kvs.length-(i+1),by omega,rfl,hlt,p'⟩,fun x H' y=>?_⟩
  obtain⟨T,p2,hp,hT,ex,e⟩:=y;subst e ex;exact hs i p2 σ _ T hp p hT
 ·have e:i=kvs.length:=by omega
  subst e;exact .inl ⟨⟨q,Iv _⟩,hd σ H p⟩
theorem y6 {X:Cx}{pos:Pos}(K:PySem.W.Frag){es:List Expr}{k:Nat}{t:CA}{n:Nat}(hc:X.calm=true)(h:FV X es t)(hK:X.K=K:=by rfl)
  (hn:(assignEach es X.env).length=n:=by rfl) (hst:(assignEach es X.env).findIdx? (·.1)=none:=by rfl):PG X (.Tuple es k pos) (EA K n t):=by
 subst hK;exact gf hc h hn hst
end L2
namespace Wz
open PySem L2
theorem eB (A:HA):aH A=[(("worn" : Str),V.ref A.w),(("holders" : Str),V.ref A.h),(("circles" : Str),V.ref A.c),(("deeds" : Str),V.ref A.d)]:=by
 unfold aH;simp only[eI,Ip s1,Ip s2,Ip s3,Ip s4,Ip s5,Ip s6]
theorem Fc (A:HA)(l:Addr):eI "worn" (.ref l) (aH A)=aH { A with w:=l }:=by
 rw[eB,eB];simp only[eI,Kx]
theorem Fb (A:HA)(l:Addr):eI "holders" (.ref l) (aH A)=aH { A with h:=l }:=by
 rw[eB,eB];simp only[eI,Ip s1,Kx]
theorem E9 (A:HA)(l:Addr):eI "circles" (.ref l) (aH A)=aH { A with c:=l }:=by
 rw[eB,eB];simp only[eI,Ip s2,Ip s4,Kx]
theorem Fa (A:HA)(l:Addr):eI "deeds" (.ref l) (aH A)=aH { A with d:=l }:=by
 rw[eB,eB];simp only[eI,Ip s3,Ip s5,Ip s6,Kx]
theorem uB (A:HA):(aH A).length<1000:=by rw[eB];show 4<1000;decide
theorem F1 (A:HA)(cs:List Addr):aH { A with cs:=cs }=aH A:=by rw[eB,eB]
theorem tw:∀ {cs:List Addr}{ci:List (Int×List Int)}{i:Nat}{p:bV×V},cs.length=ci.length->(bS cs ci)[i]? = some p->∃ a x,cs[i]? = some a/\ci[i]? = some x/\p=(Sum.inl x.1,V.ref a)
 | [],[],i,p,_,h=>by simp[bS]at h
 | c::cs,y::ci,0,p,_,h=>by
  refine⟨c,y,rfl,rfl,?_⟩;have h:some ((Sum.inl y.1,V.ref c):bV×V)=some p:=h;exact (Iy h).symm
 | c::cs,y::ci,i+1,p,e,h=>by
  obtain⟨a,x,h1,h2,h3⟩:=tw (cs:=cs) (ci:=ci) (i:=i) (p:=p) (by simpa using e) h;exact⟨a,x,h1,h2,h3⟩
theorem vB:∀ {cs:List Addr}{ci:List (Int×List Int)}{g:Int},g∉ci.map (·.1)->dN (bS cs ci) (Sum.inl g:bV)=none
 | [],_,g,_=>by cases ‹List (Int×List Int)›<;>rfl
 | c::cs,[],g,_=>rfl
 | c::cs,y::ci,g,h=>by
  rw[IT,IE]at h
  show dN ((Sum.inl y.1,V.ref c)::bS cs ci) (Sum.inl g:bV)=none
  rw[iK (fun z=>h (.inl (Sum.inl.inj z).symm))];exact vB fun z=>h (.inr z)
inductive rP (C:Addr) (vs:List V) (H:Hp) (Q:VK) (E_:XK):Prop
 | mk (p:Addr) (A:HA) (st:bO) (h_0:vs=[.ref p]) (h_1:az C H p A st) (h_2:(st.circ.map (·.1)).Nodup) (h_3:st.circ.length<=900) (h_4:∀ (q:Addr)(B:HA)(H':Hp),H q=none->az C H' q B st->(∀ b∈B.fp,H b=none)->aA H H'->Q (.ref q) H'):rP C vs H Q E_
def b9 (p:Int×Int):aD:=.exch p.1 p.2
end Wz
namespace L2
open PySem PySem.Spec PyProof.Rows PySem.Calls
end L2
namespace Wz
open PySem L2
theorem mY {HH:Hp}{q t:Addr}{ds:List Addr}{ps:List (Int×Int)}{a b:Int}(h1:HH q=some (.lst (ds.map V.ref)))(h2:Paired (fun b (e:Int×Int)=>HH b=some (.tup [.int e.1,.int e.2])) ds ps)(ht:HH t=none) :
  aT (upd (upd HH t (.tup [.int a,.int b])) q (.lst (ds.map V.ref++[V.ref t]))) q (ps++[(a,b)]):=by
 refine⟨ds++[t],by rw[af,Ja];rfl,?_⟩;exact bC (Paired.mapP h2 fun b e y=>by rw[ag (cJ y h1 (by intro u;cases u))];exact (ai ht) _ _ y) (.cons (by rw[ag ((ak h1 ht).symm),af]) .nil)
theorem An {K:PySem.W.Frag}{te:TE}{Qf:Hp->Prop}{lr q:Addr}{α:Type}{f:α->V}{pr:α->Int×Int}{zs:List α}{rest:St}{H:Hp}(hq:H q=none)(h1:H lr=some (.lst (zs.map f)))(hlen:zs.length<=1000)
  (ht:∀ (i:Nat)(z:α)(HK:Hp)(Q':VK),zs[i]? = some z->aA H HK->(∀ (t:Addr),HK t=none->Q' (.ref t) (upd HK t (.tup [.int (pr z).1,.int (pr z).2])))->te (some (f z)::rest) HK Q')
  (k:∀ (HK:Hp),aA H HK->aT HK q (zs.map pr)->Qf HK) :
  lT (En K lr) (qI 0) (CB ve te q) { nx:=fun _ H'=>Qf H',rt:=fun _ _=>False } (none::rest) (upd H q (.lst [])):=by
 refine cC (K:=K) (a:=lr) (xs:=zs.map f) (fun i σ HK=>∃ v:Option V,σ=v::rest/\aA H HK/\aT HK q ((zs.take i).map pr))
  ⟨none,rfl,ai hq,[],af,.nil⟩ (fun i σ HK _ ⟨_,_,s2,_⟩=>bF.of (s2 _ _ h1)) ?_ ?_
 ·rintro i y σ HK hi ⟨v,rfl,t1,ds,hq2,pd⟩
  obtain⟨z,hz,rfl⟩:=bT hi;have hil:i<zs.length:=(List.getElem?_eq_some_iff.mp hz).1;have dl:=Ix pd;rw[Ir,Jn]at dl;refine qf (ht i z HK _ hz t1 fun t ht=>?_);refine⟨_,(ai ht) _ _ hq2,by rw[Ir];exact aW (by omega),_,rfl,cF (t1.trans (ai ht)) hq,?_⟩;rw[IZ,hz,Jd,Ja];exact mY hq2 pd ht
 ·rintro σ HK ⟨v,rfl,t1,row⟩
  rw[Ir,Ji]at row;exact k HK t1 row
open L2
section
variable {st:bO}
end
section
variable {st:bO}{ml:List (Int×Int)}
end
inductive ni (vs:List V) (H:Hp) (Q:VK) (E_:XK):Prop
 | mk (l w m:Addr) (W ml ps:List (Int×Int)) (h_0:vs=[.ref l,.ref w,.ref m]) (h_1:aT H l ps) (h_2:H w=some (.dK (dk W))) (h_3:H m=some (.dT (js ml))) (h_4:ps.length<=1000) (h_5:∀ (b:Bool)(H':Hp),aA H H'->(b=true->DQ W ml ps)->Q (.bl b) H'):ni vs H Q E_
end Wz
namespace L2
open PySem
theorem cu.m {j k:Nat}{A:Around}(r:cu k A)(h:j<=k:=by decide):cu j A:=r.mono h
theorem gK {X:Cx}{e:Expr}{t:TE}(h:PE X e t)(hs:starEach [e] X.env=(false,eval e X.env)::starEach [] X.env:=by rfl):PA X [e] (jU t rT):=aq h aN hs
theorem dP {X:Cx}{e e2:Expr}{t t2:TE}(h:PE X e t)(h2:PE X e2 t2)(hs:starEach [e,e2] X.env=(false,eval e X.env)::starEach [e2] X.env:=by rfl)(hs2:starEach [e2] X.env=(false,eval e2 X.env)::starEach [] X.env:=by rfl):PA X [e,e2] (jU t (jU t2 rT)):=aq h (aq h2 aN hs2) hs
theorem AI {X:Cx}{e e2 e3:Expr}{t t2 t3:TE}(h:PE X e t)(h2:PE X e2 t2)(h3:PE X e3 t3)(hs:starEach [e,e2,e3] X.env=(false,eval e X.env)::starEach [e2,e3] X.env:=by rfl)(hs2:starEach [e2,e3] X.env=(false,eval e2 X.env)::starEach [e3] X.env:=by rfl)(hs3:starEach [e3] X.env=(false,eval e3 X.env)::starEach [] X.env:=by rfl):PA X [e,e2,e3] (jU t (jU t2 (jU t3 rT))):=aq h (aq h2 (aq h3 aN hs3) hs2) hs
theorem bA {X:Cx}{pos:Pos}(i:Nat){x:Str}{e:Expr}{te:TE}{pos':Pos}(hN:X.N.Nodup)(he:PE X e te)(hi:X.N[i]? = some x:=by rfl)(hx:DS X.env.scope x:=by first | exact Or.inl rfl | exact Or.inr rfl)(hs:swapsWith e (some (.Name x pos')) pos.line X.env=pure false:=by rfl)(hf:X.fn x=true\/X.env.scope.names.lookup x=some .local:=by first | exact .inl rfl | exact .inr rfl | assumption) :
  PS X (.Assign [.Name x pos'] e pos) (Fm te (qI i)):=dM hN hi hx he hs hf
theorem j7 {X:Cx}{pos:Pos}(i:Nat){x:Str}(hN:X.N.Nodup)(hi:X.N[i]? = some x:=by rfl)(hx:DS X.env.scope x:=by first | exact Or.inl rfl | exact Or.inr rfl)(hf:X.fn x=true\/X.env.scope.names.lookup x=some .local:=by first | exact .inl rfl | exact .inr rfl | assumption):PG X (.Name x pos) (qI i):=mL hN hi hx hf
theorem Et {so sc:Scope}{N N':List Str}{src:List (Option Nat)}(a:sc.kind=.function:=by rfl)(b:∀ y∈sc.names,y.2≠.cell:=by decide +kernel)(c:∀ y∈sc.names,y.2=.local->sc.names.lookup y.1=some .local:=by decide +kernel)(d:∀ y∈sc.names,y.2=.free->so.names.lookup y.1=some .cell\/so.names.lookup y.1=some .free:=by decide +kernel)(e:N'.Nodup:=by decide +kernel)(f:src.length=N'.length:=by rfl)
  (g:∀ p∈N'.zip src,(match p.2 with | none=>true | some j=>decide (N[j]? = some p.1/\sc.names.lookup p.1=some .free))=true:=by decide +kernel):sR so sc N N' src:=⟨a,b,c,d,e,f,g⟩
theorem gJ {N P:List Str}{sc:Scope}(a:sc.kind=.function:=by rfl)(b:sc.isCoroutine=false:=by rfl)(c:sc.isGenerator=false:=by rfl)(d:N.Nodup:=by decide +kernel)(e:N.take P.length=P:=by rfl)(f:∀ x∈P,sc.names.lookup x=some .local\/sc.names.lookup x=some .cell:=by decide +kernel)(g:∀ y∈sc.names,y.2≠.free:=by decide +kernel):av N P sc:=⟨a,b,c,d,e,f,g⟩
end L2
namespace Wz
open PySem L2
def bB (K:PySem.W.Frag)(x:Str)(st:Stmt):Prop:=∃ (f:Addr)(fd:FuncData),PySem.W.nsIn K mainGlobals x=some (some (.ref f))/\d6 K x x st f fd
theorem fact_mk {K:PySem.W.Frag}{x:Str}{st:Stmt}{f:Addr}{oc:Value}{od an:Option Addr}{osl:Array (Option Value)}{kV doc pm cdv ct:Value}(a:PySem.W.nsIn K mainGlobals x=some (some (.ref f)))(l:K.lookup f=some ⟨oc,od,.func (PySem.W.fnOf x x (fG st) (dz st) (ao st) .none kV doc pm an cdv ct),osl⟩)
  (c:PySem.W.codeIn K cdv x=true) (k:PySem.W.keepIn K (.ref f)=true):bB K x st:=⟨f,_,a,A6 l c k⟩
def cX (K:PySem.W.Frag)(C:Addr)(m q:Str)(st:Stmt):Prop:=∃ (f:Addr)(fd:FuncData),PySem.W.findIn K (.ref C) m=some (some (.ref f))/\PySem.W.isFn K (.ref f)=true/\d6 K m q st f fd
theorem mfact_mk {K:PySem.W.Frag}{C:Addr}{m q:Str}{st:Stmt}{f:Addr}{oc:Value}{od an:Option Addr}{osl:Array (Option Value)}{kV doc pm cdv ct:Value}(a:PySem.W.findIn K (.ref C) m=some (some (.ref f)))(i:PySem.W.isFn K (.ref f)=true)(l:K.lookup f=some ⟨oc,od,.func (PySem.W.fnOf m q (fG st) (dz st) (ao st) .none kV doc pm an cdv ct),osl⟩)
  (c:PySem.W.codeIn K cdv q=true) (k:PySem.W.keepIn K (.ref f)=true):cX K C m q st:=⟨f,_,a,i,A6 l c k⟩
section
variable {P:Program}{w:World}{K:PySem.W.Frag}{h base:Heap}{mg:Str->Option Value}{x m q:Str}{st:Stmt}{k:Nat}{ps:List Str}{sp:Sp}{C:Addr}{CX:sQ}
theorem EM {n:Nat}{P:List Value->Prop}(h:∀ (a:Value)(vs:List Value),vs.length=n->P (a::vs)):∀ us:List Value,us.length=n+1->P us
 | a::vs,e=>h a vs (Nat.succ.inj e)
theorem EL {P:List Value->Prop}(h:P []):∀ us:List Value,us.length=0->P us
 | [],_=>h
theorem rX (X:K.In h)(G:h.Ns mainGlobals mg)(F:bB K x st)(ok:∀ f fd,d6 K x x st f fd->bd P w K mg base c7 k f fd ps sp)
  (hb:∀ (kV doc pm:Value)(an:Option Addr)(cdv ct:Value)(us:List Value),us.length=ps.length->bindArgs (PySem.W.fnOf x x (fG st) (dz st) (ao st) .none kV doc pm an cdv ct) ⟨us,[]⟩=pure (ps.zip us):=by intro _ _ _ _ _ _;(repeat refine EM fun _=>?_);exact EL rfl):aG P w K mg base x k ps sp:=by
 obtain⟨f,fd,a,g⟩:=F;exact⟨f,fd,ok f fd g,JI X G a,g.kp,g.binds hb⟩
theorem F8 (X:K.In h)(G:h.Ns mainGlobals mg)(F:bB K x st)(ok:∀ f fd,d6 K x x st f fd->bd P w K mg base (fb P w) k f fd ps sp)
  (hb:∀ (kV doc pm:Value)(an:Option Addr)(cdv ct:Value)(us:List Value),us.length=ps.length->bindArgs (PySem.W.fnOf x x (fG st) (dz st) (ao st) .none kV doc pm an cdv ct) ⟨us,[]⟩=pure (ps.zip us):=by intro _ _ _ _ _ _;(repeat refine EM fun _=>?_);exact EL rfl):de P w K mg base x k ps sp:=by
 obtain⟨f,fd,a,g⟩:=F;exact⟨f,fd,ok f fd g,JI X G a,g.kp,g.binds hb⟩
theorem pK (F:cX K C m q st)(ok:∀ f fd,d6 K m q st f fd->bd P w K mg base CX k f fd ps sp)
  (hb:∀ (kV doc pm:Value)(an:Option Addr)(cdv ct:Value)(us:List Value),us.length=ps.length->bindArgs (PySem.W.fnOf m q (fG st) (dz st) (ao st) .none kV doc pm an cdv ct) ⟨us,[]⟩=pure (ps.zip us):=by intro _ _ _ _ _ _;(repeat refine EM fun _=>?_);exact EL rfl):ar P w K mg base CX C m k ps sp:=by
 obtain⟨f,fd,a,i,g⟩:=F;exact⟨f,fd,ok f fd g,⟨a,i,g.kp⟩,g.binds hb⟩
end
end Wz
namespace L2
open PySem PySem.Spec PyProof.Rows
end L2
namespace Wz
open PySem L2
open L2
end Wz
namespace PySem
open Sem (wp)
section
variable {M:Model}{A:Around}{E:Value->Shared->Prop}{s:Shared}{env:Env}
def FM (M:Model)(A:Around)(E:Value->Shared->Prop)(use:Option (Value->Sem Unit))(Q:Value->Shared->Prop)(acc:Value)(C:Addr)(fr:Option Addr)(r:Result)(s':Shared):Prop :=
 match r,use with
 | .ok _,none=>∃ m,s'.heap.Ns C m/\∀ h',Heap.SameBut C s'.heap h'->Q acc { s' with heap:=h' }
 | .ok _,some u=>wpAny M A (u acc) (fun _ s''=>∃ m,s''.heap.Ns C m/\∀ h',Heap.SameBut C s''.heap h'->Q .none { s'' with heap:=h' }) E s'
 | .error x,_=>∃ m,s'.heap.Ns C m/\∀ h',Heap.SameBut C s'.heap h'->∀ cenv:Env,cenv.frame=fr->wpAny M A (passOn "comprehension.variables-let-go" x cenv:Sem Value) (fun _ _=>False) E { s' with heap:=h' }
end
end PySem
namespace L2
open PySem PySem.Spec PyProof.Rows
section
variable {M:Model}{A:Around}{E:Value->Shared->Prop}{s:Shared}{B:Heap}{env:Env}{outer:List Env}{L e:Addr}{od:Option Addr}{c:Value}
end
section
variable {P:Program}{w:World}{K:PySem.W.Frag}{mg:Str->Option Value}{base:Heap}{N:List Str}{qual:Str}{sc:Scope}{f:Addr}{cd:Value}{A:Around}{outer:List Env}{s0:Shared}{H0:Hp}{E:XK}
end
def vp (CX:sQ)(X:Cx)(σ:St)(E:XK):Prop:=∀ (pins:List (Addr×Obj))(H:Hp)(s:Shared)(e:Value)(s':Shared),au X pins σ H s->CX X.stack H s E e s'->X.xe e s'
def GX (X:Cx)(pins:List (Addr×Obj))(E:St->XK)(e:Value)(s':Shared):Prop:=∃ (σ:St)(H:Hp)(ea C:Addr)(od:Option Addr)(B:Heap),e=.ref ea/\Eo X pins σ H ea C od B s'/\lS B X.stack ea (.ref C) od s'.heap/\σ.length=X.N.length/\E σ (.ref C) od H
theorem EU {X:Cx}{pins:List (Addr×Obj)}{E:St->XK}(σ:St):vp (fb X.prog X.w) (X.tried pins (GX X pins E)) σ (E σ):=by
 intro qins H s e s' I hc;obtain⟨ea,C,od,H',B,rfl,fl,un,hok,os,bare,hsB,trB,hE⟩:=hc;exact⟨σ,H',ea,C,od,B,rfl,yR I.untried fl un hok os bare hsB trB,fl,I.len,hE⟩
theorem Dx {X:Cx}{b0:Stmt}{bs:List Stmt}{hd0:ExceptHandler}{hdl:List ExceptHandler}{tb:(St->XK)->TS}{th:Value->Option Addr->TS}{pos:Pos}
  (hst:X.stack=X.env::X.outer) (hfr:X.env.frame=some X.env.locals) (hb:∀ pins E,vk (X.tried pins (GX X pins E)) (b0::bs) (tb E)) (hh:CF X (hd0::hdl) th) :
  PS X (.Try (b0::bs) (hd0::hdl) [] [] pos) (fun D σ H=>tb (fun σ' cls od H2=>th cls od D σ' H2) D σ H):=by
 intro pins s σ H D I h;refine wpAny_Try_except ?_;refine IS (hb pins _ [] s σ H D I.tried h) (fun f s1 hq=>?_) fun e s' hx=>?_
 ·cases f with
  | next=>obtain⟨σ',H',I1,q⟩:=hq;exact Kz ⟨σ',H',I1.untried,q⟩
  | brk=>obtain⟨σ',H',I1,q⟩:=hq;exact⟨σ',H',I1.untried,q⟩
  | cont=>obtain⟨σ',H',I1,q⟩:=hq;exact⟨σ',H',I1.untried,q⟩
  | ret u=>obtain⟨v,σ',H',I1,r,q⟩:=hq;exact⟨v,σ',H',I1.untried,r,q⟩
 ·obtain⟨σ',H',ea,C,od,B,rfl,ld,fl,hl,hE⟩:=hx
  have fl':=fl;rw[hst]at fl';refine tQ (by rw[I.ok.frames,hst]) hfr fl' fun h4 held ups4=>?_;refine Bk held fun h5 fl5 ups5=>?_;rw[<-hst]at fl5;exact hh pins σ' H' D ea C od B s' h5 ld fl5 (ups4.trans ups5) hE
end L2
namespace Wz
open PySem L2
theorem yP {b:Bool}{A B:Prop}(e:b=false)(h:B):if b=true then A else B:=by
 rw[e,Ip Iw];exact h
theorem EC {u v D e s t:Int}(h1:D=3250076511083954176*u+839798700976720815*v+18446744073709551616*s)(h2:e=18131465553559158967*u+11281517459552600064*v+18446744073709551616*t)
  (bu : -2147483648<u/\u<2147483648) (bv : -8589934592<v/\v<8589934592) (bD : -2147483648<D/\D<2147483648) (be : -2147483648<e/\e<2147483648) :
  (D=0/\e=0)\/(D=1082452398/\e = -1755844984)\/(D = -1082452398/\e=1755844984):=by
 obtain⟨k0,k1,k2,k3,eu,ev,eD,ee⟩:∃ k0 k1 k2 k3:Int,u=(500607328)*k0+(-2450766760)*k1+(-2125074059)*k2+(2123783508)*k3/\v=(-293911445)*k0+(-4242304441)*k1+(-940908900)*k2+(-13313502988)*k3/\D=(71179813)*k0+(1011272585)*k1+(-2202935132)*k2+(-659352884)*k3/\e=(-2676812896)*k0+(920967912)*k1+(-1341154653)*k2+(-604195060)*k3 :=
  ⟨(-5916852691)*u+(-3986570727)*v+(4759283498)*s+(-6872842267)*t,(289801547)*u+(-127279498)*v+(4798753234)*s+(-565338757)*t,(-1578328259)*u+(-620054596)*v+(-5647371940)*s+(-593478036)*t,(149822886)*u+(172386789)*v+(-1235055683)*s+(373812579)*t,by omega,by omega,by omega,by omega⟩
 clear h1 h2
 have b0 : -1<=k0/\k0<=1:=by omega
 have b1 : -1<=k1/\k1<=1:=by omega
 have b2 : -1<=k2/\k2<=1:=by omega
 have b3:k3=0:=by omega
 subst b3
 rcases (show k0 = -1\/k0=0\/k0=1 by omega) with z | z | z<;>subst z <;>
 rcases (show k1 = -1\/k1=0\/k1=1 by omega) with z | z | z<;>subst z <;>
 rcases (show k2 = -1\/k2=0\/k2=1 by omega) with z | z | z<;>subst z<;>omega
def kz (x:Nat):Nat:=x*2147483648%18446744073709551616+x/8589934592
def rQ (acc h:Nat):Nat:=kz ((acc+h*14029467366897019727)%18446744073709551616)*11400714785074694791%18446744073709551616
theorem F9 {X:Nat}(hX:X<18446744073709551616):X*11400714785074694791%18446744073709551616*614540362697595703%18446744073709551616=X:=by
 have h:=Nat.mul_mod (X*11400714785074694791) 614540362697595703 18446744073709551616;rw[show 614540362697595703%18446744073709551616=614540362697595703 from by decide]at h;rw[<-h,Nat.mul_assoc,show 11400714785074694791*614540362697595703=1+18446744073709551616*379806830464837242 from by decide,Nat.mul_add,Nat.mul_one,<-Nat.mul_assoc,Nat.mul_comm X 18446744073709551616,Nat.mul_assoc,Nat.add_mul_mod_self_left,Nat.mod_eq_of_lt hX]
theorem Ga {X Y:Nat}(hX:X<18446744073709551616)(hY:Y<18446744073709551616)(h:X*11400714785074694791%18446744073709551616=Y*11400714785074694791%18446744073709551616):X=Y:=by
 rw[<-F9 hX,<-F9 hY,h]
theorem uY {x:Nat}(h:x<18446744073709551616):kz x<18446744073709551616:=by unfold kz;omega
theorem iG {x:Nat}(h:x<18446744073709551616):∃ xh xl:Nat,xh<2147483648/\xl<8589934592/\x=xh*8589934592+xl/\kz x=xl*2147483648+xh:=by
 refine⟨x/8589934592,x%8589934592,by omega,by omega,by omega,?_⟩;unfold kz;omega
theorem zh {x y:Nat}(hx:x<18446744073709551616)(hy:y<18446744073709551616)(h:kz x=kz y):x=y:=by
 obtain⟨xh,xl,a1,a2,a3,a4⟩:=iG hx;obtain⟨yh,yl,b1,b2,b3,b4⟩:=iG hy;rw[a4,b4]at h;omega
theorem DF {a b h k:Nat}(e:rQ a h=rQ b k):(a+h*14029467366897019727)%18446744073709551616=(b+k*14029467366897019727)%18446744073709551616:=by
 unfold rQ at e;have l1:(a+h*14029467366897019727)%18446744073709551616<18446744073709551616:=Nat.mod_lt _ (by decide);have l2:(b+k*14029467366897019727)%18446744073709551616<18446744073709551616:=Nat.mod_lt _ (by decide);exact zh l1 l2 (Ga (uY l1) (uY l2) e)
theorem DX {D u v z:Int}(h:8589934592*u+v=14029467366897019727*D+18446744073709551616*z):D=3250076511083954176*u+839798700976720815*v+18446744073709551616*(-(839798700976720815)*z-(638699622168397319)*D+(391061744)*u):=by omega
theorem DY {e u v z:Int}(h:(v*2147483648+u)*11400714785074694791 = -14029467366897019727*e+18446744073709551616*z):e=18131465553559158967*u+11281517459552600064*v+18446744073709551616*((839798700976720815)*z-(638699622168397319)*e+(-519024139352440027)*u+(-1114595852176638264772398099)*v):=by
 have key:e-(18131465553559158967*u+11281517459552600064*v+18446744073709551616*((839798700976720815)*z-(638699622168397319)*e+(-519024139352440027)*u+(-1114595852176638264772398099)*v))=839798700976720815*((v*2147483648+u)*11400714785074694791)-839798700976720815*(-14029467366897019727*e+18446744073709551616*z):=by omega
 rw[h,Int.sub_self]at key;exact Int.sub_eq_zero.mp key
theorem C9 {a c x y zx zy xh xl yh yl:Nat}(h1:2870177450012600261+a*14029467366897019727=18446744073709551616*zx+x)(h2:2870177450012600261+c*14029467366897019727=18446744073709551616*zy+y)(h3:x=xh*8589934592+xl)(h4:y=yh*8589934592+yl) :
  8589934592*((yh:Int)-xh)+((yl:Int)-xl)=14029467366897019727*((c:Int)-a)+18446744073709551616*((zx:Int)-zy):=by omega
theorem C8 {gX gY X1 Y1 V b d z1 z2 z3 z4:Int}(h1:gX=18446744073709551616*z1+X1)(h2:gY=18446744073709551616*z2+Y1)(h3:X1+b*14029467366897019727=18446744073709551616*z3+V)(h4:Y1+d*14029467366897019727=18446744073709551616*z4+V) :
  gY-gX = -14029467366897019727*(d-b)+18446744073709551616*((z4-z3)+(z2-z1)):=by omega
theorem Da {b d X1 Y1 V xh xl yh yl z1 z2 z3 z4:Nat}(h1:(xl*2147483648+xh)*11400714785074694791=18446744073709551616*z1+X1)(h2:(yl*2147483648+yh)*11400714785074694791=18446744073709551616*z2+Y1)(h3:X1+b*14029467366897019727=18446744073709551616*z3+V)(h4:Y1+d*14029467366897019727=18446744073709551616*z4+V) :
  (((yl:Int)-xl)*2147483648+((yh:Int)-xh))*11400714785074694791 = -14029467366897019727*((d:Int)-b)+18446744073709551616*(((z4:Int)-z3)+((z2:Int)-z1)):=by
 have i1:=Jk (fun n:Nat=>(n:Int)) h1;have i2:=Jk (fun n:Nat=>(n:Int)) h2;have i3:=Jk (fun n:Nat=>(n:Int)) h3;have i4:=Jk (fun n:Nat=>(n:Int)) h4;simp only[Int.natCast_add,Int.natCast_mul,Int.cast_ofNat_Int]at i1 i2 i3 i4;rw[<-C8 i1 i2 i3 i4];clear h1 h2 h3 h4 i1 i2 i3 i4;omega
theorem EB {m n:Nat}(h1:m<2147483648)(h2:n<2147483648) : -2147483648<(n:Int)-m/\(n:Int)-m<2147483648:=by omega
theorem C7 {m n:Nat}(h1:m<8589934592)(h2:n<8589934592) : -8589934592<(n:Int)-m/\(n:Int)-m<8589934592:=by omega
theorem fg (x:Nat):∃ r z:Nat,x%18446744073709551616=r/\x=18446744073709551616*z+r/\r<18446744073709551616:=⟨_,x/18446744073709551616,rfl,(Nat.div_add_mod x 18446744073709551616).symm,Nat.mod_lt _ (by decide)⟩
theorem Al {a b c d x y zx zy:Nat}(lx:x<18446744073709551616)(ly:y<18446744073709551616)(hzx:2870177450012600261+a*14029467366897019727=18446744073709551616*zx+x)(hzy:2870177450012600261+c*14029467366897019727=18446744073709551616*zy+y)
  (e:(kz x*11400714785074694791%18446744073709551616+b*14029467366897019727)%18446744073709551616=(kz y*11400714785074694791%18446744073709551616+d*14029467366897019727)%18446744073709551616) (b1 : -2147483648<(c:Int)-a/\(c:Int)-a<2147483648) (b2 : -2147483648<(d:Int)-b/\(d:Int)-b<2147483648) :
  (c=a/\d=b)\/((c:Int)-a=1082452398/\(d:Int)-b = -1755844984)\/((c:Int)-a = -1082452398/\(d:Int)-b=1755844984):=by
 obtain⟨xh,xl,hx1,hx2,hx3,hx4⟩:=iG lx;obtain⟨yh,yl,hy1,hy2,hy3,hy4⟩:=iG ly;rw[hx4,hy4]at e;obtain⟨X1,z1,r1,hz1,_⟩:=fg ((xl*2147483648+xh)*11400714785074694791);obtain⟨Y1,z2,r2,hz2,_⟩:=fg ((yl*2147483648+yh)*11400714785074694791);rw[r1,r2]at e;obtain⟨V,z3,r3,hz3,_⟩:=fg (X1+b*14029467366897019727);obtain⟨V',z4,r4,hz4,_⟩:=fg (Y1+d*14029467366897019727);rw[r3,r4]at e;subst e;have i1:=C9 hzx hzy hx3 hy3;have i2:=Da hz1 hz2 hz3 hz4;have r:=EC (u:=(yh:Int)-xh) (v:=(yl:Int)-xl) (D:=(c:Int)-a) (e:=(d:Int)-b) (DX i1) (DY i2) (EB hx1 hy1) (C7 hx2 hy2) b1 b2;clear hzx hzy hx4 hy4 hz1 hz2 hz3 hz4 i1 i2 hx3 hy3 r1 r2 r3 r4;rcases r with ⟨h1,h2⟩ | h | h
 ·exact .inl ⟨by omega,by omega⟩
 ·exact .inr (.inl h)
 ·exact .inr (.inr h)
theorem BA {a b c d:Nat}(e:rQ (rQ 2870177450012600261 a) b=rQ (rQ 2870177450012600261 c) d)(b1 : -2147483648<(c:Int)-a/\(c:Int)-a<2147483648)(b2 : -2147483648<(d:Int)-b/\(d:Int)-b<2147483648) :
  (c=a/\d=b)\/((c:Int)-a=1082452398/\(d:Int)-b = -1755844984)\/((c:Int)-a = -1082452398/\(d:Int)-b=1755844984):=by
 have e:=DF e;obtain⟨x,zx,rx,hzx,lx⟩:=fg (2870177450012600261+a*14029467366897019727);obtain⟨y,zy,ry,hzy,ly⟩:=fg (2870177450012600261+c*14029467366897019727)
 have ex:rQ 2870177450012600261 a=kz x*11400714785074694791%18446744073709551616:=by unfold rQ;rw[rx]
 have ey:rQ 2870177450012600261 c=kz y*11400714785074694791%18446744073709551616:=by unfold rQ;rw[ry]
 rw[ex,ey]at e;exact Al lx ly hzx hzy e b1 b2
theorem yN {u v D e s t:Int}(h1:D=3250076511083954176*u+839798700976720815*v+18446744073709551616*s)(h2:e=18131465553559158967*u+11281517459552600064*v+18446744073709551616*t) :
  ∃ k0 k1 k2 k3:Int,u=(500607328)*k0+(-2450766760)*k1+(-2125074059)*k2+(2123783508)*k3/\v=(-293911445)*k0+(-4242304441)*k1+(-940908900)*k2+(-13313502988)*k3/\D=(71179813)*k0+(1011272585)*k1+(-2202935132)*k2+(-659352884)*k3/\e=(-2676812896)*k0+(920967912)*k1+(-1341154653)*k2+(-604195060)*k3 :=
  ⟨(-5916852691)*u+(-3986570727)*v+(4759283498)*s+(-6872842267)*t,(289801547)*u+(-127279498)*v+(4798753234)*s+(-565338757)*t,(-1578328259)*u+(-620054596)*v+(-5647371940)*s+(-593478036)*t,(149822886)*u+(172386789)*v+(-1235055683)*s+(373812579)*t,by omega,by omega,by omega,by omega⟩
theorem Bd {u v a b s t:Int}(h1:a+2410371294093258740978389387193132715=3250076511083954176*u+839798700976720815*v+18446744073709551616*s)(h2:b-7683057188801249888269000591591303500=18131465553559158967*u+11281517459552600064*v+18446744073709551616*t)
  (bu:0<=u/\u<2147483648) (bv:0<=v/\v<8589934592) (ba:0<=a/\a<2147483648) (bb:0<=b/\b<2147483648):False:=by
 obtain⟨k0,k1,k2,k3,eu,ev,eD,ee⟩:=yN h1 h2;clear h1 h2
 have c3 : -317073092351089884073562638<=k3/\k3<=-317073092351089884073562638:=by omega
 have c2 : -490739042303951060969702305<=k2/\k2<=-490739042303951060969702305:=by omega
 have c1:862499473087128762802838249<=k1/\k1<=862499473087128762802838250:=by omega
 have c0:3484413306444098645847115629<=k0/\k0<=3484413306444098645847115630:=by omega
 obtain rfl:k3 = -317073092351089884073562638:=by omega
 obtain rfl:k2 = -490739042303951060969702305:=by omega
 rcases (show k1=862499473087128762802838249\/k1=862499473087128762802838250 by omega) with z | z<;>subst z <;>
 rcases (show k0=3484413306444098645847115629\/k0=3484413306444098645847115630 by omega) with z | z<;>subst z<;>omega
theorem Be {u v a b s t:Int}(h1:a+2410371294093258740978389387193132715=3250076511083954176*u+839798700976720815*v+18446744073709551616*s)(h2:b-7683057188801249888269000591591303500=18131465553559158967*u+11281517459552600064*v+18446744073709551616*t)
  (bu:0<=u/\u<2147483648) (bv:0<=v/\v<8589934592) (ba:997852516353<=a/\a<1000000000001) (bb:997852516353<=b/\b<1000000000001):False:=by
 obtain⟨k0,k1,k2,k3,eu,ev,eD,ee⟩:=yN h1 h2;clear h1 h2;omega
theorem F3 {a x zx xh xl:Nat}(h1:2870177450012600261+a*14029467366897019727=18446744073709551616*zx+x)(h3:x=xh*8589934592+xl) :
  8589934592*(xh:Int)+(xl:Int)=14029467366897019727*((a:Int)+2410371294093258740978389387193132715)+18446744073709551616*(-(zx:Int)-1833181252879301869574179742171100259):=by omega
theorem F2 {gX X1 b z1 z3:Int}(h1:gX=18446744073709551616*z1+X1)(h3:X1+b*14029467366897019727=18446744073709551616*z3+9148689060682678900):gX = -14029467366897019727*(b-7683057188801249888269000591591303500)+18446744073709551616*((z1+z3)-5843264246394176785560967236497869100):=by omega
theorem F4 {b X1 xh xl z1 z3:Nat}(h1:(xl*2147483648+xh)*11400714785074694791=18446744073709551616*z1+X1)(h3:X1+b*14029467366897019727=18446744073709551616*z3+9148689060682678900) :
  ((xl:Int)*2147483648+(xh:Int))*11400714785074694791 = -14029467366897019727*((b:Int)-7683057188801249888269000591591303500)+18446744073709551616*(((z1:Int)+z3)-5843264246394176785560967236497869100):=by
 have i1:=Jk (fun n:Nat=>(n:Int)) h1;have i3:=Jk (fun n:Nat=>(n:Int)) h3;simp only[Int.natCast_add,Int.natCast_mul,Int.cast_ofNat_Int]at i1 i3;exact F2 i1 i3
theorem yO {n:Nat}(h:n<2147483648):0<=(n:Int)/\(n:Int)<2147483648:=by omega
theorem DZ {n:Nat}(h:n<8589934592):0<=(n:Int)/\(n:Int)<8589934592:=by omega
theorem D1 {n:Nat}(h:997852516353<=n)(h2:n<1000000000001):997852516353<=(n:Int)/\(n:Int)<1000000000001:=by omega
theorem Dl {a b x zx:Nat}(lx:x<18446744073709551616)(hzx:2870177450012600261+a*14029467366897019727=18446744073709551616*zx+x)(e:(kz x*11400714785074694791%18446744073709551616+b*14029467366897019727)%18446744073709551616=9148689060682678900)
  (bl:(a<2147483648/\b<2147483648)\/(997852516353<=a/\a<1000000000001/\997852516353<=b/\b<1000000000001)):False:=by
 obtain⟨xh,xl,hx1,hx2,hx3,hx4⟩:=iG lx;rw[hx4]at e;obtain⟨X1,z1,r1,hz1,_⟩:=fg ((xl*2147483648+xh)*11400714785074694791);rw[r1]at e;obtain⟨V',z3,r3,hz3,_⟩:=fg (X1+b*14029467366897019727);rw[r3]at e;subst e;have i1:=DX (F3 hzx hx3);have i2:=DY (F4 hz1 hz3);clear hzx hx3 hx4 hz1 hz3 r1 r3 lx;rcases bl with ⟨b1,b2⟩ | ⟨b1,b2,b3,b4⟩
 ·exact Bd i1 i2 (yO hx1) (DZ hx2) (yO b1) (yO b2)
 ·exact Be i1 i2 (yO hx1) (DZ hx2) (D1 b1 b2) (D1 b3 b4)
theorem Go:15576566623696079691=kz 9148689060682678900*11400714785074694791%18446744073709551616:=by decide +kernel
theorem Cf {X b y:Nat}(r:(X+b*14029467366897019727)%18446744073709551616=y):rQ X b=kz y*11400714785074694791%18446744073709551616:=by unfold rQ;rw[r]
theorem y1 {a b:Nat}(bl:(a<2147483648/\b<2147483648)\/(997852516353<=a/\a<1000000000001/\997852516353<=b/\b<1000000000001)):rQ (rQ 2870177450012600261 a) b≠15576566623696079691:=by
 intro e;obtain⟨x,zx,rx,hzx,lx⟩:=fg (2870177450012600261+a*14029467366897019727);have ex:=Cf rx;obtain⟨y,zy,ry,hzy,ly⟩:=fg (rQ 2870177450012600261 a+b*14029467366897019727);have e':=(Cf ry).symm.trans (e.trans Go)
 have lV:9148689060682678900<18446744073709551616:=by decide
 have hy:=zh ly lV (Ga (uY ly) (uY lV) e');have h1:(kz x*11400714785074694791%18446744073709551616+b*14029467366897019727)%18446744073709551616=(rQ 2870177450012600261 a+b*14029467366897019727)%18446744073709551616:=Jk (fun n=>(n+b*14029467366897019727)%18446744073709551616) ex.symm;exact Dl lx hzx (h1.trans (ry.trans hy)) bl
def nY (r:Nat):Int:=if ((r+2870177450013471924)%18446744073709551616 == 18446744073709551615)=true then 1546275796 else if (r+2870177450013471924)%18446744073709551616<9223372036854775808 then (((r+2870177450013471924)%18446744073709551616:Nat):Int) else (((r+2870177450013471924)%18446744073709551616:Nat):Int)-(18446744073709551616:Nat)
theorem Ii {a:Nat}(h:a<18446744073709551616):((a:Int)%((18446744073709551616:Nat):Int)).toNat=a:=by omega
theorem CW {r r':Nat}(h1:r<18446744073709551616)(h2:r'<18446744073709551616)(n1:r≠15576566623696079691)(n2:r'≠15576566623696079691)(e:nY r=nY r'):r=r':=by
 unfold nY at e
 have z1:¬ ((r+2870177450013471924)%18446744073709551616 == 18446744073709551615)=true:=by
  intro z;have z:=JS.mp z;omega
 have z2:¬ ((r'+2870177450013471924)%18446744073709551616 == 18446744073709551615)=true:=by
  intro z;have z:=JS.mp z;omega
 rw[Ip z1,Ip z2]at e;clear z1 z2;split at e<;>split at e<;>omega
def Ay (m p1 p2 acc:Nat)(h:Int):Nat :=
 (((acc+(h%(m:Int)).toNat*p2)%m*2 ^ 31)%m+(acc+(h%(m:Int)).toNat*p2)%m/2 ^ 33)*p1%m
def A2 (m n acc:Nat)(p5:Nat):Int :=
 if ((acc+(n ^^^ (p5 ^^^ 3527539)))%m == m-1)=true then 1546275796 else if (acc+(n ^^^ (p5 ^^^ 3527539)))%m<2 ^ 63 then (((acc+(n ^^^ (p5 ^^^ 3527539)))%m:Nat):Int) else (((acc+(n ^^^ (p5 ^^^ 3527539)))%m:Nat):Int)-(m:Int)
def DK (m p1 p2 p5:Nat)(hs:List Int):Int:=A2 m hs.length (hs.foldl (Ay m p1 p2) p5) p5
theorem Cn (m p1 p2 p5:Nat)(x y:Int):DK m p1 p2 p5 [x,y]=A2 m 2 (Ay m p1 p2 (Ay m p1 p2 p5 x) y) p5:=by
 unfold DK;rw[KF,KF,List.foldl_nil,Jc,Jc,List.length_nil]
theorem DL (hs:List Int):Builtin.Tuple.tupleHashOf hs=DK (2 ^ 64) 11400714785074694791 14029467366897019727 2870177450012600261 hs:=by
 delta Builtin.Tuple.tupleHashOf DK A2 Ay
 rfl
theorem Cb {acc a:Nat}(h:a<18446744073709551616):Ay 18446744073709551616 11400714785074694791 14029467366897019727 acc (a:Int)=rQ acc a:=by
 unfold Ay rQ kz;rw[Ii h]
theorem Ez (r:Nat):A2 18446744073709551616 2 r 2870177450012600261=nY r:=by
 have h1:2 ^^^ (2870177450012600261 ^^^ 3527539)=2870177450013471924:=by decide
 unfold A2 nY;rw[h1]
theorem Ba {a b:Nat}(ha:a<18446744073709551616)(hb:b<18446744073709551616):Builtin.Tuple.tupleHashOf [(a:Int),(b:Int)]=nY (rQ (rQ 2870177450012600261 a) b):=by
 have hm:(2:Nat) ^ 64=18446744073709551616:=by decide
 rw[DL,hm,Cn,Cb ha,Cb hb,Ez]
theorem Ce {x y:Nat}:rQ x y<18446744073709551616:=by unfold rQ;exact Nat.mod_lt _ (by decide)
def xf (N0 n:Nat):Prop:=N0<=n/\n<N0+2147483648
theorem xf.dif {N0 m n:Nat}(h1:xf N0 m)(h2:xf N0 n) : -2147483648<(n:Int)-m/\(n:Int)-m<2147483648:=by
 obtain⟨a,b⟩:=h1;obtain⟨c,d⟩:=h2;omega
theorem xf.lt {N0 n:Nat}(hN:N0=0\/N0=997852516353)(h:xf N0 n):n<18446744073709551616:=by
 obtain⟨a,b⟩:=h;omega
theorem xf.two {N0 a b:Nat}(hN:N0=0\/N0=997852516353)(h1:xf N0 a)(h2:xf N0 b):(a<2147483648/\b<2147483648)\/(997852516353<=a/\a<1000000000001/\997852516353<=b/\b<1000000000001):=by
 obtain⟨a1,b1⟩:=h1;obtain⟨c1,d1⟩:=h2;omega
theorem Am {N0 a b c d:Nat}(hN:N0=0\/N0=997852516353)(ha:xf N0 a)(hb:xf N0 b)(hc:xf N0 c)(hd:xf N0 d)(e:Builtin.Tuple.tupleHashOf [(a:Int),(b:Int)]=Builtin.Tuple.tupleHashOf [(c:Int),(d:Int)]) :
  (c=a/\d=b)\/((c:Int)-a=1082452398/\(d:Int)-b = -1755844984)\/((c:Int)-a = -1082452398/\(d:Int)-b=1755844984):=by
 rw[Ba (ha.lt hN) (hb.lt hN),Ba (hc.lt hN) (hd.lt hN)]at e;exact BA (CW Ce Ce (y1 (ha.two hN hb)) (y1 (hc.two hN hd)) e) (ha.dif hc) (hb.dif hd)
theorem At:∀ i:Nat,i<123->∀ j:Nat,j<123->(i=61/\j=61)\/(((i:Int)-61)*1755844984+((j:Int)-61)*1082452398)%2147483647≠0:=by decide +kernel
theorem Gk {i j:Nat}(hi:i<123)(hj:j<123){e k:Int}(ee:e=(i:Int)-61)(ek:k=(j:Int)-61)(h:(e*1755844984+k*1082452398)%2147483647=0):i=61/\j=61:=by
 subst ee ek;exact (At i hi j hj).resolve_right fun z=>z h
end Wz
namespace L2
open PySem PySem.Spec PyProof.Rows
def jA (ks:List (List bV)):Prop:=∀ (P:Program)(w:World),∀ a∈ks,∀ b∈ks,tupleKeyHash (aB P w) a=tupleKeyHash (aB P w) b->a=b
theorem wt {α:Type}{f:α->Int}:∀ {ks:List α},ks.Nodup->(∀ a∈ks,∀ b∈ks,f a=f b->a=b)->∀ n,(ks.filter fun b=>f b == n).length<=1
 | [],_,_,n=>by simp
 | k::ks,nd,hf,n=>by
  rw[I0]at nd;have ih:=wt nd.2 (fun a ha b hb=>hf a (Iz _ ha) b (Iz _ hb)) n;rw[List.filter_cons];split
  ·rename_i z
   have e:(ks.filter fun b=>f b == n)=[]:=List.filter_eq_nil_iff.mpr fun b hb q=>by
    have:=hf k IJ b (Iz _ hb) (by rw[eq_of_beq z,eq_of_beq q]);exact nd.1 (this▸hb)
   rw[e];exact Iv _
  ·exact ih
section
variable {P:Program}{w:World}{A:Around}{E:Value->Shared->Prop}{s:Shared}
theorem ul {id:String}{d:Addr}{o:Obj}{es:Array DictEntry}{ep:Nat}{xs:List (List bV×Addr×Value)}{Q:Array DictEntry->Shared->Prop}
  (ho:s.heap.get? d=some o) (hd:o.data=.dict es ep) (he:es.toList=xs.map (entryOfKey (tupleKind (aB P w)))) (hk:∀ x∈xs,(tupleKind (aB P w)).is s.heap x.1 x.2.1) (nd:(xs.map (·.1)).Nodup)
  (hf:jA (xs.map (·.1))) (h:Q es s):wpAny (model P w) A (Builtin.Dict.entriesForEmpty id d) Q E s:=by
 unfold Builtin.Dict.entriesForEmpty;refine Io (J3 ho hd (Io ?_));rw[<-Array.forIn_toList];refine wpAny_forIn_list _ (fun rest _ s'=>s'=s/\∀ e∈rest,e∈es.toList) _ ?_ ?_ _ _ ⟨rfl,fun e h=>h⟩
 ·rintro e rest b s' ⟨rfl,hr⟩
  have he1:e∈xs.map (entryOfKey (tupleKind (aB P w))):=he▸hr e IJ;obtain⟨x,hx,rfl⟩:=Je.mp he1;refine Io ?_
  show wpAny _ _ (specialOf (.ref x.2.1) "__eq__" >>= _) _ _ _
  refine Io (wpAny_specialOf (IsTupleKey.typeIs (hk x hx)) F.slot_tuple_eq.lookup (Iu ?_))
  have z:((some (Value.builtin "tuple.__eq__") == some (Value.builtin "object.__eq__")):Bool)=false:=by decide
  rw[z]
  have one:¬ (es.filter (·.hash == (entryOfKey (tupleKind (aB P w)) x).hash)).size>1:=by
   have:=wt (f:=tupleKeyHash (aB P w)) nd (hf P w) (tupleKeyHash (aB P w) x.1);rw[<-IU,Array.toList_filter,he,List.filter_map,Ir];rw[List.filter_map,Ir]at this;exact Nat.not_lt.mpr this
  simp only[Bool.not_false,Kx];rw[Ip one];exact Iu ⟨rfl,fun e he=>hr e (Iz _ he)⟩
 ·rintro b s' ⟨rfl,_⟩
  exact Iu h
theorem zK {o:Addr}{xs:List (List bV×Addr×Value)}{Q:Value->Shared->Prop}(hoS:(o == sysModules)=false)(ho:s.heap.DictOfH (tupleKind (aB P w)) o xs)(hsz:xs.length<=sizeLine)(hf:jA (xs.map (·.1)))
  (h:∀ h' ob es ep,h'.get? s.heap.objs.size=some ob->ob.ExactDict->ob.data=.dict es ep->es.toList=xs.map (entryOfKey (tupleKind (aB P w)))->(∀ b x,s.heap.get? b=some x->h'.get? b=some x)->Q (.ref s.heap.objs.size) { s with heap:=h' }) :
  wpAny (model P w) A (call (.type "dict") [.ref o]) Q E s:=by
 refine callType_codes (Q₁:=fun obj s₁=>obj=.ref s.heap.objs.size/\s₁={ s with heap:=s.heap.push { cls:=.type "dict",data:=.dict #[] } }) F.kt_called_dict (F.kt_typeCall_dict_1 _) F.entry_dict_init (kt_code_dict_new _ ⟨rfl,rfl⟩) ?_;rintro obj s₁ ⟨rfl,rfl⟩;obtain⟨oo,es,ep,e1,e2,e3,e4,e5,e6⟩:=id ho;have lt:=IA e1;have ne:s.heap.objs.size≠o:=Nat.ne_of_gt lt;have p1:=Heap.get?_push_of_some { cls:=.type "dict",data:=.dict #[] } e1;have new:(s.heap.push { cls:=.type "dict",data:=.dict #[] }).get? s.heap.objs.size=some { cls:=.type "dict",data:=.dict #[] }:=Heap.get?_push_size _ rfl;have tD:Shared.TypeIs { s with heap:=s.heap.push { cls:=.type "dict",data:=.dict #[] } } (.ref s.heap.objs.size) "dict":=⟨_,new,rfl⟩;have tO:Shared.TypeIs { s with heap:=s.heap.push { cls:=.type "dict",data:=.dict #[] } } (.ref o) "dict":=⟨_,p1,e2.1⟩
 have pk:∀ x∈xs,(tupleKind (aB P w)).is (s.heap.push { cls:=.type "dict",data:=.dict #[] }) x.1 x.2.1:=fun x hx=>by
  obtain⟨q,it,n,q1,q2,q3,q4⟩:=e5 x hx;exact⟨q,it,n,Heap.get?_push_of_some _ q1,q2,q3,q4⟩
 have len:es.size=xs.length:=by rw[<-IU,e4,Ir]
 refine⟨tD,F.args_dict_init_2 _ _,?_⟩;unfold Builtin.«dict.__init__» Builtin.Dict.selfAndRest;refine Io (Io (wpAny_notOrdered_dict tD ?_))
 show wpAny _ _ (pure (s.heap.objs.size,[Value.ref o])) _ _ _
 refine Iu ?_
 show wpAny _ _ (Builtin.Dict.updateFrom "dict.__init__" s.heap.objs.size (.ref o) [] .none) _ _ _
 unfold Builtin.Dict.updateFrom Builtin.Dict.merge Builtin.Dict.readDirectly;refine Io (wpAny_typeOf tO ?_);rw[Ip (by decide)];refine Io (Io (Io (wpAny_isInstance tO isSubtype_dict_dict ?_)));simp only[Bool.not_true,JF,J5];refine Io (wpAny_specialOf tO F.slot_dict_iter.lookup (Iu ?_));simp only[Kq,Kx];refine Io (Iu ?_);unfold Builtin.Dict.mergeDict Builtin.Dict.showsAll;rw[Ip (by simpa using ne),Ip (by rw[hoS];exact Iw)];refine Io (Iu (Io (J3 p1 e3 ?_)));dsimp only
 have ex:es = #[]\/((decide (es.size<=8)&&es.all fun e=>(keyPart e.key).isSome)=false/\es.isEmpty=false):=by
  cases xs with
  | nil=>exact .inl (Array.toList_inj.mp (by rw[e4];rfl))
  | cons x xs =>
   right
   have h0:es.toList=entryOfKey (tupleKind (aB P w)) x::xs.map (entryOfKey (tupleKind (aB P w))):=by rw[e4];rfl
   obtain⟨l⟩:=es;have h1:l=entryOfKey (tupleKind (aB P w)) x::xs.map (entryOfKey (tupleKind (aB P w))):=h0;subst h1;refine⟨?_,rfl⟩;rw[List.all_toArray,List.all_cons]
   show (_&&(false&&_))=false
   rw[Bool.false_and,Bool.and_false]
 rcases ex with ex | ⟨ex,ex2⟩
 ·subst ex
  rw[Ip (by simp)];refine Io (wpAny_dictEpoch p1 e3 (Io (J3 p1 e3 (Io ?_))));rw[Std.Legacy.Range.forIn_eq_forIn_range'];refine Iu (Iu (Io (Iu (Iu ⟨rfl,h _ _ #[] 0 new ⟨rfl,rfl,rfl⟩ rfl e4 fun b x e=>Heap.get?_push_of_some _ e⟩))))
 ·rw[ex,Iq (by decide)]
  refine Io (J3 new rfl ?_);rw[Iq (by decide)];refine Io (ul p1 e3 e4 pk e6 hf ?_);rw[Iq (by rw[ex2];decide)];refine Io (wpAny_updateDictKeysTo new rfl (Iu ?_) (by omega));refine Io (Iu (Iu ⟨rfl,h _ _ es 1 (Heap.get?_update_self _ new (Obj.isFreed_of_dict (Obj.data_mapDictKeys rfl _))) (Obj.ExactDict.mapDictKeys ⟨rfl,rfl,rfl⟩ _) (Obj.data_mapDictKeys rfl _) e4 fun b x e=>?_⟩));exact (Heap.SameBut.update _ _ _).2 b (IC (IA e)) |>.trans (Heap.get?_push_of_some _ e)
end
theorem xr {X:Cx}:kA X (.type "dict") (fun xs H Q=>∃ p kvs,xs=[.ref p]/\H p=some (.dT kvs)/\jA (kvs.map (·.1))/\∀ l,H l=none->Q (.ref l) (upd H l (.dT kvs))):=by
 intro pins s σ H xs us Q I r h;obtain⟨p,kvs,rfl,hp,hf,q⟩:=h;obtain⟨u,rfl,rx⟩:=kW r;cases rx;obtain⟨hz,hS,vs,rv,m⟩:=DV I.hok hp;have hlen:kvs.length=vs.length:=Ix rv
 have hk:kvs.map (·.1)=vs.map (·.1):=by
  clear hz hp hf q m hlen
  induction rv with
  | nil=>rfl
  | cons h t ih=>rw[IT,IT,ih,h.1]
 have nd:(vs.map (·.1)).Nodup:=let ⟨_,_,_,_,_,_,_,_,n⟩:=m;n;rw[hk]at hf;refine zK hS m (by omega) hf fun h' ob es ep a1 a2 a3 a4 a5=>?_;have e0:bo X.prog X.w (upd H s.heap.objs.size (.dK [])) _ s.heap.objs.size (.dK []):=lY s.heap I.big;have e1:(s.heap.objs.size == sysModules)=false:=e0.2.1;have fr:=I.hok.fresh (Iv s.heap.objs.size);refine⟨.ref s.heap.objs.size,_,I.laid (t':=s.toks) a5 (Iv _) (show bo X.prog X.w _ h' _ (.dT kvs) from ⟨hz,e1,vs,Paired.mapP rv fun x y z=>⟨z.1,?_,z.2.2⟩,ob,es,ep,a1,a2,a3,a4,nd⟩),rfl,q _ fr⟩;rw[ag (ak z.2.1 fr)];exact z.2.1
end L2
namespace Wz
open PySem L2
theorem CY (r:Nat):reduceHash (nY r)=nY r:=by
 have b : -9223372036854775808<=nY r/\nY r<9223372036854775808/\nY r≠-1:=by
  unfold nY;have lt:(r+2870177450013471924)%18446744073709551616<18446744073709551616:=Nat.mod_lt _ (by decide);generalize (r+2870177450013471924)%18446744073709551616=x at lt
  by_cases e:(x == 18446744073709551615)=true
  ·rw[Iq e];decide
  ·rw[Ip e]
   have ne:x≠18446744073709551615:=fun z=>e (by rw[z];rfl);split<;>omega
 generalize nY r=x at b;obtain⟨b1,b2,b3⟩:=b
 have q:(decide (-(2 ^ 63:Int)<=x)&&decide (x<2 ^ 63))=true:=by
  rw[Ko,decide_eq_true_eq,decide_eq_true_eq];omega
 have q2:¬ (x == -1)=true:=fun z=>b3 (eq_of_beq z);unfold reduceHash;rw[Iq q,Ip q2]
theorem vJ {a:Nat}(h:a<2305843009213693951):hashInt (a:Int)=a:=by
 have r:rawHash (a:Int)=a:=by
  unfold rawHash;dsimp only;rw[Int.natAbs_natCast];have e:(a:Int)%((2 ^ 61-1:Nat):Int)=a:=Int.emod_eq_of_lt (by omega) (by omega)
  have n:¬ ((a:Int)<0):=by omega
  rw[e,Ip n]
  exact Ip fun z=>by have:=eq_of_beq z;omega
 unfold hashInt;rw[r]
 exact Ip fun z=>by have:=eq_of_beq z;omega
def n0 (c:Int):Nat:=if dw c%5=4 then 997852516353 else 0
theorem Gb (c:Int):n0 c=0\/n0 c=997852516353:=by unfold n0;split<;>simp
theorem pX (k c:Int):∃ n:Nat,gM k c=(n:Int)/\xf (n0 c) n/\∃ x:Int,(n:Int)=(n0 c:Int)+(k*(1+dw c*1234567891%2147483646)+dw c/2147483646)+2147483647*x:=by
 have h0:=JB (k*(1+dw c*1234567891%2147483646)+dw c/2147483646) (show (2147483647:Int)≠0 by decide);have h1:=Js (k*(1+dw c*1234567891%2147483646)+dw c/2147483646) (show (0:Int)<2147483647 by decide);have h2:=Int.mul_ediv_add_emod (k*(1+dw c*1234567891%2147483646)+dw c/2147483646) 2147483647;unfold gM n0 xf;dsimp only;generalize k*(1+dw c*1234567891%2147483646)+dw c/2147483646=y at *;refine⟨(if dw c%5=4 then y%2147483647+997852516353 else y%2147483647).toNat,?_,?_,-(y/2147483647),?_⟩<;>split<;>omega
theorem FX {d1 d2 e f t x y:Int}(h1:d1=e*t+2147483647*x)(h2:d2=f*t+2147483647*y):f*d1-e*d2=2147483647*(f*x-e*y):=by
 rw[h1,h2,Int.mul_add,Int.mul_add,Int.mul_sub,Int.mul_left_comm f e t,Int.mul_left_comm f 2147483647 x,Int.mul_left_comm e 2147483647 y];omega
theorem wE {i j k l s:Int}(hi:0<=i/\i<62)(hj:0<=j/\j<62)(hk:0<=k/\k<62)(hl:0<=l/\l<62)(hs:(k-i)*1755844984+(l-j)*1082452398=2147483647*s):k=i/\l=j:=by
 have b1:(k-i+61).toNat<123:=by clear hs;omega
 have b2:(l-j+61).toNat<123:=by clear hs;omega
 have b3:k-i=((k-i+61).toNat:Int)-61:=by clear hs;omega
 have b4:l-j=((l-j+61).toNat:Int)-61:=by clear hs;omega
 obtain⟨z1,z2⟩:=Gk b1 b2 b3 b4 (by rw[hs];exact Int.mul_emod_right _ _);clear hs;omega
theorem G2 (e f:Int):e*1755844984+f*1082452398=f*1082452398-e * -1755844984:=by omega
theorem FZ (e f:Int):e*1755844984+f*1082452398 = -(f * -1082452398-e*1755844984):=by omega
theorem A9 {i j k l c:Int}(hi:0<=i/\i<62)(hj:0<=j/\j<62)(hk:0<=k/\k<62)(hl:0<=l/\l<62)(P:Program)(w:World)
  (h:tupleKeyHash (aB P w) [Sum.inl (gM i c),Sum.inl (gM j c)]=tupleKeyHash (aB P w) [Sum.inl (gM k c),Sum.inl (gM l c)]):gM i c=gM k c/\gM j c=gM l c:=by
 obtain⟨a,ea,ba,xa,qa⟩:=pX i c;obtain⟨b,eb,bb,xb,qb⟩:=pX j c;obtain⟨m,em,bm,xm,qm⟩:=pX k c;obtain⟨n,en,bn,xn,qn⟩:=pX l c;have hN:=Gb c
 have sm:∀ z:Nat,xf (n0 c) z->z<2305843009213693951:=fun z hz=>by obtain⟨z1,z2⟩:=hz;omega
 rw[ea,eb,em,en]at h ⊢
 have hh:∀ u v:Nat,u<2305843009213693951->v<2305843009213693951->tupleKeyHash (aB P w) [Sum.inl (u:Int),Sum.inl (v:Int)]=Builtin.Tuple.tupleHashOf [(u:Int),(v:Int)]:=fun u v hu hv=>by
  unfold tupleKeyHash
  show reduceHash (Builtin.Tuple.tupleHashOf [hashInt (u:Int),hashInt (v:Int)])=_
  rw[vJ hu,vJ hv,Ba (by omega) (by omega),CY]
 rw[hh _ _ (sm _ ba) (sm _ bb),hh _ _ (sm _ bm) (sm _ bn)]at h;generalize 1+dw c*1234567891%2147483646=t at *
 have d1:(m:Int)-a=(k-i)*t+2147483647*(xm-xa):=by rw[qm,qa,Int.sub_mul];omega
 have d2:(n:Int)-b=(l-j)*t+2147483647*(xn-xb):=by rw[qn,qb,Int.sub_mul];omega
 have cr:=FX d1 d2;clear qa qb qm qn;rcases Am hN ba bb bm bn h with ⟨z1,z2⟩ | ⟨z1,z2⟩ | ⟨z1,z2⟩
 ·rw[z1,z2];exact⟨rfl,rfl⟩
 ·exfalso
  rw[z1,z2]at cr;rw[z1]at d1;have:=wE hi hj hk hl ((G2 _ _).trans cr);rw[this.1,Int.sub_self,Int.zero_mul,Int.zero_add]at d1;clear cr d2 h z1 z2;omega
 ·exfalso
  rw[z1,z2]at cr;rw[z1]at d1;have:=wE hi hj hk hl ((FZ _ _).trans (by rw[cr,<-Int.mul_neg]));rw[this.1,Int.sub_self,Int.zero_mul,Int.zero_add]at d1;clear cr d2 h z1 z2;omega
theorem C0 {c:Int}{ml:List (Int×Int)}(h:∀ p∈ml,p.1∈aZ 62 c/\p.2∈aZ 62 c):jA ((js ml).map (·.1)):=by
 intro P w a ha b hb e
 have g:∀ a∈(js ml).map (·.1),∃ i j:Int,(0<=i/\i<62)/\(0<=j/\j<62)/\a=[Sum.inl (gM i c),Sum.inl (gM j c)]:=fun a ha=>by
  unfold js at ha;rw[Jx]at ha;obtain⟨p,hp,rfl⟩:=Je.mp ha;obtain⟨q1,q2⟩:=h p hp;obtain⟨i,hi,e1⟩:=lu q1;obtain⟨j,hj,e2⟩:=lu q2;exact⟨i,j,hi,hj,by show [Sum.inl p.1,Sum.inl p.2]=_;rw[e1,e2]⟩
 obtain⟨i,j,hi,hj,rfl⟩:=g a ha;obtain⟨k,l,hk,hl,rfl⟩:=g b hb;obtain⟨z1,z2⟩:=A9 hi hj hk hl P w e;rw[z1,z2]
theorem Bq {L:List Int}{st:bO}{ml:List (Int×Int)}(h:yw L st)(al:lM st ml)(ok:t7 ml):∀ p∈ml,p.1∈L/\p.2∈L:=by
 intro p hp;obtain⟨a,b⟩:=p;have lt:a<b:=ok.lo _ hp
 have hb:b∈iL st.circ a:=by
  have:=al a b;unfold iZ ou cZ at this;rw[Ip (by omega),IG hp]at this;exact JK this
 have ha:a∈st.circ.map (·.1):=(nN h.kl).2.2 b hb;obtain⟨x,hx,rfl⟩:=Je.mp ha;exact⟨(h.kl x hx).1,(nN h.kl).2.1 b hb⟩
theorem EZ {X:Cx}{k:Nat}{C:Addr}{ps:List Str}{sp:Sp}{E:St->XK}{m:Str}{pos apos:Pos}{e o:Expr}{es:List Expr}{ta:TE}{t:TA}{pl:Sem Bool}(M:ar X.prog X.w X.K X.mg X.base (fb X.prog X.w) C m k ps sp)(ho:PE X o ta)(c:yx X.K C)(hr:cu k X.A)(hx:∀ σ,vp (fb X.prog X.w) X σ (E σ))(ha:PA X (e::es) t)
  (hst:starEach (e::es) X.env=(false,eval e X.env)::starEach es X.env:=by rfl) (hpl:(backTo pos (starEach es X.env)).any (·.1)=false:=by rfl)
  (ht:eval (.Call (.Attribute o m apos) (e::es) [] pos) X.env=(do
   let ov <-eval o X.env
   standAt apos.atName
   let (f,first) <-holding [ov] (getMethod ov m pl)
   callWith pos f first (backTo pos (starEach (e::es) X.env)) (backToKw pos (keywordEach [] X.env))):=by rfl) :
  PE X (.Call (.Attribute o m apos) (e::es) [] pos) (fun σ H Q=>wV C m sp [] (E σ) ta t σ H Q):=by
 obtain⟨f,fd,F,hm,hb⟩:=M;intro pins s σ H Q I h;refine PySem.W.methodCall_KW (pl:=pl) (bx (ho pins s σ H _ I h) fun u s1 ⟨x,H1,I1,rx,a,dx,fs,ex,ea,l,q⟩=>?_) ht;subst ex;obtain rfl:u=Value.ref a:=rx;refine ll I1 ea c hm l ?_;refine KA (first:=[.ref a]) (h₀:=X.base) I.ok.mod.kin hm.kp (bx (ha pos pins s1 σ H1 _ I1 q) fun us s2 ⟨vs,H2,I2,r,q2⟩=>⟨I2.kIn,?_⟩) hst hpl;have r2:bh ((.ref a::vs)++[]) ((.ref a::us)++[]):=bh.append (show bh (V.ref a::vs) (Value.ref a::us) from .cons rfl r) .nil
 have hl:((.ref a::us)++[]:List Value).length=ps.length:=by rw[<-r2.length];exact F.len _ _ _ _ q2
 refine Ka (JH (F.run X.A X.stack s2 H2 ⟨.ref a::us,[]⟩ ((.ref a::us)++[]) ((.ref a::vs)++[]) Q (E σ) hr I2.env0 (hb s2 (.ref a::us) I2.kIn hl) r2 q2) fun r s' hq=>?_)
 cases r with
 | error e=>exact hx σ pins H2 s2 e s' I2 hq
 | ok fl =>
  cases fl with
  | ret u=>exact I2.after hq
  | next=>exact False.elim hq
  | brk=>exact False.elim hq
  | cont=>exact False.elim hq
def GA (tb:(St->XK)->TS)(th:Value->Option Addr->TS):TS:=fun D σ H=>tb (fun σ' cls od H2=>th cls od D σ' H2) D σ H
theorem Dy {X:Cx}{b0:Stmt}{bs:List Stmt}{hd0:ExceptHandler}{hdl:List ExceptHandler}{tb:(St->XK)->TS}{th:Value->Option Addr->TS}{pos:Pos}
  (hst:X.stack=X.env::X.outer) (hfr:X.env.frame=some X.env.locals) (hb:∀ pins E,vk (X.tried pins (GX X pins E)) (b0::bs) (tb E)) (hh:CF X (hd0::hdl) th) :
  PS X (.Try (b0::bs) (hd0::hdl) [] [] pos) (GA tb th):=Dx hst hfr hb hh
structure Ht (K:PySem.W.Frag)(c:HX):Prop where
 sn:PySem.W.exmOne K (.ref c.cS) (.ref c.cN)=some false
 tn:PySem.W.exmOne K (.ref c.cT) (.ref c.cN)=some false
def DM:rY->Option Str
 | .done=>none
 | .noguest _=>some "nobody"
 | .same=>some "same"
 | _=>some "met"
def wW:Nat->bO->List (Int×Int)->Option (Nat×Str)
 | _,_,[]=>none
 | i,st,p::ps=>match DM (aK st (b9 p)) with
  | none=>wW (i+1) (a7 st (b9 p)) ps
  | some w=>some (i,w)
theorem AC {o:rY}(h:DM o=none):o=.done:=by cases o<;>first | rfl | cases h
theorem zP {st:bO}{a b:Int}(hj:aK st (.exch a b)=.done)(g:Int):(look (a7 st (.exch a b)).worn g).isSome=(look st.worn g).isSome:=by
 unfold a7;rw[Iq hj]
 show (look (put (put st.worn a (wr st.worn b)) b (wr st.worn a)) g).isSome=_
 cases e1:look st.worn a with
 | none=>simp only[aK,e1]at hj;cases hj
 | some x =>
  cases e2:look st.worn b with
  | none=>simp only[aK,e1,e2]at hj;cases hj
  | some y =>
   rw[bR,bR]
   by_cases z:g=b
   ·rw[Iq z,z,e2];rfl
   ·rw[Ip z]
    by_cases z2:g=a
    ·rw[Iq z2,z2,e1];rfl
    ·rw[Ip z2]
theorem AB {i:Nat}{st:bO}{ps:List (Int×Int)}{p:Int×Int}(h:ps[i]? = some p):wW i st (ps.drop i)=match DM (aK st (b9 p)) with | none=>wW (i+1) (a7 st (b9 p)) (ps.drop (i+1)) | some w=>some (i,w):=by
 obtain⟨hl,e⟩:=List.getElem?_eq_some_iff.mp h;rw[JW hl,e];rfl
def Ep (c d:Int):Int×Int:=(gM (d%14) c,gM (d/14%14) c)
def HI (H:Hp)(Q:VK):Option (Nat×Str)->Prop
 | none=>∀ H',aA H H'->Q .non H'
 | some x=>∀ (r:Addr)(H':Hp),H r=none->aA H H'->H' r=some (.tup [.int (x.1:Nat),.str x.2])->Q (.ref r) H'
inductive ki (c:HX) (vs:List V) (H:Hp) (Q:VK) (E_:XK):Prop
 | mk (p l:Addr) (A:HA) (st:bO) (ps:List (Int×Int)) (L:List Int) (n:Nat) (h_0:vs=[.ref p,.ref l]) (h_1:az c.C H p A st) (h_2:d8 st) (h_3:Of L st) (h_4:Sz n st) (h_5:(st.circ.map (·.1)).Nodup) (h_6:aT H l ps) (h_7:L.length<=100) (h_8:n+ps.length<=300) (h_9:(∀ p∈ps,(p.1∈L/\bK p.1)/\p.2∈L/\bK p.2)) (h_10:HI H Q (wW 0 st ps)):ki c vs H Q E_
inductive m7 (vs:List V) (H:Hp) (Q:VK) (E_:XK):Prop
 | mk (l:Addr) (ds:List Int) (c:Int) (h_0:vs=[.ref l,.int c]) (h_1:H l=some (.lst (ds.map V.int))) (h_2:(∀ d∈ds,0<=d)) (h_3:ds.length<=100) (h_4:∀ (l':Addr)(H':Hp),H l'=none->aA H H'->aT H' l' (ds.map (Ep c))->Q (.ref l') H'):m7 vs H Q E_
inductive vc (vs:List V) (H:Hp) (Q:VK) (E_:XK):Prop
 | mk (l w m:Addr) (W ml ps:List (Int×Int)) (h_0:vs=[.ref l,.ref w,.ref m]) (h_1:aT H l ps) (h_2:H w=some (.dK (dk W))) (h_3:H m=some (.dT (js ml))) (h_4:ps.length<=100) (h_5:∀ (l':Addr)(H':Hp)(qs:List (Int×Int)),H l'=none->aA H H'->aT H' l' qs->(∀ p∈qs,p∈ps)->qs.length<=ps.length->Q (.ref l') H'):vc vs H Q E_
def Gs (c:Int)(p:Int×Int):Prop:=∃ i j:Int,(0<=i/\i<14)/\(0<=j/\j<14)/\p=(gM i c,gM j c)
inductive m8 (K:PySem.W.Frag) (vs:List V) (H:Hp) (Q:VK) (E_:XK):Prop
 | mk (a w m:Addr) (ns:List Int) (k:Nat) (W ml:List (Int×Int)) (h_0:vs=[.ref a,.int (k:Nat),.ref w,.ref m]) (h_1:bF K H a (ns.map V.int)) (h_2:k<60) (h_3:H w=some (.dK (dk W))) (h_4:H m=some (.dT (js ml))) (h_5:∀ (l':Addr)(H':Hp)(ps:List (Int×Int)),H l'=none->aA H H'->aT H' l' ps->(∀ p∈ps,Gs (cY ns 1) p)->ps.length<=100->Q (.ref l') H'):m8 K vs H Q E_
theorem mX {G:Hp}{x y:Addr}{qs ws:List (Int×Int)}{Q':VK}(hx:aT G x qs)(hy:aT G y ws)(hl:qs.length+ws.length<=1000)(k:∀ (p:Addr)(G':Hp),G p=none->aA G G'->aT G' p (qs++ws)->Q' (.ref p) G'):DA (.ref x) (.ref y) G Q':=by
 obtain⟨as,h1,p1⟩:=hx;obtain⟨bs,h2,p2⟩:=hy;have l1:=Ix p1;have l2:=Ix p2;refine⟨x,y,_,_,rfl,rfl,h1,h2,by rw[Ir,Ir];exact Kn (aW (by omega)),fun p hp=>k p _ hp (ai hp) ⟨as++bs,by rw[af,Ja],?_⟩⟩;exact bC (Paired.mapP p1 fun b e z=>(ai hp) _ _ z) (Paired.mapP p2 fun b e z=>(ai hp) _ _ z)
theorem lA {α β:Type}{R:α->β->Prop}:∀ {l:List α}{m:List β},Paired R l m->∀ (i j:Nat),∃ n,Paired R ((l.drop i).take j) n/\n=(m.drop i).take j
 | _,_,.nil,i,j=>⟨[],by simp;exact .nil,by simp⟩
 | _,_,.cons h t,0,0=>⟨[],by simp;exact .nil,by simp⟩
 | _,_,.cons h t,0,j+1=>by
  obtain⟨n,h1,h2⟩:=lA t 0 j;exact⟨_::n,by simpa using Paired.cons h h1,by simp[h2]⟩
 | _,_,.cons h t,i+1,j=>by
  obtain⟨n,h1,h2⟩:=lA t i j;exact⟨n,by simpa using h1,by simpa using h2⟩
theorem p7 {K:PySem.W.Frag}{G:Hp}{x:Addr}{qs:List (Int×Int)}{lo hi:Option Int}{Q':VK}(hx:aT G x qs)(k:∀ (p:Addr)(G':Hp)(rs:List (Int×Int)),G p=none->aA G G'->aT G' p rs->(∀ z∈rs,z∈qs)->rs.length<=qs.length->Q' (.ref p) G'):Fg K (.ref x) lo hi G Q':=by
 obtain⟨as,h1,p1⟩:=hx;refine⟨x,_,rfl,bF.of h1,fun p hp=>?_⟩;unfold kr;rw[<-List.map_drop,<-Kg];obtain⟨n,q1,q2⟩:=lA p1 (HT.sIx (as.map V.ref).length 0 lo) (HT.sIx (as.map V.ref).length (as.map V.ref).length hi-HT.sIx (as.map V.ref).length 0 lo);refine k p _ n hp (ai hp) ⟨_,af,Paired.mapP q1 fun b e z=>(ai hp) _ _ z⟩ (fun z hz=>?_) ?_
 ·rw[q2]at hz
  exact List.mem_of_mem_drop (List.mem_of_mem_take hz)
 ·rw[q2,Jn,List.length_drop];omega
theorem wM {P:Addr->Hp->Prop}{G:Prop}{Hx:Hp}{pr:Int×Int->Prop}{n:Nat}(main:(∀ (q:Addr)(HH:Hp)(rs:List (Int×Int)),Hx q=none->aA Hx HH->aT HH q rs->(∀ p∈rs,pr p)->rs.length<=n->P q HH)->G)(key:∀ (q:Addr)(HH:Hp)(rs:List (Int×Int)),Hx q=none->aA Hx HH->aT HH q rs->(∀ p∈rs,pr p)->rs.length<=n->P q HH):G:=main key
def Mu (H:Hp)(b:Addr):Prop:=(∃ k,H b=some (.dK k))\/(∃ k,H b=some (.dT k))\/∃ l,H b=some (.lst l)
theorem az.mu {C:Addr}{H:Hp}{p:Addr}{A:HA}{st:bO}(x:az C H p A st):∀ b∈A.fp,Mu H b:=by
 intro b hb;simp only[HA.fp,IE]at hb;rcases hb with rfl | rfl | rfl | rfl | hb
 ·exact .inl ⟨_,x.w⟩
 ·exact .inl ⟨_,x.h⟩
 ·exact .inl ⟨_,x.c⟩
 ·obtain⟨as,h,_⟩:=x.d
  exact .inr (.inr ⟨_,h⟩)
 ·obtain⟨i,hi,rfl⟩:=Kt hb
  obtain⟨y,_,q⟩:=paired_get x.cs (List.getElem?_eq_getElem hi);exact .inl ⟨_,q⟩
end Wz
namespace L2
open PySem PySem.Spec PyProof.Rows
open AutoSeq1 (wpAny_loadPart')
theorem CU (a v:Value):checkTypeCall "enumerate" ⟨[a],[("start",v)]⟩=pure ():=by kernel_rfl
theorem Ex (a v:Value):checkBuiltinCall "enumerate.__new__" ⟨[.type "enumerate",a],[("start",v)]⟩=pure ():=by kernel_rfl
theorem CT (o a v:Value):argsOk "object.__init__" ⟨[o,a],[("start",v)]⟩:=by unfold argsOk;kernel_rfl
theorem A1 (l:Addr)(items:Array Value)(n:Nat)(dct:Option Addr)(sl:Array (Option Value))(t:Tok) :
  Meets (Builtin.«enumerate.__new__» ⟨[.type "enumerate",.ref l],[("start",.int 1 t)]⟩) (fun _ R s=>s.heap.get? l=some { cls:=.type "list",dict:=dct,data:=.seq items n,slots:=sl } /\
   R (.ok (.ret (.ref (s.heap.push { cls:=.type "list_iterator",data:=.fields #[.ref l,.int 0 0] }).objs.size)))
    { s with heap:=(s.heap.push { cls:=.type "list_iterator",data:=.fields #[.ref l,.int 0 0] }).push { cls:=.type "enumerate",data:=.fields #[.none,.bool false,.ref s.heap.objs.size,rawInt 1,.none,.none] } }) :=
 .of_wp fun prog w A R s h=>by
  obtain⟨hp,g,d,tk,os⟩:=s;obtain⟨hl,h⟩:=h;have hsub:=sub_enumerate;have hL:Heap.IsList (Shared.heap ⟨hp,g,d,tk,os⟩) l items:=⟨_,hl,rfl,n,rfl⟩
  wp_walk using wpAny_loadPart' hl
  refine wpAny_stack_any fun st=>Iu ?_;split
  ·rename_i c _ _ _ _ _
   cases (c == Value.type "enumerate")
   ·wp_walk using wpAny_loadPart' hl,KJ hL
    exact⟨_,rfl,h⟩
   ·wp_walk using wpAny_loadPart' hl,KJ hL
    exact⟨_,rfl,h⟩
  ·wp_walk using wpAny_loadPart' hl,KJ hL
   exact⟨_,rfl,h⟩
section
variable {prog:Program}{w:World}{A:Around}{E:Value->Shared->Prop}{s:Shared}
theorem xy {self a v:Value}:Meets (Builtin.«object.__init__» ⟨[self,a],[("start",v)]⟩) (fun _ R s=>s.TypeIs self "enumerate"/\R (.ok (.ret .none)) s):=by
 refine Meets.of_wp fun prog w A R s hs=>?_;obtain⟨hT,hq⟩:=hs;have hl:=(F.called_enumerate).init.lookup;have hm:=(F.called_enumerate).made
 repeat (any_goals (first | assumption | wp_step))
 exact⟨_,rfl,hq⟩
theorem CS {l:Addr}{items:Array Value}{t:Tok}{Q:Value->Shared->Prop}(hL:s.heap.IsList l items)
  (h:∀ h',IsEnum h' (s.heap.objs.size+1) s.heap.objs.size 1 .none->h'.IsListIter s.heap.objs.size l 0->(∀ b o,s.heap.get? b=some o->h'.get? b=some o)->Q (.ref (s.heap.objs.size+1)) { s with heap:=h' }) :
  wpAny (model prog w) A (call (.type "enumerate") [.ref l] [("start",.int 1 t)]) Q E s:=by
 obtain⟨⟨c,dct,dt,sl⟩,hl,hc,n,hd⟩:=hL
 replace hc:c=.type "list":=hc
 replace hd:dt=.seq items n:=hd
 subst hc hd;have ft:=F.called_enumerate;obtain⟨c,tl,hmro⟩:=ft.mro;have hmade:=ft.made;have hsub:=ft.sub;refine Ka (codeAny_of_tree ?_)
 show wpAny _ _ (callAny (.type "enumerate") _) _ _ _
 refine Iu ⟨Code.quiet_builtin _ (by decide +kernel),codeAny_builtin F.entry_type_call ?_⟩;rw[Around.under_plain (weight_type_call_type _ _ _) (units_type_call_type _ _ _)];have h1:=ft.notType;have h2:=ft.canCreate;have hct:=CU (.ref l) (.int 1 t)
 repeat (any_goals (first | assumption | wp_step))
 have hz:(s.heap.push { cls:=.type "list_iterator",data:=.fields #[.ref l,.int 0 0] }).objs.size=s.heap.objs.size+1:=JT ..;refine JH (Kl ft.plain F.entry_enumerate_new (wpAny_of_eq (Ex _ _) (A1 l items n dct sl t prog w A.in1 (wants (fun obj s₁=>s₁.TypeIs obj "enumerate"/\Q obj s₁) E) s ⟨hl,?_⟩))) fun r s₁ hr=>?_
 ·show _/\_
  have he:IsEnum ((s.heap.push { cls:=.type "list_iterator",data:=.fields #[.ref l,.int 0 0] }).push
    { cls:=.type "enumerate",data:=.fields #[.none,.bool false,.ref s.heap.objs.size,rawInt 1,.none,.none] }) (s.heap.objs.size+1) s.heap.objs.size 1 .none:=by
   have:=Heap.get?_push_size (s.heap.push { cls:=.type "list_iterator",data:=.fields #[.ref l,.int 0 0] })
    (o:={ cls:=.type "enumerate",data:=.fields #[.none,.bool false,.ref s.heap.objs.size,rawInt 1,.none,.none] }) rfl
   rw[hz]at this;exact this
  rw[hz];exact⟨⟨_,he,rfl⟩,h _ he ⟨_,Heap.get?_push_of_some _ (Heap.get?_push_size _ rfl),rfl,rfl⟩ fun b o x=>Heap.get?_push_of_some _ (Heap.get?_push_of_some _ x)⟩
 ·cases r with
  | error e=>exact hr
  | ok fl =>
   cases fl with
   | ret obj =>
    obtain⟨hT,hQ⟩:=hr;have hli:=ft.init.lookup;have hbi:=ft.init.bind obj
    repeat (any_goals (first | assumption | wp_step))
    refine JH (Kl ft.init.plain F.entry_object_init (ft.init.check _ _ _ _ _ _ _ _ hT (CT _ _ _) (xy prog w A.in1 (wants (fun r s₂=>r=.none/\Q obj s₂) E) s₁ ⟨hT,rfl,hQ⟩))) fun r₂ s₂ hr₂=>?_
    cases r₂ with
    | error e=>exact hr₂
    | ok fl₂ =>
     cases fl₂ with
     | ret r =>
      obtain⟨rfl,hq⟩:=hr₂
      repeat (any_goals (first | assumption | wp_step))
     | _=>exact hr₂.elim
   | _=>exact hr.elim
end
theorem AU {prog:Program}{w:World}{A:Around}{it:Addr}{fp:List Addr}{n:Nat}{P:Nat->Value->Prop}{St:Nat->Heap->Prop}(D:Draws prog w A it fp n P St):Draws prog w A it fp (n+1) (fun j v=>P (j-1) v) (fun j h=>1<=j/\St (j-1) h) where
 live:=fun i h st=>D.live _ h st.2
 frame:=fun i h h' st k=>⟨st.1,D.frame _ h h' st.2 k⟩
 item:=fun i s Q E hi st hQ=>D.item (i-1) s Q E (by have:=st.1;omega) st.2 fun x h' tk hp hs hb=>hQ x h' tk hp ⟨by omega,by have:=st.1;rw[show i+1-1=i-1+1 by omega];exact hs⟩ hb
 done:=fun s Q E st hE=>D.done s Q E st.2 hE
theorem zL {prog:Program}{w:World}{A:Around}(hh:A.handled=none)(it l:Addr)(items:Array Value){i:Nat}(hx:items[i]? = none):Draws prog w A it [it,l] (i+1) (fun _ _=>False) (fun j h=>j=i+1/\h.IsListIter it l i/\h.IsList l items) where
 live:=fun j h st=>let ⟨o,ho,_⟩:=st.2.1;⟨o,ho⟩
 frame:=fun j h h' st k=>⟨st.1,st.2.1.at fun o x=>k it (by simp) o x,st.2.2.at fun o x=>k l (by simp) o x⟩
 item:=fun j s Q E hj st hQ=>by have:=st.1;omega
 done:=fun s Q E st hE=>wpAny_nextOf_list_end hh st.2.1 st.2.2 hx hE
def FR (K:PySem.W.Frag)(l:Addr):It :=
 ⟨fun i H=>∃ xs x,bF K H l xs/\xs[i]? = some x,fun i H y H'=>∃ T x,H T=none/\y=.ref T/\H'=upd H T (.tup [.int ((i:Int)+1),x])/\∀ xs,bF K H l xs->xs[i]? = some x,fun i H=>∃ xs,bF K H l xs/\xs.length<=i⟩
theorem yo {P:Program}{w:World}{K:PySem.W.Frag}{elts:List Expr} {kk}{pos:Pos}(e it l:Addr)(hne:e≠it):t8 P w K (.Tuple elts kk pos) (FR K l) [e,it] e (fun i h=>(∃ old,IsEnum h e it ((i+1:Nat):Int) old)/\h.IsListIter it l i) where
 mem:=by simp
 obj:=fun i h st b hb=>by
  obtain⟨⟨old,he⟩,⟨o,eo,c,d⟩⟩:=st
  have hb:b=e\/b=it:=by simpa using hb
  rcases hb with rfl | rfl
  ·exact⟨_,he,fun v z=>by cases z⟩
  ·exact⟨o,eo,fun v z=>by rw[d]at z;cases z⟩
 keep:=fun i h h' st k=>⟨st.1.elim fun old he=>⟨old,k e (by simp) _ he⟩,st.2.at fun o x=>k it (by simp) o x⟩
 item:=by
  intro X hP hw hK hc i pins s σ H E I hf st hg;subst hP hw hK;obtain⟨xs,x,hq,hx⟩:=hg;obtain⟨its,rv,p,hz⟩:=I.list hq;obtain⟨u,hu,ru⟩:=rv.get hx;obtain⟨⟨old,he⟩,hit⟩:=st;have fe:=hf e (by simp);have fi:=hf it (by simp);have lte:e<s.heap.objs.size:=IA he
  have lti:it<s.heap.objs.size:=by obtain⟨_,q,_⟩:=id hit;exact IA q
  obtain⟨ol,hol,hcl,_⟩:=id p.isList
  have nl:l≠it:=fun z=>by
   obtain⟨oi,hoi,hci,_⟩:=id hit;rw[<-z,hol]at hoi;cases hoi;rw[hcl]at hci;exact absurd (Value.type.inj hci) (by decide)
  have nle:e≠l:=fun z=>by
   have q:s.heap.get? e=some _:=he;rw[z,hol]at q;cases q;exact absurd (Value.type.inj hcl) (by decide)
  refine wpAny_pyNext_enum_itemD (AU (Draws.list (A:=X.A.in1) (I.ok.hd hc) it l nl its.toArray)) he ⟨by omega,hit,p.isList⟩ (by have:=(List.getElem?_eq_some_iff.mp hu).1;simp;omega) hne (by simp[hne,nle]) fun u' h' tk hu' ho hst' hT hsz hk=>⟨.ref s.heap.objs.size,rfl,?_⟩
  have eu:u'=u:=by
   have:its.toArray[i+1-1]? = some u':=hu';rw[show i+1-1=i by omega]at this
   have h2:its.toArray[i]? = some u:=by simpa using hu
   rw[this]at h2;exact Iy h2
  subst eu;have hit':h'.IsListIter it l (i+1):=hst'.2.1;refine wpAny_letOwnedTupleGo_enum (s:={ s with heap:=h',toks:=tk+1 }) ho fun h2 he2 sb2=>?_;have hfr:H s.heap.objs.size=none:=I.hok.fresh (Iv _)
  have IL:au X pins σ (upd H s.heap.objs.size (.tup [.int ((i:Int)+1),x])) { s with heap:=s.heap.push { cls:=.type "tuple",data:=.seq #[.int ((i+1:Nat):Int) tk,u'] },toks:=s.toks } :=
   I.laid (fun b o q=>Heap.get?_push_of_some _ q) (Iv _) ⟨by show 2<=sizeLine;decide,[.int ((i+1:Nat):Int) tk,u'],.cons ⟨_,rfl⟩ (.cons ru .nil),⟨_,Heap.get?_push_size _ rfl,rfl,_,rfl⟩⟩
  have fp':∀ b,b<s.heap.objs.size->fT X pins H b->fT X pins (upd H s.heap.objs.size (.tup [.int ((i:Int)+1),x])) b:=fun b hb ⟨f0,f1,f2,f3,f4,f5⟩=>⟨by rw[ag (IC hb)];exact f0,f1,f2,f3,f4,f5⟩
  have I2:au X pins σ (upd H s.heap.objs.size (.tup [.int ((i:Int)+1),x])) { s with heap:=h2,toks:=tk+1 }:=IL.turned2 (t':=tk+1) (h':=h2) (fun b o n1 n2 q=>by
   refine (sb2.2 b n1).trans ?_
   show h'.get? b=some o
   by_cases hb:b=s.heap.objs.size
   ·subst hb
    have q:(s.heap.push { cls:=.type "tuple",data:=.seq #[.int ((i+1:Nat):Int) tk,u'] }).get? s.heap.objs.size=some o:=q;rw[Heap.get?_push_size _ rfl]at q;cases q;exact hT
   ·have q:(s.heap.push { cls:=.type "tuple",data:=.seq #[.int ((i+1:Nat):Int) tk,u'] }).get? b=some o:=q
    refine hk b o n1 n2 ?_;rw[Heap.get?_push_ne _ _ _ hb]at q
    exact q) (fp' e lte fe) (fp' it lti fi)
  refine⟨.ref s.heap.objs.size,_,I2,rfl,⟨s.heap.objs.size,x,hfr,rfl,rfl,fun ys hy=>by rw[I.list_inj hy hq];exact hx⟩,⟨⟨_,by simpa using he2⟩,hit'.at fun o q=>(sb2.2 it (IN hne)).trans q⟩,fun b hb=>?_⟩
  have hb':b=e\/b=it:=by simpa using hb
  rcases hb' with rfl | rfl
  ·exact (fp' _ lte fe).1
  ·exact (fp' _ lti fi).1
 done:=by
  intro X hP hw hK hc i pins s σ H E I hf st hg;subst hP hw hK;obtain⟨xs,hq,hx⟩:=hg;obtain⟨its,rv,p,hz⟩:=I.list hq;obtain⟨⟨old,he⟩,hit⟩:=st;obtain⟨f0,f1,f2,f3,f4,f5⟩:=hf it (by simp);have hl:=rv.length;exact wpAny_pyNext_enum_endD (zL (A:=X.A.in1) (I.ok.hd hc) it l its.toArray (i:=i) (by simp;omega)) he ⟨rfl,hit,p.isList⟩ fun h' eb=>⟨rfl,I.turned (t':=s.toks) (fun b o hb q=>eb b o hb q) f0 f1 f3 f4 f5⟩
 self:=fun _ _ _ _ _ st h=>st.1.elim fun old he=>wpAny_pyIter_enum he h
theorem pF {M:Model}{A:Around}{E:Value->Shared->Prop}{s:Shared}{env:Env}{pos:Pos}{T:String}{Q:Value->Shared->Prop}{e:Expr}{rest:List Expr}{kws:List Keyword}(hall:(backToKw pos (keywordEach kws env)).all (·.1.isSome)=true)
  (h:wpAny M A (spliced (backTo pos (starEach (e::rest) env))) (fun vs s₁=>wpAny M A (evalAll ((backToKw pos (keywordEach kws env)).map (·.2)))
   (fun ks s₂=>wpAny M A (call (.type T) vs (((backToKw pos (keywordEach kws env)).filterMap (·.1)).zip ks)) Q E s₂) E s₁) E s)
  (hplain:((backTo pos (starEach (e::rest) env)).any (·.1)||(backToKw pos (keywordEach kws env)).any (·.1.isNone))=false:=by rfl) (he:starEach (e::rest) env=(false,eval e env)::starEach rest env:=by rfl) :
  wpAny M A (callWith pos (.type T) [] (backTo pos (starEach (e::rest) env)) (backToKw pos (keywordEach kws env))) Q E s:=by
 unfold callWith;refine Io (Jv (IS (evalArgs_kw2 (Q:=fun a s₁=>wpAny M A (call (.type T) a.pos a.kw) Q E s₁) hall h he) (fun a s₁ h₁=>Io (JA ?_)) fun _ _ x=>x));simp only[hplain];refine Io (Iu ?_);exact Io (IS h₁ (fun r s₂ hr=>Io (Jv (wpAny_point (Iu hr)))) fun _ _ x=>x)
def ED (K:PySem.W.Frag)(t:TA):TI:=fun σ H R=>t σ H fun vs H1=>∃ l,vs=[.ref l]/\(∃ xs,bF K H1 l xs)/\R (FR K l) H1
theorem BO {X:Cx}{elts:List Expr} {kk}{tpos:Pos}{a:Expr}{ta:TA}{p pos cp kp:Pos}{cj:Nat}(hg:Gl X "enumerate")(hm:X.mg "enumerate" = none)(ha:PA X [a] ta)
  (he:starEach [a] X.env=(false,eval a X.env)::starEach [] X.env:=by rfl)
  (hpl:((backTo pos (starEach [a] X.env)).any (·.1)||(backToKw pos (keywordEach [⟨some "start",.Constant (.int 1) cj cp,kp⟩] X.env)).any (·.1.isNone))=false:=by rfl) :
  PI X (.Tuple elts kk tpos) (.Call (.Name "enumerate" p) [a] [⟨some "start",.Constant (.int 1) cj cp,kp⟩] pos) (ED X.K ta):=by
 intro pins s σ H R I h;refine JE (oj I hg hm boot_enumerate ?_ (by decide) (by decide));refine pF (by rfl) (bx (ha pos pins s σ H _ I h) fun us s1 ⟨vs,H1,I1,r1,l,e1,⟨xs,hq⟩,q⟩=>?_) hpl he;subst e1;obtain⟨u,rfl,rx⟩:=kW r1;cases rx;refine bx ((Dv am EY:PK X [⟨some "start",.Constant (.int 1) cj cp,kp⟩] _) pos pins s1 σ H1 (fun vs H2=>vs=[.int 1]/\H2=H1) I1 ⟨rfl,rfl⟩) fun ws s2 ⟨zs,H2,I2,rz,ez,eh⟩=>?_;subst ez eh;obtain⟨u2,rfl,rx2⟩:=kW rz;obtain⟨t,rfl⟩:=rx2;obtain⟨its,rv,pl,hz⟩:=I2.list hq;refine CS pl.isList fun h' hE hI hk=>?_;have I3:au X pins σ H2 { s2 with heap:=h',toks:=s2.toks }:=I2.kept hk;refine wpAny_pyIter_enum (s:={ s2 with heap:=h' }) hE ?_;refine⟨s2.heap.objs.size+1,[s2.heap.objs.size+1,s2.heap.objs.size],_,_,H2,rfl,I3,yo _ _ l (Nat.succ_ne_self _),⟨⟨_,hE⟩,hI⟩,fun b hb=>?_,q⟩
 have hb:b=s2.heap.objs.size+1\/b=s2.heap.objs.size:=by simpa using hb
 rcases hb with rfl | rfl
 ·exact I2.fpOk (KH _) (I2.hok.fresh (KH _))
 ·exact I2.fpOk (Iv _) (I2.hok.fresh (Iv _))
theorem zQ {K:PySem.W.Frag}{a:Addr}{xs:List V}{g:TG}{tb:TS}{D:hG}{σ:St}{H:Hp}(Pv:Nat->St->Hp->Prop)(h0:Pv 0 σ H)(hl:∀ i σ H,i<=xs.length->Pv i σ H->bF K H a xs)
  (hs:∀ i x σ H T,xs[i]? = some x->Pv i σ H->H T=none->g (.ref T) σ (upd H T (.tup [.int ((i:Int)+1),x])) fun σ2 H2=>tb { D with nx:=Pv (i+1),ct:=Pv (i+1),bk:=D.nx } σ2 H2) (hd:∀ σ H,Pv xs.length σ H->D.nx σ H) :
  ∃ W:Nat->Nat->St->Hp->Prop,(∃ m,W 0 m σ H)/\∀ i m σ H,W i m σ H ->
   ((FR K a).stop i H/\D.nx σ H)\/((FR K a).go i H/\∃ N:St->Hp->Prop,(∀ σ' H',N σ' H'->∃ m',m'<m/\W (i+1) m' σ' H')/\∀ x H',(FR K a).yld i H x H'->g x σ H' fun σ2 H2=>tb { D with nx:=N,ct:=N,bk:=D.nx } σ2 H2):=by
 refine⟨fun i m σ H=>m=xs.length-i/\i<=xs.length/\Pv i σ H,⟨xs.length,by simp,IX _,h0⟩,?_⟩;rintro i m σ H ⟨rfl,hi,p⟩;have q:=hl i σ H hi p
 by_cases hlt:i<xs.length
 ·refine .inr ⟨⟨xs,xs[i],q,by simp[hlt]⟩,Pv (i+1),fun σ' H' p'=>⟨xs.length-(i+1),by omega,rfl,hlt,p'⟩,fun y H' z=>?_⟩
  obtain⟨T,x,hT,e1,e2,hx⟩:=z;subst e1 e2;exact hs i x σ _ T (hx xs q) p hT
 ·have e:i=xs.length:=by omega
  exact .inl ⟨⟨xs,q,by omega⟩,hd σ H (e▸p)⟩
abbrev xK (qual:Str)(scope:Scope)(s:Shared)(f c':Addr)(y:Str)(cy:Addr):Env:=PySem.W.envX qual scope s.heap.objs.size f (.ref c') [(y,cy)]
def yG (CX:sQ)(P:Program)(w:World)(K:PySem.W.Frag)(mg:Str->Option Value)(base:Heap)(N:List Str)(qual:Str)(scope:Scope)(f c':Addr)(y:Str)(cy:Addr)(A:Around)(outer:List Env)(s:Shared)(H:Hp)(E:XK):Cx where
 prog:=P
 w:=w
 K:=K
 mg:=mg
 base:=base
 A:=A.deeper (xK qual scope s f c' y cy)
 N:=N
 s₀:=s
 H₀:=H
 env:=xK qual scope s f c' y cy
 outer:=outer
 stack:=xK qual scope s f c' y cy::outer
 ex:=[]
 calm:=true
 fn:=fun _=>false
 pn:=[]
 xe:=fun e s'=>wpAny (model P w) (A.deeper (xK qual scope s f c' y cy)) (leaving (xK qual scope s f c' y cy) e) (fun _ s''=>CX outer H s E e s'') (fun e' s''=>CX outer H s E e' s'') s'
structure vo (ps:List Str)(y:Str)(sc:Scope):Prop where
 kind:sc.kind=.function
 co:sc.isCoroutine=false
 gen:sc.isGenerator=false
 nd:(ps++[y]).Nodup
 par:∀ x∈ps,sc.names.lookup x=some .local
 nocell:∀ z∈sc.names,z.2≠.cell
 fr:∀ x,sc.names.lookup x=some .free->x=y
 fry:sc.names.lookup y=some .free
structure sX (base:Heap)(qual:Str)(params:Arguments)(body:Expr)(scope:Scope)(y:Str)(vy:V)(f c' cy:Addr)(pm ct:Value):Prop where
 ob:base.get? f=some (PySem.W.kla_obj "<lambda>" qual params body scope [(y,cy)] pm c' ct)
 cell:∃ u,aY vy u/\base.IsCell cy (some u)
def kB (H:Hp)(c':Addr)(qual:Str):Prop:=∃ oc vs t,H c'=some (.frz oc (.own c'))/\oc.data=.fields vs/\vs[1]? = some (.str qual t)
theorem kB.rec {P:Program}{w:World}{H:Hp}{h:Heap}{c':Addr}{qual:Str}(x:kB H c' qual)(ok:iQ P w H h):h.CodeRec (.ref c') qual:=by
 obtain⟨oc,vs,t,e,d,v⟩:=x;exact⟨c',oc,vs,t,rfl,(ok c' _ e).1,d,v⟩
theorem yS {α:Type}{x:Str}{u:α}:∀ {l:List (Str×α)},(l.map (·.1)).Nodup->(x,u)∈l->l.lookup x=some u
 | p::l,nd,h=>by
  rw[IT,I0]at nd;rw[Jp];rcases IE.mp h with e | e
  ·rw[<-e];simp
  ·have ne:(x == p.1)=false:=by
    rw[JL];exact fun z=>nd.1 (by rw[<-z];exact Ku (f:=(·.1)) e)
   rw[ne];exact yS nd.2 e
theorem Cz {ps:List Str}{us:List Value}{i:Nat}{x:Str}{u:Value}(nd:ps.Nodup)(hl:ps.length=us.length)(h1:ps[i]? = some x)(h2:us[i]? = some u):(ps.zip us).reverse.lookup x=some u:=by
 refine yS ?_ ?_
 ·rw[List.map_reverse,List.map_fst_zip (by omega)]
  exact (List.reverse_perm ps).nodup_iff.mpr nd
 ·rw[List.mem_reverse]
  exact IV (i:=i) (List.getElem?_zip_eq_some.mpr ⟨h1,h2⟩)
theorem zY {CX:sQ}{P:Program}{w:World}{K:PySem.W.Frag}{mg:Str->Option Value}{base:Heap}{ps:List Str}{y:Str}{qual:Str}{params:Arguments}{body:Expr}{scope:Scope}{vy:V}{f c' cy:Addr}{pm ct:Value}{A:Around}{outer:List Env}{s:Shared}{h1:Heap}{tk:Nat}{H:Hp}{E:XK}{us:List Value}{vs:List V}
  (S:vo ps y scope) (Lm:sX base qual params body scope y vy f c' cy pm ct) (hd:A.handled=none) (e0:t6 P w K mg base A outer s H) (hl:vs.length=ps.length) (r:bh vs us)
  (hns:h1.Ns s.heap.objs.size (fun x=>(ps.zip us).reverse.lookup x)) (hk:∀ b o,s.heap.get? b=some o->h1.get? b=some o) :
  au (yG CX P w K mg base (ps++[y]) qual scope f c' y cy A outer s H E) [] (vs.map some++[some vy]) H { s with heap:=h1,toks:=tk }:=by
 have noA:∀ b:Addr,b∉(yG CX P w K mg base (ps++[y]) qual scope f c' y cy A outer s H E).ex:=fun b z=>absurd (show b∈([]:List Addr) from z) (by simp);obtain⟨uy,ry,oc,hoc,hdc⟩:=Lm.cell
 have lk:∀ x c,List.lookup x [(y,cy)]=some c->x=y/\c=cy:=fun x c h=>by
  rw[Jp]at h
  cases e:x == y with
  | true=>rw[e]at h;cases h;exact⟨eq_of_beq e,rfl⟩
  | false=>rw[e]at h;cases h
 have lky:List.lookup y [(y,cy)]=some cy:=by rw[Jp,Kq]
 refine⟨⟨e0.mod,S.kind,rfl,rfl,Iv _,fun x z c h1 h2=>?_,fun x hx=>?_,fun x c h=>?_,fun _=>hd,Around.frames_deeper e0.frames,.inr ⟨rfl,rfl⟩,fun b z=>absurd z (noA b),e0.bs,e0.bsz,fun b _ _=>noA b,fun b z=>absurd z (noA b),e0.funs,e0.frf⟩,
  rfl,e0.bare,Un.kept hk,⟨_,hns,fun i x v h1 h2 h3=>?_⟩,fun x c h=>?_,e0.hok.fresh (Iv _),fun x c h=>?_,fun p hp=>absurd (show p∈([]:List (Addr×Obj)) from hp) (by simp),e0.hok.kept hk,?_⟩
 ·rw[(lk x c h1).1,(lk z c h2).1]
 ·have hx:scope.names.lookup x=some .cell\/scope.names.lookup x=some .free:=hx
  rcases hx with q | q
  ·exact absurd rfl (S.nocell _ (JM q))
  ·exact⟨cy,by rw[S.fr x q];exact lky⟩
 ·cases h
 ·by_cases hi:i<ps.length
  ·have hp:ps[i]? = some x:=by
    have h1:(ps++[y])[i]? = some x:=h1;rw[List.getElem?_append_left hi]at h1;exact h1
   have ha:vs[i]? = some v:=by
    have h2:(vs.map some++[some vy])[i]? = some (some v):=h2;rw[List.getElem?_append_left (by simpa [hl] using hi),List.getElem?_map]at h2
    cases e:vs[i]? with
    | none=>rw[e]at h2;cases h2
    | some a=>rw[e]at h2;cases h2;rfl
   obtain⟨u,hu,rv⟩:=r.get ha;refine⟨u,rv,.inl ⟨S.par x (IV hp),?_⟩⟩;exact Cz (List.nodup_append.mp S.nd).1 (by rw[<-r.length,hl]) hp hu
  ·have h1:(ps++[y])[i]? = some x:=h1
   have hi2:i=ps.length:=by have:=(List.getElem?_eq_some_iff.mp h1).1;simp at this;omega
   have h2:(vs.map some++[some vy])[i]? = some (some v):=h2;rw[hi2,List.getElem?_append_right (Iv _),KR]at h1;rw[hi2,List.getElem?_append_right (by simp[hl]),show ps.length-(vs.map some).length=0 by simp[hl]]at h2;cases h1;cases h2;exact⟨uy,ry,.inr ⟨.inr S.fry,cy,lky,oc,hk _ _ (e0.bs _ _ hoc).1,hdc⟩⟩
 ·obtain⟨rfl,rfl⟩:=lk x c h
  exact⟨_,oc,hk _ _ (e0.bs _ _ hoc).1,hdc⟩
 ·obtain⟨rfl,rfl⟩:=lk x c h
  exact (e0.bs _ _ hoc).2
 ·show (vs.map some++[some vy]).length=(ps++[y]).length
  simp[hl]
theorem EK {CX:sQ}{P:Program}{w:World}{K:PySem.W.Frag}{mg:Str->Option Value}{base:Heap}{k:Nat}{ps:List Str}{y:Str}{qual:Str}{params:Arguments}{body:Expr}{scope:Scope}{vy:V}{f c' cy:Addr}{pm ct:Value}{sp:Sp}
  (S:vo ps y scope) (Lm:sX base qual params body scope y vy f c' cy pm ct)
  (len:∀ vs H Q E,sp vs H Q E->vs.length=ps.length) (hcd:∀ vs H Q E,sp vs H Q E->kB H c' qual)
  (hbody:∀ (A:Around)(outer:List Env)(s:Shared)(H:Hp)(vs:List V)(Q:VK)(E:XK),cu k (A.deeper (xK qual scope s f c' y cy))->sp vs H Q E ->
   ∃ t,PE (yG CX P w K mg base (ps++[y]) qual scope f c' y cy A outer s H E) body t/\t (vs.map some++[some vy]) H Q) :
  bd P w K mg base CX (k+1) f (PySem.W.kla_fn "<lambda>" qual params body scope [(y,cy)] pm (.ref c') ct) ps sp:=by
 refine⟨len,fun A outer s H args us vs Q E hr e0 hb r hsp=>?_⟩;have hl:=len _ _ _ _ hsp;have hkp:∀ b o,base.get? b=some o->s.heap.get? b=some o:=fun b o e=>(e0.bs b o e).1;have lim:s.heap.NoLimit:=e0.mod.nolimit.keeps hkp;refine PySem.W.kla_callFunE hr.depth (hkp _ _ Lm.ob) rfl S.co S.gen rfl ((hcd _ _ _ _ hsp).rec e0.hok) (hb _ _ _ _ ?_);refine Kk S.nocell (fun z hz=>S.par z.1 (List.of_mem_zip hz).1) (fun h1 hns hsb=>⟨lim.fresh _ hsb,?_⟩) S.kind;have hk1:∀ b o,s.heap.get? b=some o->h1.get? b=some o:=fun b o e=>hsb.extBut b o (IC (IA e)) (Heap.get?_push_of_some _ e)
 show codeAny _ _ (.expr body (xK qual scope s f c' y cy)) _ _
 obtain⟨t,ht,hq⟩:=hbody A outer s H vs Q E (hr.deeper _) hsp;have I:au (yG CX P w K mg base (ps++[y]) qual scope f c' y cy A outer s H E) [] (vs.map some++[some vy]) H { s with heap:=h1,toks:=s.toks+(ps.zip us).length }:=zY S Lm hr.hd e0 hl r hns hk1;refine PySem.W.kla_codeExpr (IS (ht [] _ _ H Q I hq) (fun u s' ⟨v,H',J,rv,q⟩=>?_) fun e s' hs=>hs);exact⟨v,H',J.os,J.bare,J.base,J.hok,rv,q⟩
def lN (K:PySem.W.Frag)(c P:Addr):Prop:=∃ (o:Obj)(vs:Array Value)(file:Str)(tf:Tok)(flags:Int)(tg:Tok)(inF:Bool)(text:Int)(tt:Tok),K.lookup c=some o/\o.cls=.type "code"/\o.data=.fields vs/\vs[11]? = some (.ref P)/\vs.getD 11 .none=.ref P/\vs.getD 18 .none=.str file tf /\
  vs.getD 7 .none=.int flags tg/\vs.getD 9 .none=.bool inF/\vs.getD 10 .none=.int text tt/\c≠P
theorem lN.hd {K:PySem.W.Frag}{c P:Addr}{h:Heap}(x:lN K c P)(k:K.In h):PySem.W.CodeHd h c P:=by
 obtain⟨o,vs,file,tf,flags,tg,inF,text,tt,e,r⟩:=x;exact⟨o,vs,file,tf,flags,tg,inF,text,tt,k _ _ e,r⟩
def tZ (mg:Str->Option Value)(base:Heap):Prop:=∃ bm ob,mg "__builtins__" = some (.ref bm)/\bm≠builtinsNs/\base.get? bm=some ob/\ob.cls=.type "module"/\ob.dict=some builtinsNs/\ob.data=.plain
def fW (H:Hp)(P:Addr)(pos:Pos)(qual:Str):Prop:=H P=some (.tbl #[])\/∃ c',H P=some (.tbl #[rawInt pos.line,rawInt pos.col,.ref c'])/\kB H c' qual
theorem fW.tbl {H:Hp}{P:Addr}{pos:Pos}{qual:Str}(x:fW H P pos qual):∃ ps,H P=some (.tbl ps):=x.elim (fun e=>⟨_,e⟩) fun ⟨_,e,_⟩=>⟨_,e⟩
theorem fW.same {H H':Hp}{P:Addr}{pos:Pos}{qual:Str}(x:fW H P pos qual)(s:aA H H'):fW H' P pos qual:=by
 rcases x with e | ⟨c',e,oc,vs,t,e2,r⟩
 ·exact .inl (s _ _ e)
 ·exact .inr ⟨c',s _ _ e,oc,vs,t,s _ _ e2,r⟩
section
variable {X:Cx}{pins:List (Addr×Obj)}{σ:St}{H:Hp}{s:Shared}
theorem Bj {A:Around}{E:Value->Shared->Prop}{params:Arguments}{body:Expr}{scope:Scope}{pos:Pos}{y:Str}{c0 P cy:Addr}{qual:Str}{Q:Value->Shared->Prop}(I:au X pins σ H s)(hc:X.env.code=.ref c0)(C:lN X.K c0 P)(B:tZ X.mg X.base)(hq:X.env.qual++"<lambda>" = qual)
  (hT:fW H P pos qual) (hdf:defaultsOf params X.env=([],[])) (hcl:closureFor scope X.env=pure [(y,cy)]) (hcy:X.env.cells.lookup y=some cy)
  (h:∀ (f c':Addr)(pm ct:Value)(H':Hp)(s':Shared),au X pins σ H' s'->s'.heap.get? f=some (PySem.W.kla_obj "<lambda>" qual params body scope [(y,cy)] pm c' ct)->s.heap.objs.size<=f->H' f=none->kB H' c' qual->fW H' P pos qual->(∀ b o,H b=some o->b≠P->H' b=some o) ->
   (∀ b o,s.heap.get? b=some o->b≠P->s'.heap.get? b=some o)->Q (.ref f) s') :
  wpAny (model X.prog X.w) A (eval (.Lambda params body scope pos) X.env) Q E s:=by
 refine PySem.W.kla_eval hdf ?_;rw[hq];have kb:=I.bk;have CH:=C.hd I.kIn;obtain⟨bm,ob,b1,b2,b3,b4,b5,b6⟩:=B;have gN:s.heap.Ns mainGlobals X.mg:=I.ok.mod.glob.keeps kb;obtain⟨ps,hps⟩:=hT.tbl;have hPo:s.heap.get? P=some (PySem.W.tabObj ps):=I.hok P _ hps
 have nP:∀ b o,X.base.get? b=some o->b≠P:=fun b o e z=>by rw[z]at e;rw[(I.bs _ _ e).2]at hps;cases hps
 have gP:mainGlobals≠P:=fun z=>by
  obtain⟨o,es,ep,e,hd,_⟩:=I.ok.mod.glob;exact nP _ _ e z
 have bG:bm≠mainGlobals:=fun z=>by
  obtain⟨o,es,ep,e,hd,_⟩:=I.ok.mod.glob;rw[z,e]at b3;cases b3;rw[hd]at b6;cases b6
 have hb:s.heap.BuiltinsAt X.mg P:=⟨bm,ob,b1,b2,bG,nP _ _ b3,kb _ _ b3,b4,b5,b6⟩;rcases hT with hT | ⟨c',hT,hcf⟩
 ·rw[hps]at hT
  cases hT;refine PySem.W.kla_makeFunction (mg:=X.mg) hcl I.ok.glob gN hc CH hPo (by trivial) rfl gP hb fun c' ctv h' tk hx hge hlt hrec htb=>?_;obtain⟨c1,oc,vs,t,e1,hoc,hdc,hvc⟩:=hrec;cases e1;have hcH:H c'=none:=I.hok.fresh hge
  have cP:c'≠P:=fun z=>by rw[z,hps]at hcH;cases hcH
  have fH:H h'.objs.size=none:=I.hok.fresh (Jb hge (Kn hlt))
  have fP:h'.objs.size≠P:=fun z=>by rw[z,hps]at fH;cases fH
  have fc:h'.objs.size≠c':=Nat.ne_of_gt hlt;have kk:∀ b o,s.heap.get? b=some o->b≠P->(h'.push (PySem.W.kla_obj "<lambda>" qual params body scope [(y,cy)] ((X.mg "__name__").getD .none) c' ctv)).get? b=some o:=fun b o e n=>Heap.get?_push_of_some _ (hx b o n e);have lt0:∀ b o,s.heap.get? b=some o->b≠c':=fun b o e z=>absurd (IQ (IA (z▸e)) hge) (Kw _)
  have ltH:∀ b o,H b=some o->b≠c':=fun b o e z=>by rw[z,hcH]at e;cases e
  have I1:au X pins σ (upd (upd H P (.tbl (#[]++#[rawInt pos.line,rawInt pos.col,.ref c']))) c' (.frz oc (.own c'))) { s with heap:=h'.push (PySem.W.kla_obj "<lambda>" qual params body scope [(y,cy)] ((X.mg "__name__").getD .none) c' ctv),toks:=tk }:=by
   have hne:∀ b o,H b=some o->b≠P->upd (upd H P (.tbl (#[]++#[rawInt pos.line,rawInt pos.col,.ref c']))) c' (.frz oc (.own c')) b=some o:=fun b o e n=>by rw[ag (ltH b o e),ag n];exact e
   refine I.un ⟨fun b o e n _ _=>kk b o e (fun z=>by rw[z,hps]at n;cases n),fun b o e n _ _=>⟨o.slots,kk b o e (fun z=>by rw[z,hps]at n;cases n)⟩,fun b o e n _=>?_,fun b o e _=>?_,fun b xs e=>hne b _ e (fun z=>by rw[z,hps]at e;cases e),fun b o u e=>hne b _ e (fun z=>by rw[z,hps]at e;cases e),fun b qs e=>?_⟩ fun b u e=>?_
   ·rw[ag (lt0 b o e),ag (fun z=>by rw[z,hps]at n;cases n)];exact n
   ·by_cases z:b=P
    ·exact⟨_,by rw[z];exact Heap.get?_push_of_some _ htb⟩
    ·exact⟨o,kk b o e z⟩
   ·by_cases z:b=P
    ·rw[z,hps]at e;cases e
     exact⟨#[rawInt pos.line,rawInt pos.col,.ref c'],by rw[z,ag (IN cP),af]⟩
    ·exact⟨#[],by rw[hne b _ e z];simp⟩
   ·by_cases z:b=c'
    ·rw[z,af]at e
     cases e;rw[z];exact⟨Heap.get?_push_of_some _ hoc,_,Heap.get?_push_of_some _ hoc⟩
    ·rw[ag z]at e
     by_cases z2:b=P
     ·rw[z2,af]at e
      cases e;rw[z2];exact Heap.get?_push_of_some _ htb
     ·rw[ag z2]at e
      refine (I.hok b u e).stay (fun d v hd q=>kk d v q ?_) (fun d q=>hne d _ q (fun z=>by rw[z,hps]at q;cases q)) fun d xs q=>hne d _ q (fun z=>by rw[z,hps]at q;cases q);rcases hd with r | r
      ·rw[r];exact z2
      ·exact fun z=>by rw[z,hps]at r;cases r
  have cf:kB (upd (upd H P (.tbl (#[]++#[rawInt pos.line,rawInt pos.col,.ref c']))) c' (.frz oc (.own c'))) c' qual:=⟨oc,vs,t,af,hdc,hvc⟩;refine h _ c' _ ctv _ _ I1 (Heap.get?_push_size _ rfl) (Jb hge (Kn hlt)) ?_ cf (.inr ⟨c',?_,cf⟩) (fun b o e n=>?_) kk
  ·rw[ag fc,ag fP];exact fH
  ·rw[ag (IN cP),af];rfl
  ·rw[ag (ltH b o e),ag n];exact e
 ·rw[hps]at hT
  cases hT;refine PySem.W.kla_makeFunctionHit (cv:=.ref c') (mg:=X.mg) hcl I.ok.glob gN hc CH hPo ?_ ?_ hb fun ctv h' tk hk hsz=>?_
  ·exact True.intro
  ·exact codeAmong_snoc (pos:=pos) (c:=.ref c') [] True.intro rfl
  have fH:H h'.objs.size=none:=I.hok.fresh hsz;have kk:∀ b o,s.heap.get? b=some o->(h'.push (PySem.W.kla_obj "<lambda>" qual params body scope [(y,cy)] ((X.mg "__name__").getD .none) c' ctv)).get? b=some o:=fun b o e=>Heap.get?_push_of_some _ (hk b o e);exact h _ c' _ ctv H _ (I.kept kk) (Heap.get?_push_size _ rfl) hsz fH hcf (.inr ⟨c',hps,hcf⟩) (fun b o e _=>e) (fun b o e _=>kk b o e)
theorem o7 {h base base':Heap}:∀ {l:List Env},h.FunFrames base l->(∀ b∈iq l,base'.get? b=none)->h.FunFrames base' l
 | [],_,_=>trivial
 | env::r,hl,hn=>by
  obtain⟨hk,⟨L,o,hf,hb,ho,hd⟩,hr⟩:=hl
  have e:iq (env::r)=L::iq r:=by unfold iq;rw[List.filterMap_cons,hf]
  rw[e]at hn;exact⟨hk,⟨L,o,hf,hn L IJ,ho,hd⟩,o7 hr fun b hb=>hn b (Iz _ hb)⟩
def qw (base h:Heap)(f cy:Addr):Heap:=PySem.W.hideAll h ((List.range h.objs.size).filter fun b=>decide (base.get? b=none/\b≠f/\b≠cy))
theorem k9 {base h:Heap}{f cy b:Addr}{o:Obj}(e:h.get? b=some o)(hb:(∃ o,base.get? b=some o)\/b=f\/b=cy):(qw base h f cy).get? b=some o:=by
 refine PySem.W.hideAll_get _ e fun z=>?_;obtain⟨n1,n2,n3⟩:=JK (Kd.mp z).2;rcases hb with ⟨o,q⟩ | q | q
 ·rw[n1]at q;cases q
 ·exact n2 q
 ·exact n3 q
theorem tS {base h:Heap}{f cy b:Addr}{o:Obj}(e:(qw base h f cy).get? b=some o):h.get? b=some o/\((∃ o,base.get? b=some o)\/b=f\/b=cy):=by
 have e1:=PySem.W.of_hideAll _ e;refine⟨e1,?_⟩
 by_cases z:base.get? b=none/\b≠f/\b≠cy
 ·have:(qw base h f cy).get? b=none:=PySem.W.hideAll_none _ (Kd.mpr ⟨Jt.mpr (IA e1),IG z⟩)
  rw[this]at e;cases e
 ·by_cases z1:b=f
  ·exact .inr (.inl z1)
  by_cases z2:b=cy
  ·exact .inr (.inr z2)
  cases q:base.get? b with
  | none=>exact absurd ⟨q,z1,z2⟩ z
  | some o=>exact .inl ⟨o,rfl⟩
theorem Mod.keeps {K:PySem.W.Frag}{mg:Str->Option Value}{base base':Heap}(m:Mod K mg base)(k:∀ b o,base.get? b=some o->base'.get? b=some o):Mod K mg base' :=
 ⟨m.kin.keeps k,m.glob.keeps k,let ⟨mb,h1,h2⟩:=m.blt;⟨mb,h1.keeps k,h2⟩,m.nolimit.keeps k⟩
theorem Bi {f cy:Addr}{y:Str}(I:au X pins σ H s)(hf:H f=none)(hfo:∃ o,s.heap.get? f=some o)(hs0:X.env.locals<f)(hcy:X.env.cells.lookup y=some cy)(hfn:X.fn y=true):t6 X.prog X.w X.K X.mg (qw X.base s.heap f cy) X.A X.stack s H:=by
 have e0:=I.env0
 have nf:∀ b∈iq X.stack,b≠f/\b≠cy:=fun b hb=>by
  rcases IE.mp (I.stkSub b hb) with z | z
  ·exact⟨by rw[z];exact IC hs0,by rw[z];exact (I.cne y cy hcy).symm⟩
  ·obtain⟨_,o,ho,_⟩:=I.ok.funs.mem z
   have l1:=IA ho;have l2:=I.ok.cab y cy hfn hcy;have l3:=I.ok.above;exact⟨IC (Nat.lt_trans (IQ l1 l3) hs0),IC (IQ l1 l2)⟩
 refine⟨e0.frames,I.ok.mod.keeps fun b o e=>k9 (I.bk b o e) (.inl ⟨o,e⟩),fun b o e=>?_,Nat.le_of_eq (PySem.W.hideAll_size _ _),o7 e0.funs fun b hb=>?_,e0.frf,e0.hok,e0.bare⟩
 ·obtain⟨e1,z⟩:=tS e
  refine⟨e1,?_⟩;rcases z with ⟨o',z⟩ | z | z
  ·exact (I.bs b o' z).2
  ·rw[z];exact hf
  ·rw[z];exact I.freeC y cy hcy
 ·cases q:(qw X.base s.heap f cy).get? b with
  | none=>rfl
  | some o =>
   obtain⟨_,z⟩:=tS q;rcases z with ⟨o',z⟩ | z | z
   ·have:=(I.stack.mem hb).1
    rw[this]at z;cases z
   ·exact absurd z (nf b hb).1
   ·exact absurd z (nf b hb).2
end
section
variable {X:Cx}{CX:sQ}{k:Nat}{E:XK}{x y:Str}{p pos:Pos}{e e1 e2:Expr}{es:List Expr}{te t1 t2:TE}{t:TA}
theorem x6 {iy:Nat}{fw c0 P cy:Addr}{fdw:FuncData}{psw:List Str}{sp:Addr->Addr->V->Sp}{params:Arguments}{body:Expr}{scope:Scope}{lpos:Pos}{qual:Str}
  (W:∀ (b':Heap)(f c' cy:Addr)(vy:V)(pm ct:Value),Mod X.K X.mg b'->sX b' qual params body scope y vy f c' cy pm ct->bd X.prog X.w X.K X.mg b' CX k fw fdw psw (sp f c' vy))
  (hr:cu k X.A) (hg:Gl X x) (hm:X.mg x=some (.ref fw)) (hk:PySem.W.keepIn X.K (.ref fw)=true) (hb:eU X.K fdw psw []) (hx:d9 CX X E)
  (h1:PE X e1 t1) (h2:PE X e2 t2) (hc:X.env.code=.ref c0) (C:lN X.K c0 P) (B:tZ X.mg X.base) (hq:X.env.qual++"<lambda>" = qual) (hdf:defaultsOf params X.env=([],[])) (hcl:closureFor scope X.env=pure [(y,cy)]) (hcy:X.env.cells.lookup y=some cy)
  (hfn:X.fn y=true) (hN:X.N[iy]? = some y) (hkd:X.env.scope.names.lookup y=some .cell)
  (hdb:(x == ("__debug__" : Str))=false:=by decide) (he:starEach [e1,e2,.Lambda params body scope lpos] X.env=(false,eval e1 X.env)::starEach [e2,.Lambda params body scope lpos] X.env:=by rfl)
  (he2:starEach [e2,.Lambda params body scope lpos] X.env=(false,eval e2 X.env)::starEach [.Lambda params body scope lpos] X.env:=by rfl) (he3:starEach [.Lambda params body scope lpos] X.env=[(false,eval (.Lambda params body scope lpos) X.env)]:=by rfl)
  (hpl:(backTo pos (starEach [e2,.Lambda params body scope lpos] X.env)).any (·.1)=false:=by rfl) :
  PE X (.Call (.Name x p) [e1,e2,.Lambda params body scope lpos] [] pos) (fun σ H Q=>t1 σ H fun x1 H1=>t2 σ H1 fun x2 H2=>fW H2 P lpos qual/\∃ vy,σ[iy]? = some (some vy) /\
   ∀ (f c':Addr)(H3:Hp),kB H3 c' qual->fW H3 P lpos qual->(∀ b o,H2 b=some o->b≠P->H3 b=some o)->sp f c' vy [x1,x2,.ref f] H3 Q E):=by
 intro pins s σ H Q I h;refine JE (fJ I hg hm ?_ hdb);refine KA (h₀:=X.base) I.ok.mod.kin hk (Q:=EP X pins σ Q) ?_ he hpl;rw[he,he2,he3]
 show wpAny _ _ (spliced [(false,eval e1 X.env),(false,eval e2 X.env),(false,eval (.Lambda params body scope lpos) X.env)]) _ _ s
 refine Ju (bx (h1 pins s σ H _ I h) fun u1 s1 ⟨x1,H1,I1,r1,q1⟩=>?_);refine Ju (bx (h2 pins s1 σ H1 _ I1 q1) fun u2 s2 ⟨x2,H2,I2,r2,hT,vy,hσ,q2⟩=>?_);refine Ju (Bj I2 hc C B hq hT hdf hcl hcy fun f c' pm ct H3 s3 I3 hfo hsz hfH hcf hT3 hk3 hkk=>?_);refine J2 ⟨I3.kIn,?_⟩;have q3:=q2 f c' H3 hcf hT3 hk3;obtain⟨m,hn,hl⟩:=I3.loc;obtain⟨uy,ry,ly⟩:=hl iy y vy hN hσ (.inr (.inl hkd))
 have cl:s3.heap.IsCell cy (some uy):=by
  rcases ly with ⟨z,_⟩ | ⟨_,c,e,ce⟩
  ·have z:X.env.scope.names.lookup y=some .local:=z
   rw[hkd]at z;cases z
  ·rw[hcy]at e;cases e;exact ce
 obtain⟨oc,hoc,hdc⟩:=cl;have e0:=Bi (y:=y) (cy:=cy) I3 hfH ⟨_,hfo⟩ (IQ I2.lt hsz) hcy hfn;have F:=W _ f c' cy vy pm ct e0.mod ⟨k9 hfo (.inr (.inl rfl)),uy,ry,oc,k9 hoc (.inr (.inr rfl)),hdc⟩;have r3:bh ([x1,x2,.ref f]++[]) ([u1,u2,.ref f]++[]):=bh.append (show bh [x1,x2,.ref f] [u1,u2,.ref f] from .cons r1 (.cons r2 (.cons rfl .nil))) .nil
 have hl3:([u1,u2,.ref f]++[]:List Value).length=psw.length:=by rw[<-r3.length];exact F.len _ _ _ _ q3
 refine Ka (JH (F.run X.A X.stack s3 H3 ⟨[u1,u2,.ref f],[]⟩ ([u1,u2,.ref f]++[]) ([x1,x2,.ref f]++[]) Q E hr e0 (hb s3 [u1,u2,.ref f] I3.kIn hl3) r3 q3) fun r s' hq=>?_)
 cases r with
 | error e=>exact hx pins σ H3 s3 e s' I3 hq
 | ok fl =>
  cases fl with
  | ret u=>exact I3.after hq
  | next=>exact False.elim hq
  | brk=>exact False.elim hq
  | cont=>exact False.elim hq
theorem wy {i:Nat}{f:Addr}{fd:FuncData}{ps:List Str}{sp:Sp}{o:Obj}(F:bd X.prog X.w X.K X.mg X.base CX k f fd ps sp)(hr:cu k X.A)(hN:X.N[i]? = some x)(hv:GJ X.env.scope x)(ho:X.base.get? f=some o)(hd:o.data=.func fd)
  (hb:∀ (s:Shared)(us:List Value),us.length=ps.length->BindsTo s fd ⟨us,[]⟩ (ps.zip us)) (hx:d9 CX X E) (ha:PA X (e::es) t)
  (hdb:(x == ("__debug__" : Str))=false:=by decide) (hcd:(x == ("__classdict__" : Str))=false:=by decide) (he:starEach (e::es) X.env=(false,eval e X.env)::starEach es X.env:=by rfl) (hpl:(backTo pos (starEach es X.env)).any (·.1)=false:=by rfl) :
  PE X (.Call (.Name x p) (e::es) [] pos) (fun σ H Q=>σ[i]? = some (some (.ref f))/\t σ H fun vs H1=>sp vs H1 Q E):=by
 intro pins s σ H Q I h;obtain⟨hσ,h⟩:=h;refine JE (bx (BL hN hv hdb hcd pins s σ H (fun v H'=>v=.ref f/\H'=H) I ⟨_,hσ,rfl,rfl⟩) fun u s1 ⟨v,H1,I1,rv,ev,eh⟩=>?_);subst ev eh;obtain rfl:u=Value.ref f:=rv
 have kp:∀ h:Heap,h.get? f=some o->∃ k,(k=Keeper.frame\/k=Keeper.machine\/k=Keeper.boundFrame)/\PySem.W.Looks (model X.prog X.w) h (keeperOf (.ref f)) k:=fun h q=>by
  obtain⟨oc,od,dt,sl⟩:=o;have hd:dt=.func fd:=hd;subst hd;exact⟨.frame,.inl rfl,(PySem.W.Looks.ld (part:=none) q).andThen .now⟩
 rw[he];refine PySem.W.callWith_of (P:=fun h=>h.get? f=some o) (by show ((false||(backTo pos (starEach es X.env)).any (·.1))||false)=false;rw[hpl];rfl) kp (JP ?_);have hA:=ha pos pins s1 σ H1 _ I1 h;rw[he]at hA;refine bx hA fun us s2 ⟨vs,H2,I2,r,q⟩=>⟨(I2.bs _ _ ho).1,?_⟩
 have hl:us.length=ps.length:=by rw[<-r.length];exact F.len _ _ _ _ q
 refine Ka (JH (F.run X.A X.stack s2 H2 ⟨us,[]⟩ us vs Q E hr I2.env0 (hb s2 us hl) r q) fun r s' hq=>?_)
 cases r with
 | error e=>exact hx pins σ H2 s2 e s' I2 hq
 | ok fl =>
  cases fl with
  | ret u=>exact I2.after hq
  | next=>exact False.elim hq
  | brk=>exact False.elim hq
  | cont=>exact False.elim hq
end
theorem d6.okXC {P:Program}{w:World}{K:PySem.W.Frag}{mg:Str->Option Value}{base:Heap}{x qual:Str}{st:Stmt}{f c0:Addr}{fd:FuncData}{N ps:List Str}{k:Nat}{sp:Sp}(F:d6 K x qual st f fd)(S:av N ps (ao st))(hco:fd.code=.ref c0)(len:∀ vs H Q E,sp vs H Q E->vs.length=ps.length)
  (hbody:∀ (A:Around)(outer:List Env)(s:Shared)(H:Hp)(vs:List V)(Q:VK)(E:XK),cu k (A.deeper (envOfC qual (ao st) s.heap.objs.size f (.ref c0)))->sp vs H Q E ->
   ∃ t,vk (pG (fb P w) P w K mg base N qual (ao st) f (.ref c0) A outer s H E) (dz st) t/\t { nx:=fun _ H'=>Q .non H',rt:=Q } (kU N vs) H):bd P w K mg base (fb P w) (k+1) f fd ps sp:=by
 obtain⟨oc,od,kV,doc,pm,an,cdv,ct,osl,rfl,lk,hcd⟩:=F.ex;have e:cdv=.ref c0:=hco;subst e;exact A4 lk hcd S len fun A outer s H vs Q E hr hsp=>hbody A outer s H vs Q E hr hsp
def eY (st:Stmt):Expr:=match dz st with
 | [.Return (some (.Call _ [_,_,l] _ _)) _]=>l
 | _=>.Constant .none 0 ⟨0,0,0,0⟩
def Dd (e:Expr):Arguments:=match e with | .Lambda a _ _ _=>a | _=>{ posonlyargs:=[],args:=[],vararg:=none,kwonlyargs:=[],kw_defaults:=[],kwarg:=none,defaults:=[] }
def De (e:Expr):Expr:=match e with | .Lambda _ b _ _=>b | _=>e
def Df (e:Expr):Scope:=match e with | .Lambda _ _ s _=>s | _=>{ kind:=.function,names:=[],isGenerator:=false,isCoroutine:=false }
def G8 (e:Expr):Pos:=match e with | .Lambda _ _ _ p=>p | _=>⟨0,0,0,0⟩
end L2
namespace Wz
open PySem L2
def jX (lk:bO->List (Int×Int))(g:Int)(i:Nat)(d:aD)(st:bO)(W:List (Int×Int)):List (Int×Int) :=
 let W1:=if d=.come g then [] else W
 if (look st.worn g).isSome=true/\(W1=[]\/(W1.getLast?.map (·.2))≠look (lk st) g) then W1++[((i:Int)+1,(look (lk st) g).getD 0)] else W1
def jY (lk:bO->List (Int×Int))(g:Int):Nat->bO->List aD->List (Int×Int)->List (Int×Int)
 | _,_,[],W=>W
 | i,st,d::ds,W=>jY lk g (i+1) (a7 st d) ds (jX lk g i d (a7 st d) W)
theorem yt {lk:bO->List (Int×Int)}{g:Int}{i:Nat}{st:bO}{es:List aD}{d:aD}{W:List (Int×Int)}(h:es[i]? = some d):jY lk g i st (es.drop i) W=jY lk g (i+1) (a7 st d) (es.drop (i+1)) (jX lk g i d (a7 st d) W):=by
 obtain⟨hl,e⟩:=List.getElem?_eq_some_iff.mp h;rw[JW hl,e];rfl
inductive Cd (c:HX) (c1:Addr) (qual:Str) (lk:bO->List (Int×Int)) (g:Int) (vs:List V) (H:Hp) (Q:VK) (E_:XK):Prop
 | mk (p:Addr) (A:HA) (st:bO) (m:Int) (h_0:vs=[.ref p]) (h_1:az c.C H p A st) (h_2:bK g) (h_3:kB H c1 qual) (h_4:look (lk st) g=some m) (h_5:Q (.int m) H):Cd c c1 qual lk g vs H Q E_
def AK (c:HX)(lk:bO->List (Int×Int))(H:Hp)(p:Addr)(A:HA)(es:List aD)(L:List Int)(g:Int):Prop:=az c.C H p A (aJ es)/\cU es/\es.length<=200/\L.length<=100/\(∀ d∈es,∀ g∈names d,g∈L/\bK g)/\bK g
inductive vd (c:HX) (lk:bO->List (Int×Int)) (qual:Str) (fl c1:Addr) (vy:V) (vs:List V) (H:Hp) (Q:VK) (E:XK):Prop
 | mk (p:Addr) (A:HA) (es:List aD) (L:List Int) (g:Int) (h_0:vy=.int g) (h_1:vs=[.ref p,.int g,.ref fl]) (h_2:AK c lk H p A es L g) (h_3:kB H c1 qual) (h_4:if (look (aJ es).worn g).isSome=true then ∀ (l:Addr)(H':Hp),H l=none->aA H H'->aT H' l (jY lk g 0 ⟨[],[],[],[]⟩ es [])->Q (.ref l) H' else fV c E H (.noguest g)):vd c lk qual fl c1 vy vs H Q E
def kX (P:Addr)(H H':Hp):Prop:=∀ b o,H b=some o->b≠P->H' b=some o
inductive qe (c:HX) (lk:bO->List (Int×Int)) (P:Addr) (pos:Pos) (qual:Str) (vs:List V) (H:Hp) (Q:VK) (E:XK):Prop
 | mk (p:Addr) (A:HA) (es:List aD) (L:List Int) (g:Int) (h_0:vs=[.ref p,.int g]) (h_1:AK c lk H p A es L g) (h_2:fW H P pos qual) (h_3:if (look (aJ es).worn g).isSome=true then ∀ (l:Addr)(H':Hp),H l=none->kX P H H'->fW H' P pos qual->aT H' l (jY lk g 0 ⟨[],[],[],[]⟩ es [])->Q (.ref l) H'
  else ∀ (dx:Addr)(H':Hp),kX P H H'->fW H' P pos qual->H' dx=some (.xd [("guest",.int g)])->E (.ref c.cN) (some dx) H'):qe c lk P pos qual vs H Q E
theorem Fi {P:Addr->Hp->Prop}{G:Prop}(C:Addr->Hp->Prop)(main:(∀ q HH,C q HH->P q HH)->G)(key:∀ q HH,C q HH->P q HH):G:=main key
theorem kX.none {P:Addr}{H H':Hp}{pos:Pos}{qual:Str}{l:Addr}(b:kX P H H')(t:fW H' P pos qual)(h:H' l=none):H l=none:=by
 cases e:H l with
 | none=>rfl
 | some o =>
  by_cases z:l=P
  ·obtain⟨ps,q⟩:=t.tbl
   rw[<-z,h]at q;cases q
  ·rw[b l o e z]at h;cases h
theorem kX.hall {P C p:Addr}{H H':Hp}{A:HA}{st:bO}{pos:Pos}{qual:Str}(S:az C H p A st)(t:fW H P pos qual)(b:kX P H H'):az C H' p A st:=by
 obtain⟨ps,q⟩:=t.tbl;refine S.kept (fp:=[P]) (fun y o e n=>b y o e (fun z=>n (by rw[z];exact IB.mpr rfl))) (fun z=>?_) (fun y hy z=>?_) (fun y xs e z=>?_)
 ·have ob:=S.ob
  rw[IB.mp z,q]at ob;cases ob
 ·have mu:=S.mu y hy
  rw[IB.mp z]at mu;rcases mu with ⟨k,e⟩ | ⟨k,e⟩ | ⟨k,e⟩<;>rw[q]at e<;>cases e
 ·rw[IB.mp z,q]at e;cases e
theorem kX.same {P:Addr}{H H1 H2:Hp}(b:kX P H H1)(s:aA H1 H2):kX P H H2:=fun x o e n=>s _ _ (b x o e n)
theorem uw {st:bO}{g:Int}(G:d8 st)(h:(look st.worn g).isSome=true):(look st.hold g).isSome=true:=by
 cases e:look st.hold g with
 | some x=>rfl
 | none =>
  exfalso
  have PW:=wC G
  have nd:(g::(ay st.worn).map (wr st.worn)).Nodup:=by
   rw[I0];refine⟨fun z=>?_,?_⟩
   ·obtain⟨x,hx,ex⟩:=Je.mp z
    have:=my hx;rw[ex]at this;rw[(G.wh x g).mp this]at e;cases e
   ·refine List.Pairwise.map _ ?_ PW.nd
    exact fun a b ne q=>ne (PW.inj _ _ q)
  have sub:∀ y∈g::(ay st.worn).map (wr st.worn),y∈ay st.worn:=fun y hy=>by
   rcases IE.mp hy with z | z
   ·rw[z];exact cE.mp h
   ·obtain⟨x,hx,ex⟩:=Je.mp z
    rw[<-ex];exact PW.cl x hx
  have:=dB nd sub;simp at this;omega
def jo (W:List (Int×Int)):Option Int:=W.getLast?.map (·.2)
theorem tK (W:List (Int×Int))(p:Int×Int):jo (W++[p])=some p.2:=by unfold jo;rw[List.getLast?_concat];rfl
def dh (g:Int)(i:Nat)(d:aD)(W:List (Int×Int)):List (Int×Int) :=
 if d=.come g then [((i:Int)+1,g)] else if d=.go g then [] else match d with
 | .exch a b=>if jo W=some a then W++[((i:Int)+1,b)] else if jo W=some b then W++[((i:Int)+1,a)] else W
 | _=>W
def pH (g:Int):Nat->List aD->List (Int×Int)->List (Int×Int)
 | _,[],W=>W
 | i,d::ds,W=>pH g (i+1) ds (dh g i d W)
def qj:bO->List aD->Prop
 | _,[]=>True
 | st,d::ds=>aK st d=.done/\(∀ g∈names d,bK g)/\qj (a7 st d) ds
theorem o6:∀ (ds es:List aD),cU (es++ds)->(∀ d∈ds,∀ g∈names d,bK g)->qj (aJ es) ds
 | [],es,_,_=>trivial
 | d::ds,es,h,sm=>by
  have hj:aK (aJ es) d=.done:=by
   have:=h es.length d (by simp);rw[List.take_append_of_le_length (Iv _),Ji]at this;exact this
  refine⟨hj,sm d IJ,?_⟩;rw[eW hj];exact o6 ds (es++[d]) (by simpa using h) fun e he=>sm e (Iz _ he)
def xj (g:Int)(st:bO)(W D:List (Int×Int)):Prop:=((look st.worn g).isSome=true->W=D/\jo D=look st.hold g)/\((look st.worn g).isSome=false->D=[])
theorem wG {g:Int}{i:Nat}{d:aD}{st st':bO}{W D:List (Int×Int)}(G:d8 st)(R:xj g st W D)(hc:¬ d=.come g)(hw:look st'.worn g=look st.worn g)(hh:look st'.hold g=look st.hold g)(hd:dh g i d D=D):xj g st' (jX (·.hold) g i d st' W) (dh g i d D):=by
 unfold xj;rw[hw,hh,hd];unfold jX;dsimp only;rw[Ip hc,hw,hh];refine⟨fun h=>?_,R.2⟩;obtain⟨e1,e2⟩:=R.1 h;refine⟨?_,e2⟩;rw[Ip,e1];rintro⟨_,z | z⟩
 ·rw[e1]at z
  have:=uw G h;rw[<-e2,z]at this;cases this
 ·exact z (by rw[e1];exact e2)
theorem B0 {g:Int}{i:Nat}{d:aD}{st:bO}{W D:List (Int×Int)}(G:d8 st)(hj:aK st d=.done)(R:xj g st W D):xj g (a7 st d) (jX (·.hold) g i d (a7 st d) W) (dh g i d D):=by
 have en:a7 st d=after st d:=by unfold a7;rw[Iq hj]
 rw[en]
 cases d with
 | come h =>
  by_cases e:h=g
  ·subst e
   have w1:look (after st (.come h)).worn h=some h:=by show look (put st.worn h h) h=_;rw[bR,Iq rfl]
   have h1:look (after st (.come h)).hold h=some h:=by show look (put st.hold h h) h=_;rw[bR,Iq rfl]
   have e1:jX (·.hold) h i (.come h) (after st (.come h)) W=[((i:Int)+1,h)]:=by
    unfold jX;dsimp only;rw[Iq rfl,w1,h1,Iq ⟨rfl,.inl rfl⟩];rfl
   have e2:dh h i (.come h) D=[((i:Int)+1,h)]:=by unfold dh;rw[Iq rfl]
   rw[e1,e2];refine⟨fun _=>⟨rfl,?_⟩,fun z=>?_⟩
   ·rw[h1];rfl
   ·rw[w1]at z;cases z
  ·have ne:¬ aD.come h=.come g:=fun z=>e (by injection z)
   have w1:look (after st (.come h)).worn g=look st.worn g:=by show look (put st.worn h h) g=_;rw[bR,Ip (fun z=>e z.symm)]
   have h1:look (after st (.come h)).hold g=look st.hold g:=by show look (put st.hold h h) g=_;rw[bR,Ip (fun z=>e z.symm)]
   exact wG G R ne w1 h1 (by unfold dh;rw[Ip ne,Ip (fun z=>by cases z)])
 | go h =>
  have nc:¬ aD.go h=.come g:=fun z=>by cases z
  by_cases e:h=g
  ·subst e
   have w1:look (after st (.go h)).worn h=none:=by show look (cB st.worn h) h=_;rw[dZ,Iq rfl]
   refine⟨fun z=>(by rw[w1]at z;cases z),fun _=>?_⟩;unfold dh;rw[Ip nc,Iq rfl]
  ·have ne:¬ aD.go h=.go g:=fun z=>e (by injection z)
   have w1:look (after st (.go h)).worn g=look st.worn g:=by show look (cB st.worn h) g=_;rw[dZ,Ip (fun z=>e z.symm)]
   have h1:look (after st (.go h)).hold g=look st.hold g:=by show look (cB st.hold h) g=_;rw[dZ,Ip (fun z=>e z.symm)]
   exact wG G R nc w1 h1 (by unfold dh;rw[Ip nc,Ip ne])
 | exch a b =>
  have nc:¬ aD.exch a b=.come g:=fun z=>by cases z
  have ng:¬ aD.exch a b=.go g:=fun z=>by cases z
  have wk:=zP hj g;rw[en]at wk
  have ds:dh g i (.exch a b) D=if jo D=some a then D++[((i:Int)+1,b)] else if jo D=some b then D++[((i:Int)+1,a)] else D:=by unfold dh;rw[Ip nc,Ip ng]
  have ws:jX (·.hold) g i (.exch a b) (after st (.exch a b)) W=if (look (after st (.exch a b)).worn g).isSome=true/\(W=[]\/jo W≠look (after st (.exch a b)).hold g) then W++[((i:Int)+1,(look (after st (.exch a b)).hold g).getD 0)] else W:=by unfold jX;dsimp only;rw[Ip nc];rfl
  cases e1:look st.worn a with
  | none=>simp only[aK,e1]at hj;cases hj
  | some x =>
  cases e2:look st.worn b with
  | none=>simp only[aK,e1,e2]at hj;cases hj
  | some y =>
  have ab:a≠b:=fun z=>by simp only[aK,e1,e2]at hj;rw[Iq z]at hj;cases hj
  have wa:wr st.worn a=x:=by unfold wr;rw[e1];rfl
  have wb:wr st.worn b=y:=by unfold wr;rw[e2];rfl
  have ha:=(G.wh a x).mp e1;have hb:=(G.wh b y).mp e2
  have hh:look (after st (.exch a b)).hold g=if g=x then some b else if g=y then some a else look st.hold g:=by
   show look (put (put st.hold (wr st.worn b) a) (wr st.worn a) b) g=_
   rw[wa,wb,bR,bR]
  cases hin:(look st.worn g).isSome with
  | false =>
   have D0:=R.2 hin;rw[hin]at wk;refine⟨fun z=>(by rw[wk]at z;cases z),fun _=>?_⟩;rw[ds,D0];rfl
  | true =>
   obtain⟨WD,lD⟩:=R.1 hin;obtain⟨h0,eh⟩:=Jm.mp (uw G hin);have w0:=(G.wh h0 g).mpr eh;rw[hin]at wk;subst WD
   have Wne:W≠[]:=fun z=>by rw[z,eh]at lD;cases lD
   refine⟨fun _=>?_,fun z=>by rw[wk]at z;cases z⟩;rw[ws,ds,wk,hh,lD,eh]
   by_cases gx:g=x
   ·have h0a:h0=a:=by rw[gx,ha]at eh;injection eh with q;exact q.symm
    rw[Iq gx,Iq ⟨rfl,.inr (by rw[h0a];exact fun q=>ab (by injection q))⟩,Iq (by rw[h0a])];exact⟨rfl,tK _ _⟩
   ·have n1:h0≠a:=fun q=>gx (by rw[q,e1]at w0;injection w0 with q;exact q.symm)
    rw[Ip gx,Ip (show ¬ some h0=some a from fun q=>n1 (by injection q))]
    by_cases gy:g=y
    ·have h0b:h0=b:=by rw[gy,hb]at eh;injection eh with q;exact q.symm
     rw[Iq gy,Iq ⟨rfl,.inr (by rw[h0b];exact fun q=>ab (by injection q with q;exact q.symm))⟩,Iq (by rw[h0b])];exact⟨rfl,tK _ _⟩
    ·have n2:h0≠b:=fun q=>gy (by rw[q,e2]at w0;injection w0 with q;exact q.symm)
     rw[Ip gy,Ip (show ¬ some h0=some b from fun q=>n2 (by injection q)),Ip]
     ·exact⟨rfl,lD.trans eh⟩
     ·rintro⟨_,z | z⟩
      ·exact Wne z
      ·exact z rfl
theorem zg {g:Int}:∀ (ds:List aD)(i:Nat)(st:bO)(W D:List (Int×Int)),d8 st->qj st ds->xj g st W D->xj g (ds.foldl after st) (jY (·.hold) g i st ds W) (pH g i ds D)
 | [],_,_,_,_,_,_,R=>R
 | d::ds,i,st,W,D,G,h,R=>by
  obtain⟨hj,sm,h⟩:=h
  have en:a7 st d=after st d:=by unfold a7;rw[Iq hj]
  have:=zg ds (i+1) (a7 st d) _ _ (fR G sm) h (B0 (i:=i) G hj R);rw[KF,<-en];exact this
theorem Cp {g:Int}{es:List aD}(hd:cU es)(sm:∀ d∈es,∀ g∈names d,bK g)(h:(look (aJ es).worn g).isSome=true):jY (·.hold) g 0 ⟨[],[],[],[]⟩ es []=pH g 0 es []:=by
 have R:=zg (g:=g) es 0 ⟨[],[],[],[]⟩ [] [] fZ (o6 es [] hd sm) ⟨fun z=>(by cases z),fun _=>rfl⟩;exact (R.1 h).1
theorem B9 {H:Hp}{l:Addr}{W:List (Int×Int)}(r:aT H l W)(h:W≠[]):∃ (xs:List V)(al:Addr)(la:Int×Int),H l=some (.lst xs)/\xs.length=W.length/\rZ xs (-1)=some (.ref al)/\H al=some (.tup [.int la.1,.int la.2])/\jo W=some la.2:=by
 obtain⟨as,hl,hp⟩:=r;have wl:=Ix hp;have hlen:0<W.length:=List.length_pos_iff.mpr h
 obtain⟨a0,b0,e⟩:∃ a0 b0,as=a0++[b0]:=by
  rcases List.eq_nil_or_concat as with z | ⟨a0,b0,z⟩
  ·rw[z]at wl;simp at wl;omega
  ·exact⟨a0,b0,by rw[z,List.concat_eq_append]⟩
 have hb:as[a0.length]? = some b0:=by rw[e,List.getElem?_append_right (Iv _),KR];rfl
 obtain⟨la,hla,hA⟩:=paired_get hp hb
 have la2:W.getLast? = some la:=by
  rw[List.getLast?_eq_getElem?,show W.length-1=a0.length by rw[<-wl,e];simp];exact hla
 refine⟨_,b0,la,hl,by rw[Ir,wl],?_,hA,by unfold jo;rw[la2];rfl⟩;rw[e,Ja];exact vw _ _
theorem zM {g:Int}{i:Nat}{es:List aD}{d:aD}{W:List (Int×Int)}(h:es[i]? = some d):pH g i (es.drop i) W=pH g (i+1) (es.drop (i+1)) (dh g i d W):=by
 obtain⟨hl,e⟩:=List.getElem?_eq_some_iff.mp h;rw[JW hl,e];rfl
inductive va (vs:List V) (H:Hp) (Q:VK) (E_:XK):Prop
 | mk (ls:Addr) (es:List aD) (g:Int) (h_0:vs=[.ref ls,.int g]) (h_1:aU H ls es) (h_2:es.length<=200) (h_3:∀ (l:Addr)(H':Hp),H l=none->aA H H'->aT H' l (pH g 0 es [])->Q (.ref l) H'):va vs H Q E_
theorem vE {b:Bool}{d e:aD}(h:b=true↔wY (bz d)=wY (bz e)):b=decide (d=e):=by
 have e1:b=true↔d=e:=by
  rw[h,rV];exact⟨fun z=>tz z,fun z=>by rw[z]⟩
 cases b with
 | true=>exact (IG (e1.mp rfl)).symm
 | false=>exact (IM fun z=>by have:=e1.mpr z;cases this).symm
theorem DC {H:Hp}{t l:Addr}{a b:Int}(ht:H t=none)(hl:upd H t (.tup [.int a,.int b]) l=none):aT (upd (upd H t (.tup [.int a,.int b])) l (.lst [.ref t])) l [(a,b)]:=⟨[t],af,.cons ((ai hl) _ _ af) .nil⟩
theorem D5:decide (V.str "come" = V.str "exchange")=false:=IM fun z=>absurd (V.str.inj z) (by decide +kernel)
theorem D6:decide (V.str "go" = V.str "exchange")=false:=IM fun z=>absurd (V.str.inj z) (by decide +kernel)
inductive rO (K:PySem.W.Frag) (P0:Addr) (vs:List V) (H:Hp) (Q:VK) (E_:XK):Prop
 | mk (a:Addr) (ns:List Int) (h_0:vs=[.ref a]) (h_1:bF K H a (ns.map V.int)) (h_2:ns.length<=63) (h_3:H P0=some (.tbl #[])) (h_4:∀ H',Q (.bl true) H'):rO K P0 vs H Q E_
theorem kX.get {P b:Addr}{H H':Hp}{pos:Pos}{qual:Str}{o:HO}(k:kX P H H')(t:fW H P pos qual)(e:H b=some o)(n:∀ ps,o≠.tbl ps):H' b=some o:=by
 obtain⟨ps,q⟩:=t.tbl
 exact k b o e fun z=>by rw[z,q]at e;injection e with e;exact n ps e.symm
theorem kX.deeds {P l:Addr}{H H':Hp}{pos:Pos}{qual:Str}{ds:List aD}(k:kX P H H')(t:fW H P pos qual)(d:aU H l ds):aU H' l ds:=by
 obtain⟨as,h,p⟩:=d;refine⟨as,k.get t h (fun ps z=>by cases z),Paired.mapP p fun a x e=>?_⟩;obtain⟨xs,ex⟩:=cz x;rw[ex]at e ⊢;exact k.get t e (fun ps z=>by cases z)
theorem kX.refl {P:Addr}{H:Hp}:kX P H H:=fun _ _ e _=>e
theorem kX.trans {P:Addr}{H H1 H2:Hp}(a:kX P H H1)(b:kX P H1 H2):kX P H H2:=fun x o e n=>b x o (a x o e n) n
theorem fW.put {H:Hp}{P l:Addr}{pos:Pos}{qual:Str}{xs:List V}{o:HO}(x:fW H P pos qual)(e:H l=some (.lst xs)):fW (upd H l o) P pos qual:=by
 rcases x with q | ⟨c',q,oc,vs,t,e2,r⟩
 ·exact .inl (by rw[ag (cJ q e (by intro z;cases z))];exact q)
 ·exact .inr ⟨c',by rw[ag (cJ q e (by intro z;cases z))];exact q,oc,vs,t,by rw[ag (cJ e2 e (by intro z;cases z))];exact e2,r⟩
theorem kX.put {P l:Addr}{H H':Hp}{o:HO}(b:kX P H H')(h:H l=Option.none):kX P H (upd H' l o):=fun x u e n=>by rw[ag (ak e h)];exact b x u e n
end Wz
namespace L2
open PySem PySem.Spec PyProof.Rows
theorem tW {K:PySem.W.Frag}{x:Str}{c P:Addr}(h:PySem.W.tabIn K x=some (c,P)):∃ (f:Addr)(oc:Value)(od:Option Addr)(fd:FuncData)(osl:Array (Option Value))(o:Obj)(vs:Array Value),PySem.W.nsIn K mainGlobals x=some (some (.ref f))/\K.lookup f=some ⟨oc,od,.func fd,osl⟩/\fd.code=.ref c/\K.lookup c=some o/\o.data=.fields vs/\vs[11]? = some (.ref P):=by
 unfold PySem.W.tabIn at h;split at h
 ·rename_i f hf
  split at h
  ·rename_i oc od fd osl hfo
   split at h
   ·rename_i c₂ hc
    split at h
    ·rename_i a1 a2 vs a3 hco
     split at h
     ·rename_i P₂ hv
      cases h;exact⟨f,oc,od,fd,osl,_,vs,hf,hfo,hc,hco,rfl,hv⟩
     ·cases h
    ·cases h
   ·cases h
  ·cases h
 ·cases h
theorem Ci {K:PySem.W.Frag}{x qual:Str}{st:Stmt}{c P f:Addr}{fd:FuncData}(h:PySem.W.tabIn K x=some (c,P))(hf:PySem.W.nsIn K mainGlobals x=some (some (.ref f)))(F:d6 K x qual st f fd):fd.code=.ref c:=by
 obtain⟨f',oc,od,fd',osl,o,vs,e1,e2,e3,_⟩:=tW h;rw[hf]at e1;cases e1;obtain⟨oc2,od2,kV,doc,pm,an,cdv,ct,osl2,e4,lk,_⟩:=F.ex;rw[e2]at lk;cases lk;exact e3
theorem AQ {K:PySem.W.Frag}{x:Str}{c P:Addr}{h:Heap}(ht:PySem.W.tabIn K x=some (c,P))(X:K.In h)(C:PySem.W.CodeHd h c P):lN K c P:=by
 obtain⟨f',oc,od,fd',osl,o,vs,e1,e2,e3,e4,e5,e6⟩:=tW ht;obtain⟨o',vs',file,tf,flags,tg,inF,text,tt,g,r⟩:=C;have:=X _ _ e4;rw[g]at this;cases this;exact⟨o,vs',file,tf,flags,tg,inF,text,tt,e4,r⟩
theorem zZ {P:Program}{w:World}{K:PySem.W.Frag}{mg mb:Str->Option Value}{CX:sQ}{k:Nat}{fa a c0 P0:Addr}{fd:FuncData}{x:Str}{sp:Sp}{s₁:Shared}{vs:List Value}{ns:List Int}
  (KX:K.In s₁.heap) (hns:s₁.heap.Ns mainGlobals mg) (hb:s₁.heap.Ns builtinsNs mb) (hbb:∀ x:Str,x≠"__name__"->mb x=bootBuiltins x) (hlim:s₁.heap.NoLimit) (hg:s₁.gens = #[])
  (ha:s₁.heap.get? a=some { cls:=.type "list",data:=.seq vs.toArray }) (hi:IntsAre vs ns) (hl:ns.length<=sizeLine) (hr:cu k callerA)
  (hK:PySem.W.noTabs K=true) (C:PySem.W.CodeHd s₁.heap c0 P0) (hP:s₁.heap.get? P0=some (PySem.W.tabObj #[])) (BM:tZ mg s₁.heap)
  (F:∀ base:Heap,K.In base->base.Ns mainGlobals mg->tZ mg base->bd P w K mg base CX k fa fd [x] sp) (hbind:∀ (s:Shared)(u:Value),BindsTo s fd ⟨[u],[]⟩ [(x,u)])
  (hsp:∀ H:Hp,H P0=some (.tbl #[])->bF K H a (ns.map V.int)->sp [.ref a] H (fun v _=>v=.bl true) fun _ _ _=>False)
  (hCX:∀ H e s',CX [] H s₁ (fun _ _ _=>False) e s'->False) :
  codeAny (model P w) callerA (.call (.ref fa) ⟨[.ref a],[]⟩) (fun r s'=>r=.ok (.ret (.bool true))/\OldK s₁.heap s'.heap/\s'.os=s₁.os/\AllBare s'.gens) s₁:=by
 have rv:=tX hi;have lenV:=hi.length
 have aP:a≠P0:=fun z=>by rw[z,hP]at ha;cases ha
 have Kno:∀ b o,K.lookup b=some o->b≠P0:=fun b o e z=>by
  have e2:=KX b o e;rw[z,hP]at e2;cases e2;have h2:=List.all_eq_true.mp hK (b,PySem.W.tabObj #[]) (PySem.W.mem_of_lookupK e);exact absurd (show false=true from h2) Iw
 obtain⟨H,HP,HA,Hrest⟩:∃ H:Hp,H P0=some (.tbl #[])/\((K.lookup a=none/\H a=some (.frz { cls:=.type "list",data:=.seq vs.toArray } (.lst (ns.map V.int))))\/(∃ o,K.lookup a=some o)/\H a=none)/\∀ b,b≠P0->b≠a->H b=none:=by
  cases hk:K.lookup a with
  | some o=>exact⟨fun b=>if b=P0 then some (.tbl #[]) else none,Iq rfl,.inr ⟨⟨o,rfl⟩,Ip aP⟩,fun b n _=>Ip n⟩
  | none=>exact⟨fun b=>if b=P0 then some (.tbl #[]) else if b=a then some (.frz { cls:=.type "list",data:=.seq vs.toArray } (.lst (ns.map V.int))) else none,Iq rfl,.inl ⟨rfl,by show (if a=P0 then _ else _)=_;rw[Ip aP,Iq rfl]⟩,fun b n1 n2=>by show (if b=P0 then _ else _)=_;rw[Ip n1,Ip n2]⟩
 have hok:iQ P w H s₁.heap:=fun b u e=>by
  by_cases z:b=P0
  ·rw[z,HP]at e;cases e;rw[z];exact hP
  ·by_cases z2:b=a
   ·rw[z2]at e ⊢
    rcases HA with ⟨_,q⟩ | ⟨_,q⟩
    ·rw[q]at e;cases e
     exact⟨ha,by rw[Ir];exact hl,vs,_,rv,ha⟩
    ·rw[q]at e;cases e
   ·rw[Hrest b z z2]at e;cases e
 have hS:bF K H a (ns.map V.int):=by
  rcases HA with ⟨_,q⟩ | ⟨⟨o,q1⟩,q⟩
  ·exact .inl (.inr ⟨_,q⟩)
  ·have e:=KX a o q1
   rw[ha]at e;cases e;exact .inr ⟨_,vs.toArray,_,q1,rfl,rfl,rfl,by rw[IR,lenV];exact hl,by simpa using rv⟩
 have free:∀ {b:Addr}{o:Obj},s₁.heap.get? b=some o->(∀ qs,o.data≠.fields qs)->(∀ qs n,o.data≠.seq qs n)->H b=none:=fun {b o} e n1 n2=>Hrest b (fun z=>by rw[z,hP]at e;cases e;exact n1 _ rfl) (fun z=>by rw[z,ha]at e;cases e;exact n2 _ _ rfl);have nsK:∀ {b:Addr}{m:Str->Option Value},s₁.heap.Ns b m->(uv s₁.heap H).Ns b m:=fun {b m} ⟨o,es,ep,e,d,r⟩=>⟨o,es,ep,qJ e (free e (fun qs z=>by rw[d]at z;cases z) (fun qs n z=>by rw[d]at z;cases z)),d,r⟩
 have hKb:K.In (uv s₁.heap H):=fun b o e=>qJ (KX b o e) (by
  by_cases z:b=a
  ·rcases HA with ⟨q0,_⟩ | ⟨_,q⟩
   ·rw[z,q0]at e;cases e
   ·rw[z];exact q
  ·exact Hrest b (Kno b o e) z)
 have hM:Mod K mg (uv s₁.heap H):=⟨hKb,nsK hns,⟨mb,nsK hb,hbb⟩,let ⟨mc,h1,h2⟩:=hlim;⟨mc,nsK h1,h2⟩⟩;have e0:t6 P w K mg (uv s₁.heap H) callerA [] s₁ H:=⟨rfl,hM,fun b o e=>Dm e,Nat.le_of_eq (zT _ _),trivial,fun b hb=>absurd (show b∈([]:List Addr) from hb) (by simp),hok,.of_eq hg⟩
 have BM2:tZ mg (uv s₁.heap H):=by
  obtain⟨bm,ob,b1,b2,b3,b4,b5,b6⟩:=BM;exact⟨bm,ob,b1,b2,qJ b3 (free b3 (fun qs z=>by rw[b6]at z;cases z) (fun qs n z=>by rw[b6]at z;cases z)),b4,b5,b6⟩
 refine JH ((F _ hKb (nsK hns) BM2).run callerA [] s₁ H ⟨[.ref a],[]⟩ [.ref a] [.ref a] _ _ hr e0 (hbind s₁ (.ref a)) (.cons rfl .nil) (hsp H HP hS)) fun r s' h=>?_
 cases r with
 | error e=>exact (hCX H e s' h).elim
 | ok fl =>
  cases fl with
  | next=>exact False.elim h
  | brk=>exact False.elim h
  | cont=>exact False.elim h
  | ret u =>
   obtain⟨v,H',os,bare,un,hok',r',q⟩:=h;have q':v=.bl true:=q;subst q';obtain rfl:u=Value.bool true:=r'
   have kp:∀ b o,s₁.heap.get? b=some o->b≠P0->s'.heap.get? b=some o:=fun b o e n=>by
    by_cases z:b=a
    ·rcases HA with ⟨_,q1⟩ | ⟨_,q1⟩
     ·have z2:=un.frzs b _ _ (by rw[z];exact q1)
      obtain⟨e2,_⟩:=hok' b _ z2;rw[z,ha]at e;cases e;exact e2
     ·exact un.keep b o e (by rw[z];exact q1) (by intro z;exact absurd (show b∈([]:List Addr) from z) (by simp)) (by simp)
    ·exact un.keep b o e (Hrest b n z) (by intro z;exact absurd (show b∈([]:List Addr) from z) (by simp)) (by simp)
   obtain⟨more,hm⟩:=un.tbls P0 _ HP;have hP':s'.heap.get? P0=some (PySem.W.tabObj (#[]++more)):=hok' P0 _ hm;refine⟨rfl,⟨fun b o e=>?_,fun b o e=>?_⟩,os,bare⟩
   ·by_cases z:b=P0
    ·rw[z]at e ⊢
     have e':=e;rw[hP]at e';cases e';exact .inr (.inl ⟨(C.tab hP).isCodeTable,rfl,#[],more,rfl,hP'⟩)
    ·exact .inl (kp b o e z)
   ·by_cases z:b=P0
    ·exact⟨_,by rw[z];exact hP'⟩
    ·exact⟨o,kp b o e z⟩
theorem walk_ofT {l:PySem.W.OpenLaw}{n k:Nat}{q:Program}{loose:List Str}{XP:(Str->Option Value)->Heap->Prop}{YP:World->Heap->Prop}{d:DefRec}{K:Params->PySem.W.Frag}{CX:World->sQ}{sp:World->Sp}{x nm:Str}{c0 P0:Addr}
  (hn:l.most=some n) (hn2:n<=sizeLine) (hdf:d.params.defaults=[]) (hr:cu k callerA)
  (hY:∀ (w:World)(h:Heap),YP w h->(K w.params).In h)
  (hTY:∀ (w:World)(h:Heap),YP w h->h.get? P0=some (PySem.W.tabObj #[])) (hch:∀ w:World,PySem.W.codeHdIn (K w.params) c0 P0=true) (htab:∀ w:World,PySem.W.tabIn (K w.params) nm=some (c0,P0)) (hnt:∀ w:World,PySem.W.noTabs (K w.params)=true)
  (F:∀ (w:World)(mg:Str->Option Value)(fa:Addr)(h:Heap),(K w.params).In h->h.Ns mainGlobals mg->mg d.name=some (.ref fa)->lN (K w.params) c0 P0->PySem.W.tabIn (K w.params) nm=some (c0,P0) ->
   ∃ fd:FuncData,(∀ (s:Shared)(u:Value),BindsTo s fd ⟨[u],[]⟩ [(x,u)]) /\
    ∀ base:Heap,(K w.params).In base->base.Ns mainGlobals mg->tZ mg base->bd l.prog w (K w.params) mg base (CX w) k fa fd [x] (sp w))
  (hsp:∀ (w:World)(H:Hp)(a:Addr)(ns:List Int),ns.length<=n->H P0=some (.tbl #[])->bF (K w.params) H a (ns.map V.int)->sp w [.ref a] H (fun v _=>v=.bl true) fun _ _ _=>False)
  (hCX:∀ (w:World)(H:Hp)(s:Shared)(e:Value)(s':Shared),CX w [] H s (fun _ _ _=>False) e s'->False) :
  PySem.W.WalkO q loose XP YP l.row.toRowW d [] (fun f vs=>PySem.call f vs):=by
 refine Att.attach_call hn hdf fun w s₀ s₁ mg mb fa o pm cd doc a vs ns G Y ho hd hcd hmg hobj hints hlen hg=>?_;have KX:=hY w _ Y;have CH:=PySem.W.codeHd_of_K KX (hch w);have hP:=hTY w _ Y;obtain⟨fd,hb,hF⟩:=F w mg fa _ KX G.T.g hmg (AQ (htab w) KX CH) (htab w);exact zZ KX G.T.g G.T.b G.T.builtins G.T.nolimit hg hobj hints (Jb hlen hn2) hr (hnt w) CH hP G.T.bmain hF hb (fun H hO hS=>hsp w H a ns hlen hO hS) fun H e s'=>hCX w H s₁ e s'
end L2
namespace Wz
open PySem L2
end Wz
namespace L2
open PySem PySem.Spec PyProof.Rows
end L2
namespace Wz
open PySem L2
end Wz
namespace L2
open PySem PySem.Spec PyProof.Rows
end L2
namespace Wz
open PySem L2
open PySem PySem.SetTable
open PySem PySem.Spec PyProof.Rows L2 PySem.SetTable
section
variable {P:Program}{w:World}{A:Around}{E:Value->Shared->Prop}{s:Shared}{a:Addr}{es:Array (Int×Value)}{ep:Nat}{t:SetTable}{L:List Int}
end
section
variable {P:Program}{w:World}{A:Around}{E:Value->Shared->Prop}{s:Shared}{a d I:Addr}{es:Array (Int×Value)}{ep:Nat}{t:SetTable}{L:List Int}
end
end Wz
set_option maxRecDepth 1000000
set_option maxHeartbeats 8000000
namespace Wz
open PySem PySem.Spec PyProof.Rows L2 PySem.SetTable
section
variable {P:Program}{w:World}{A:Around}{E:Value->Shared->Prop}{s:Shared}
end
section
variable {X:Cx}
end
open PySem L2
section
variable {P:Program}{w:World}{A:Around}{E:Value->Shared->Prop}{s:Shared}{a b:Addr}{es:Array (Int×Value)}{ep:Nat}{t:SetTable}{ps:List (Int×Int)}{p:Int×Int}
end
section
variable {P:Program}{w:World}{A:Around}{E:Value->Shared->Prop}{s:Shared}{a b:Addr}{es:Array (Int×Value)}{ep:Nat}{t:SetTable}{ps:List (Int×Int)}{p:Int×Int}
end
section
variable {X:Cx}
end
end Wz
namespace L2
open PySem PySem.Spec PyProof.Rows
end L2
namespace Wz
open PySem L2
end Wz
set_option maxRecDepth 1000000
set_option maxHeartbeats 8000000
namespace Wz
open PySem PySem.Spec PyProof.Rows L2 PySem.SetTable
section
variable {P:Program}{w:World}{A:Around}{E:Value->Shared->Prop}{s:Shared}
end
section
variable {X:Cx}
end
open PySem L2
end Wz
namespace Tm
open PySem PyProof.Rows
def el (xs:Array Keyed)(i:Nat):Keyed:=xs.getD i (.none,.none)
theorem ff {xs:Array Keyed}{i:Nat}(h:i<xs.size):xs[i]? = some (el xs i):=by unfold el;simp[Array.getD,h]
theorem AX {xs:Array Keyed}{i:Nat}(h:i<xs.size):el xs i∈xs:=by
 have:=ff h;exact Array.mem_of_getElem? this
theorem fm {xs ys:Array Keyed}{i j:Nat}(h:xs[i]? = ys[j]?):el xs i=el ys j:=by
 unfold el;rw[Array.getD_eq_getD_getElem?,Array.getD_eq_getD_getElem?,h]
structure Ord (P:Program)(w:World)(A:Around)(s:Shared)(κ:SortKind)(a0:Array Keyed)(lt:Keyed->Keyed->Bool):Prop where
 cmp:∀ {x y:Keyed}{E:Value->Shared->Prop}{Q:Bool->Prop},x∈a0->y∈a0->Q (lt x y)->wpAny (model P w) A (keyLt' κ x.1 y.1) (fun b s'=>s'=s/\Q b) E s
 irr:∀ x,lt x x=false
 tr:∀ x y z,lt x y=true->lt y z=true->lt x z=true
 tot:∀ x y,x∈a0->y∈a0->x≠y->lt x y=true\/lt y x=true
 nd:a0.toList.Nodup
structure du (κ:SortKind)(a0:Array Keyed)(st:SortSt):Prop where
 pm:(arrOf st).Perm a0
 fl:failedOf st=none
 kd:kindOf st=κ
section
variable {P:Program}{w:World}{A:Around}{E:Value->Shared->Prop}{s:Shared}{κ:SortKind}{a0:Array Keyed}{lt:Keyed->Keyed->Bool}{st:SortSt}
theorem du.sz (B:du κ a0 st):(arrOf st).size=a0.size:=B.pm.size_eq
theorem du.mem (B:du κ a0 st){i:Nat}(h:i<a0.size):el (arrOf st) i∈a0:=B.pm.mem_iff.mp (AX (by rw[B.sz];exact h))
theorem Gc {xs:Array Keyed}(nd:xs.toList.Nodup){i j:Nat}(hi:i<xs.size)(hj:j<xs.size)(h:i≠j):el xs i≠el xs j:=fun e=>by
 have h1:xs.toList[i]? = some (el xs i):=by rw[Array.getElem?_toList];exact ff hi
 have h2:xs.toList[j]? = some (el xs i):=by rw[Array.getElem?_toList,e];exact ff hj
 exact h ((List.getElem?_inj (by simpa using hi) nd).mp (h1.trans h2.symm))
theorem du.ne (O:Ord P w A s κ a0 lt)(B:du κ a0 st){i j:Nat}(hi:i<a0.size)(hj:j<a0.size)(h:i≠j):el (arrOf st) i≠el (arrOf st) j :=
 Gc (B.pm.toList.nodup_iff.mpr O.nd) (by rw[B.sz];exact hi) (by rw[B.sz];exact hj) h
theorem Ord.not (O:Ord P w A s κ a0 lt){x y:Keyed}(hx:x∈a0)(hy:y∈a0)(n:x≠y)(h:lt x y=false):lt y x=true:=by
 rcases O.tot x y hx hy n with z | z
 ·rw[h]at z;cases z
 ·exact z
theorem Ord.asym (O:Ord P w A s κ a0 lt){x y:Keyed}(h:lt x y=true):lt y x=false:=by
 cases e:lt y x with
 | false=>rfl
 | true=>have:=O.tr _ _ _ h e;rw[O.irr]at this;cases this
theorem zu (O:Ord P w A s κ a0 lt)(kd:kindOf st=κ){x y:Keyed}(hx:x∈a0)(hy:y∈a0){Q:Option Bool->SortSt->Prop}(h:Q (some (lt x y)) st):wpS (model P w) A E s (lt' x y) Q st:=by
 rw[lt'_eq];refine IK (wpS_get ?_);rw[kd];exact IK (wpS_lift (wpAny_attempt (O.cmp hx hy (II h))))
theorem pz {xs:Array Keyed}{i:Nat}(hi:i<xs.size){Q:Keyed->SortSt->Prop}(h:Q (el xs i) st):wpS (model P w) A E s (elem' xs i) Q st:=by
 rw[elem'_eq,ff hi];exact II h
theorem wZ (O:Ord P w A s κ a0 lt)(B:du κ a0 st){i j:Nat}(hi:i<a0.size)(hj:j<a0.size){Q:Option Bool->SortSt->Prop}(h:Q (some (lt (el (arrOf st) i) (el (arrOf st) j))) st):wpS (model P w) A E s (ltAt' i j) Q st:=by
 rw[ltAt'_eq];refine IK (wpS_get ?_);exact IK (pz (by rw[B.sz];exact hi) (IK (pz (by rw[B.sz];exact hj) (zu O B.kd (B.mem hi) (B.mem hj) h))))
def Up (lt:Keyed->Keyed->Bool)(xs:Array Keyed)(lo hi:Nat):Prop:=∀ i j,lo<=i->i<j->j<hi->lt (el xs i) (el xs j)=true
def Dn (lt:Keyed->Keyed->Bool)(xs:Array Keyed)(lo hi:Nat):Prop:=∀ i j,lo<=i->i<j->j<hi->lt (el xs j) (el xs i)=true
def yA (xs ys:Array Keyed)(lo hi:Nat):Prop:=∀ i,i<lo\/hi<=i->el ys i=el xs i
theorem yA.refl (xs:Array Keyed)(lo hi:Nat):yA xs xs lo hi:=fun _ _=>rfl
theorem Up.snoc (O:Ord P w A s κ a0 lt){xs:Array Keyed}{lo n:Nat}(h1:1<=n)(h:Up lt xs lo (lo+n))(z:lt (el xs (lo+n-1)) (el xs (lo+n))=true):Up lt xs lo (lo+(n+1)):=fun i j hi hij hj=>by
 by_cases e:j=lo+n
 ·by_cases e2:i=lo+n-1
  ·rw[e,e2];exact z
  ·rw[e];exact O.tr _ _ _ (h i (lo+n-1) hi (by omega) (by omega)) z
 ·exact h i j hi hij (by omega)
theorem Dn.snoc (O:Ord P w A s κ a0 lt){xs:Array Keyed}{lo n:Nat}(h1:1<=n)(h:Dn lt xs lo (lo+n))(z:lt (el xs (lo+n)) (el xs (lo+n-1))=true):Dn lt xs lo (lo+(n+1)):=fun i j hi hij hj=>by
 by_cases e:j=lo+n
 ·by_cases e2:i=lo+n-1
  ·rw[e,e2];exact z
  ·rw[e];exact O.tr _ _ _ z (h i (lo+n-1) hi (by omega) (by omega))
 ·exact h i j hi hij (by omega)
def AJ (st st':SortSt):Prop:=pendingOf st'=pendingOf st/\gallopOf st'=gallopOf st
theorem zO {xs:Array Keyed}{i j:Nat}(hj:j<=xs.size)(k:Nat):el (mirror xs i j ((j-i)/2)) k=if i<=k/\k<j then el xs (i+j-1-k) else el xs k:=by
 have e:=getElem?_mirror_all (i:=i) hj k
 by_cases h1:i<=k/\k<j
 ·rw[Iq h1]at e ⊢;exact fm e
 ·rw[Ip h1]at e ⊢;exact fm e
theorem FE (B:du κ a0 st){lo hi:Nat}(h:hi<=a0.size){Q:Unit->SortSt->Prop}(k:∀ st',du κ a0 st'->AJ st st'->(∀ i,el (arrOf st') i=if lo<=i/\i<hi then el (arrOf st) (lo+hi-1-i) else el (arrOf st) i)->Q () st'):wpS (model P w) A E s (reverseSlice' lo hi) Q st:=by
 rw[reverseSlice'_eq];refine wpS_modify (k _ ⟨(mirror_perm _ _ _ _).trans B.pm,B.fl,B.kd⟩ ⟨rfl,rfl⟩ fun i=>?_);exact zO (by rw[B.sz];exact h) i
theorem Cq (O:Ord P w A s κ a0 lt)(B:du κ a0 st){lo a m:Nat}(ha:1<=a)(ham:a<=m)(hs:lo+m<=a0.size)(u:Up lt (arrOf st) lo (lo+a)){Q:Option (Option Nat)×Nat->SortSt->Prop}
  (k:∀ n,a<=n->n<=m->Up lt (arrOf st) lo (lo+n)->(n<m->lt (el (arrOf st) (lo+n)) (el (arrOf st) (lo+n-1))=true)->Q (none,n) st) :
  wpS (model P w) A E s (forIn [a:m] ((none,a):Option (Option Nat)×Nat) fun x __s=>do
   let __x <-ltAt' (lo+__s.snd) (lo+__s.snd-1)
   match __x with
    | some smaller=>if smaller=true then pure (ForInStep.done (none,__s.snd)) else pure (ForInStep.yield (none,__s.snd+1))
    | x=>pure (ForInStep.done (some none,__s.snd))) Q st:=by
 refine Jy (I:=fun x c st'=>st'=st/\c=(none,x)/\Up lt (arrOf st) lo (lo+x)) ?step ?fin ⟨rfl,rfl,u⟩
 case fin =>
  rintro c st' ⟨rfl,rfl,h3⟩;rw[show max a m=m by omega]at h3 ⊢;exact k m ham (Iv _) h3 (fun z=>by omega)
 case step =>
  rintro x c st' hx1 hx2 ⟨rfl,rfl,h3⟩;dsimp only;refine IK (wZ O B (by omega) (by omega) ?_)
  cases e:lt (el (arrOf st') (lo+x)) (el (arrOf st') (lo+x-1)) with
  | true=>exact II (k x hx1 (by omega) h3 fun _=>e)
  | false=>exact II ⟨rfl,rfl,h3.snoc O (by omega) (O.not (B.mem (by omega)) (B.mem (by omega)) (B.ne O (by omega) (by omega) (by omega)) e)⟩
theorem Cs (O:Ord P w A s κ a0 lt)(B:du κ a0 st){lo m:Nat}(hm:1<=m)(hs:lo+m<=a0.size){Q:Option Nat->SortSt->Prop}
  (k:∀ n st',du κ a0 st'->AJ st st'->1<=n->n<=m->Up lt (arrOf st') lo (lo+n)->yA (arrOf st) (arrOf st') lo (lo+m)->Q (some n) st'):wpS (model P w) A E s (countRun' lo m) Q st:=by
 rw[countRun'_eq];dsimp only;refine IK (Cq O B (Iv 1) hm hs (fun i j h1 h2 h3=>by omega) fun n n1 n2 u1 d1=>?_);dsimp only
 by_cases e1:n=m
 ·rw[Iq (by simpa using e1)]
  exact II (k n st B ⟨rfl,rfl⟩ n1 n2 u1 (yA.refl _ _ _))
 rw[Ip (by simpa using e1)]
 by_cases e2:n>1
 ·rw[Iq e2]
  refine IK (wZ O B (by omega) (by omega) ?_);rw[u1 lo (lo+n-1) (Iv _) (by omega) (by omega)];exact II (k n st B ⟨rfl,rfl⟩ n1 n2 u1 (yA.refl _ _ _))
 rw[Ip e2]
 have en:n=1:=by omega
 subst en;refine IK (wpS_lift (KU ⟨rfl,?_⟩));have d2:=d1 (by omega);refine IK (JY (Jy (I:=fun x c st'=>st'=st/\c=(none,x,0)/\Dn lt (arrOf st) lo (lo+x)) (Q:=fun c st'=>st'=st/\∃ n,c=(none,n,0)/\2<=n/\n<=m/\Dn lt (arrOf st) lo (lo+n)) ?step ?fin ⟨rfl,rfl,?ini⟩) ?post)
 case ini =>
  intro i j h1 h2 h3
  have ei:i=lo:=by omega
  have ej:j=lo+1:=by omega
  rw[ei,ej];exact d2
 case fin =>
  rintro c st' ⟨rfl,rfl,h3⟩;exact⟨rfl,_,rfl,by omega,by omega,h3⟩
 case step =>
  rintro x c st' hx1 hx2 ⟨rfl,rfl,h3⟩;dsimp only;refine IK (wZ O B (by omega) (by omega) ?_)
  cases e:lt (el (arrOf st') (lo+x)) (el (arrOf st') (lo+x-1)) with
  | true=>exact II ⟨rfl,rfl,h3.snoc O (by omega) e⟩
  | false =>
   refine IK (wZ O B (by omega) (by omega) ?_);rw[O.not (B.mem (by omega)) (B.mem (by omega)) (B.ne O (by omega) (by omega) (by omega)) e];exact II ⟨rfl,x,rfl,hx1,by omega,h3⟩
 case post =>
  rintro c st' ⟨rfl,n,rfl,n2,n3,d3⟩;dsimp only;rw[Ip (by omega)];refine IK (FE B (by omega) fun st2 B2 R2 e2=>?_)
  have u2:Up lt (arrOf st2) lo (lo+n):=fun i j h1 h2 h3=>by
   rw[e2,e2,Iq (by omega),Iq (by omega)];exact d3 _ _ (by omega) (by omega) (by omega)
  refine IK (Cq O B2 (by omega) n3 hs u2 fun q q1 q2 u3 _=>?_);refine II (k q st2 B2 R2 (by omega) q2 u3 fun i hi=>?_);rw[e2,Ip (by omega)]
theorem zN {xs:Array Keyed}{src d:Nat}(hs:src<xs.size)(hd:d<=src)(k:Nat):el (bubble xs src d) k=if k=src-d then el xs src else if src-d<k/\k<=src then el xs (k-1) else el xs k:=by
 have e:=getElem?_bubble hs d hd k
 by_cases h1:k=src-d
 ·rw[Iq h1]at e ⊢;exact fm e
 ·rw[Ip h1]at e ⊢
  by_cases h2:src-d<k/\k<=src
  ·rw[Iq h2]at e ⊢;exact fm e
  ·rw[Ip h2]at e ⊢;exact fm e
theorem FD (O:Ord P w A s κ a0 lt)(B:du κ a0 st){lo n ok:Nat}(h1:1<=ok)(hok:ok<=n)(hs:lo+n<=a0.size)(u:Up lt (arrOf st) lo (lo+ok)){Q:Bool->SortSt->Prop}
  (k:∀ st',du κ a0 st'->AJ st st'->Up lt (arrOf st') lo (lo+n)->yA (arrOf st) (arrOf st') lo (lo+n)->Q true st'):wpS (model P w) A E s (binarySort' lo n ok) Q st:=by
 rw[binarySort'_eq];refine IK (JY (Jy (I:=fun x c st'=>c=(none,())/\du κ a0 st'/\AJ st st'/\Up lt (arrOf st') lo (lo+min x n)/\yA (arrOf st) (arrOf st') lo (lo+n)) (Q:=fun c st'=>c=(none,())/\du κ a0 st'/\AJ st st'/\Up lt (arrOf st') lo (lo+n)/\yA (arrOf st) (arrOf st') lo (lo+n)) ?step ?fin ⟨rfl,B,⟨rfl,rfl⟩,by rw[show min (max ok 1) n=ok by omega];exact u,yA.refl _ _ _⟩) ?post)
 case post =>
  rintro c st' ⟨rfl,B',R',u',o'⟩;exact II (k st' B' R' u' o')
 case fin =>
  rintro c st' ⟨hc,B',R',u',o'⟩;exact⟨hc,B',R',by rw[show min (max (max ok 1) n) n=n by omega]at u';exact u',o'⟩
 case step =>
  rintro x c st1 hx1 hx2 ⟨rfl,B1,R1,u1,o1⟩;rw[show min x n=x by omega]at u1
  refine IK (JY (Jy (I:=fun y c st'=>st'=st1/\∃ l r,c=(none,l,r)/\l<=r/\r<=x/\r-l<=x-y/\(∀ i,i<l->lt (el (arrOf st1) (lo+i)) (el (arrOf st1) (lo+x))=true)/\(∀ i,r<=i->i<x->lt (el (arrOf st1) (lo+x)) (el (arrOf st1) (lo+i))=true))
   (Q:=fun c st'=>st'=st1/\∃ l,c=(none,l,l)/\l<=x/\(∀ i,i<l->lt (el (arrOf st1) (lo+i)) (el (arrOf st1) (lo+x))=true)/\(∀ i,l<=i->i<x->lt (el (arrOf st1) (lo+x)) (el (arrOf st1) (lo+i))=true)) ?istep ?ifin ⟨rfl,0,x,rfl,by omega,by omega,by omega,fun i hi=>by omega,fun i h1 h2=>by omega⟩) ?ipost)
  case ifin =>
   rintro c st' ⟨rfl,l,r,rfl,a1,a2,a3,a4,a5⟩
   have e:l=r:=by omega
   subst e;exact⟨rfl,l,rfl,a2,a4,a5⟩
  case istep =>
   rintro y c st' _ hy ⟨rfl,l,r,rfl,a1,a2,a3,a4,a5⟩;dsimp only
   by_cases g:l>=r
   ·rw[Iq g]
    have e:l=r:=by omega
    subst e;exact II ⟨rfl,l,rfl,a2,a4,a5⟩
   rw[Ip g];refine IK (wZ O B1 (by omega) (by omega) ?_)
   cases e:lt (el (arrOf st') (lo+x)) (el (arrOf st') (lo+(l+r)/2)) with
   | true =>
    simp only[Kx];refine II ⟨rfl,l,(l+r)/2,rfl,by omega,by omega,by omega,a4,fun i i1 i2=>?_⟩
    by_cases z:i=(l+r)/2
    ·rw[z];exact e
    ·exact O.tr _ _ _ e (u1 _ _ (by omega) (by omega) (by omega))
   | false =>
    simp only[JF,J5];have e':=O.not (B1.mem (by omega)) (B1.mem (by omega)) (B1.ne O (by omega) (by omega) (by omega)) e;refine II ⟨rfl,(l+r)/2+1,r,rfl,by omega,by omega,by omega,fun i i1=>?_,a5⟩
    by_cases z:i=(l+r)/2
    ·rw[z];exact e'
    ·exact O.tr _ _ _ (u1 _ _ (by omega) (by omega) (by omega)) e'
  case ipost =>
   rintro c st' ⟨rfl,l,rfl,a2,a4,a5⟩
   show wpS _ _ _ _ (do moveDown' (lo+x) (lo+l);pure (ForInStep.yield (none,()))) _ _
   rw[moveDown'_eq]
   have hks:lo+x<(arrOf st').size:=by rw[B1.sz];omega
   have eb:∀ i,el (bubble (arrOf st') (lo+x) (lo+x-(lo+l))) i=if i=lo+l then el (arrOf st') (lo+x) else if lo+l<i/\i<=lo+x then el (arrOf st') (i-1) else el (arrOf st') i:=fun i=>by
    rw[zN hks (by omega),show lo+x-(lo+x-(lo+l))=lo+l by omega]
   refine IK (wpS_modify (II ⟨rfl,⟨(bubble_perm _ _ _).trans B1.pm,B1.fl,B1.kd⟩,R1,?_,fun i hi=>?_⟩))
   ·rw[show min (x+1) n=x+1 by omega]
    intro i j hi hij hj
    show lt (el (bubble (arrOf st') (lo+x) (lo+x-(lo+l))) i) (el (bubble (arrOf st') (lo+x) (lo+x-(lo+l))) j)=true
    rw[eb,eb]
    by_cases c1:i=lo+l
    ·rw[Iq c1,Ip (by omega),Iq (by omega)]
     have:=a5 (j-1-lo) (by omega) (by omega)
     rwa [show lo+(j-1-lo)=j-1 by omega]at this
    ·rw[Ip c1]
     by_cases c2:j=lo+l
     ·rw[Iq c2,Ip (by omega)]
      have:=a4 (i-lo) (by omega)
      rwa [show lo+(i-lo)=i by omega]at this
     ·rw[Ip c2]
      by_cases c3:lo+l<i/\i<=lo+x
      ·rw[Iq c3,Iq (by omega)];exact u1 _ _ (by omega) (by omega) (by omega)
      ·rw[Ip c3]
       by_cases c4:lo+l<j/\j<=lo+x
       ·rw[Iq c4];exact u1 _ _ (by omega) (by omega) (by omega)
       ·rw[Ip c4];exact u1 _ _ (by omega) (by omega) (by omega)
   ·show el (bubble (arrOf st') (lo+x) (lo+x-(lo+l))) i=_
    rw[eb,Ip (by omega),Ip (by omega)];exact o1 i hi
end
def uo:Bool->Keyed->Array Keyed->Nat->Nat->Nat->StateT SortSt Sem (Option Nat):=sortPriv% PySem.Builtin.gallop
def Bf (lt:Keyed->Keyed->Bool)(left:Bool)(key:Keyed)(xs:Array Keyed)(b i:Nat):Bool:=if left=true then lt (el xs (b+i)) key else !lt key (el xs (b+i))
section
variable {P:Program}{w:World}{A:Around}{E:Value->Shared->Prop}{s:Shared}{κ:SortKind}{a0:Array Keyed}{lt:Keyed->Keyed->Bool}{st:SortSt}
theorem AH (O:Ord P w A s κ a0 lt)(kd:kindOf st=κ){left:Bool}{key:Keyed}{xs:Array Keyed}{b i:Nat}(hk:key∈a0)(hi:b+i<xs.size)(hx:el xs (b+i)∈a0){Q:Option Bool->SortSt->Prop}(h:Q (some (Bf lt left key xs b i)) st) :
  wpS (model P w) A E s (elem' xs (b+i) >>= fun x=>if left=true then lt' x key else lt' key x >>= fun r=>pure (r.map (!·))) Q st:=by
 refine IK (pz hi ?_);unfold Bf at h
 by_cases hl:left=true
 ·rw[Iq hl]at h ⊢
  exact zu O kd hx hk h
 ·rw[Ip hl]at h ⊢
  exact IK (zu O kd hk hx (II h))
theorem pS (O:Ord P w A s κ a0 lt){left:Bool}{key:Keyed}{xs:Array Keyed}{b n i j:Nat}(u:Up lt xs b (b+n))(hij:i<=j)(hj:j<n)(h:Bf lt left key xs b j=true):Bf lt left key xs b i=true:=by
 by_cases e:i=j
 ·rw[e];exact h
 have z:=u (b+i) (b+j) (by omega) (by omega) (by omega);unfold Bf at h ⊢
 by_cases hl:left=true
 ·rw[Iq hl]at h ⊢
  exact O.tr _ _ _ z h
 ·rw[Ip hl]at h ⊢
  cases q:lt key (el xs (b+i)) with
  | false=>rfl
  | true=>rw[O.tr _ _ _ q z]at h;cases h
theorem ug (O:Ord P w A s κ a0 lt){left:Bool}{key:Keyed}{xs:Array Keyed}{b n i j:Nat}(u:Up lt xs b (b+n))(hij:i<=j)(hj:j<n)(h:Bf lt left key xs b i=false):Bf lt left key xs b j=false:=by
 cases e:Bf lt left key xs b j with
 | false=>rfl
 | true=>rw[pS O u hij hj e]at h;cases h
theorem oO (O:Ord P w A s κ a0 lt)(kd:kindOf st=κ){left:Bool}{key:Keyed}{xs:Array Keyed}{b n hint:Nat}(hk:key∈a0)(hz:b+n<=xs.size)(hm:∀ i,i<n->el xs (b+i)∈a0)(u:Up lt xs b (b+n))(hh:hint<n){Q:Option Nat->SortSt->Prop}
  (k:∀ r,r<=n->(∀ i,i<r->Bf lt left key xs b i=true)->(∀ i,r<=i->i<n->Bf lt left key xs b i=false)->Q (some r) st):wpS (model P w) A E s (uo left key xs b n hint) Q st:=by
 have ask:∀ {i:Nat}{R:Option Bool->SortSt->Prop},i<n->R (some (Bf lt left key xs b i)) st->wpS (model P w) A E s (elem' xs (b+i) >>= fun x=>if left=true then lt' x key else lt' key x >>= fun r=>pure (r.map (!·))) R st:=fun hi h=>AH O kd hk (by omega) (hm _ hi) h
 have fin:∀ lo hi:Nat,lo<=hi->hi<=n->(∀ i,i<lo->Bf lt left key xs b i=true)->(∀ i,hi<=i->i<n->Bf lt left key xs b i=false) ->
   ∀ {f:Nat->Option (Option Nat)×Nat×Nat->StateT SortSt Sem (ForInStep (Option (Option Nat)×Nat×Nat))} {g:Option (Option Nat)×Nat×Nat->StateT SortSt Sem (Option Nat)},
   (∀ x l h (R:ForInStep (Option (Option Nat)×Nat×Nat)->SortSt->Prop),h<=n->(l>=h->R (.done (none,l,h)) st)->(¬ l>=h->(Bf lt left key xs b (l+(h-l)/2)=true->R (.yield (none,l+(h-l)/2+1,h)) st)/\(Bf lt left key xs b (l+(h-l)/2)=false->R (.yield (none,l,l+(h-l)/2)) st))->wpS (model P w) A E s (f x (none,l,h)) R st) ->
   (∀ l h,g (none,l,h)=pure (some h))->wpS (model P w) A E s (forIn [0:n] ((none,lo,hi):Option (Option Nat)×Nat×Nat) f >>= g) Q st:=by
  intro lo hi h1 h2 h3 h4 f g ef eg
  refine IK (JY (Jy (I:=fun x c st'=>st'=st/\∃ l h,c=(none,l,h)/\l<=h/\h<=n/\h-l<=n-x/\(∀ i,i<l->Bf lt left key xs b i=true)/\(∀ i,h<=i->i<n->Bf lt left key xs b i=false))
   (Q:=fun c st'=>st'=st/\∃ h,c=(none,h,h)/\h<=n/\(∀ i,i<h->Bf lt left key xs b i=true)/\(∀ i,h<=i->i<n->Bf lt left key xs b i=false)) ?step ?fin ⟨rfl,lo,hi,rfl,h1,h2,by omega,h3,h4⟩) ?post)
  case fin =>
   rintro c st' ⟨rfl,l,h,rfl,a1,a2,a3,a4,a5⟩
   have e:l=h:=by omega
   subst e;exact⟨rfl,l,rfl,a2,a4,a5⟩
  case step =>
   rintro x c st' _ hx ⟨rfl,l,h,rfl,a1,a2,a3,a4,a5⟩;refine ef x l h _ a2 (fun g=>?_) (fun g=>⟨fun e=>?_,fun e=>?_⟩)
   ·have e:l=h:=by omega
    subst e;exact⟨rfl,l,rfl,a2,a4,a5⟩
   ·exact⟨rfl,_,h,rfl,by omega,a2,by omega,fun i hi=>pS O u (by omega) (by omega) e,a5⟩
   ·exact⟨rfl,l,_,rfl,by omega,by omega,by omega,a4,fun i i1 i2=>ug O u i1 i2 e⟩
  case post =>
   rintro c st' ⟨rfl,h,rfl,a2,a4,a5⟩;rw[eg];exact II (k h a2 a4 a5)
 unfold uo;refine IK ?_;refine ask hh ?_;dsimp only
 cases eh:Bf lt left key xs b hint with
 | true =>
  rw[Iq rfl]
  refine IK (JY (Jy (I:=fun x c st'=>st'=st/\∃ la o,c=(none,la,o)/\x+1<=o/\la<o/\hint+la<n/\Bf lt left key xs b (hint+la)=true)
   (Q:=fun c st'=>st'=st/\∃ la o,c=(none,la,o)/\la<o/\hint+la<n/\Bf lt left key xs b (hint+la)=true/\(n-hint<=o\/(hint+o<n/\Bf lt left key xs b (hint+o)=false))) ?step ?fin ⟨rfl,0,1,rfl,by omega,by omega,by omega,eh⟩) ?post)
  case fin =>
   rintro c st' ⟨rfl,la,o,rfl,a1,a2,a3,a4⟩;exact⟨rfl,la,o,rfl,a2,a3,a4,.inl (by omega)⟩
  case step =>
   rintro x c st' _ hx ⟨rfl,la,o,rfl,a1,a2,a3,a4⟩;dsimp only
   by_cases g:o>=n-hint
   ·rw[Iq g]
    exact II ⟨rfl,la,o,rfl,a2,a3,a4,.inl g⟩
   rw[Ip g];refine IK ?_;refine ask (i:=hint+o) (by omega) ?_
   cases e:Bf lt left key xs b (hint+o) with
   | true=>exact II ⟨rfl,o,2*o+1,rfl,by omega,by omega,by omega,e⟩
   | false=>exact II ⟨rfl,la,o,rfl,a2,a3,a4,.inr ⟨by omega,e⟩⟩
  case post =>
   rintro c st' ⟨rfl,la,o,rfl,a2,a3,a4,a5⟩;dsimp only
   refine fin _ _ (by omega) (by omega) (fun i hi=>pS O u (by omega) a3 a4) (fun i i1 i2=>?_) (fun x l h R hn r1 r2=>by
    dsimp only
    by_cases g:l>=h
    ·rw[Iq g];exact II (r1 g)
    rw[Ip g];refine IK ?_;refine ask (i:=l+(h-l)/2) (by omega) ?_
    cases e:Bf lt left key xs b (l+(h-l)/2) with
    | true=>exact II ((r2 g).1 e)
    | false=>exact II ((r2 g).2 e)) (fun l h=>rfl)
   rcases a5 with z | ⟨z,e⟩
   ·omega
   ·exact ug O u (by omega) i2 e
 | false =>
  rw[Ip Iw]
  refine IK (JY (Jy (I:=fun x c st'=>st'=st/\∃ la o,c=(none,la,o)/\x+1<=o/\la<o/\la<=hint/\Bf lt left key xs b (hint-la)=false)
   (Q:=fun c st'=>st'=st/\∃ la o,c=(none,la,o)/\la<o/\la<=hint/\Bf lt left key xs b (hint-la)=false/\(hint+1<=o\/(o<=hint/\Bf lt left key xs b (hint-o)=true))) ?step ?fin ⟨rfl,0,1,rfl,by omega,by omega,by omega,eh⟩) ?post)
  case fin =>
   rintro c st' ⟨rfl,la,o,rfl,a1,a2,a3,a4⟩;exact⟨rfl,la,o,rfl,a2,a3,a4,.inl (by omega)⟩
  case step =>
   rintro x c st' _ hx ⟨rfl,la,o,rfl,a1,a2,a3,a4⟩;dsimp only
   by_cases g:o>=hint+1
   ·rw[Iq g]
    exact II ⟨rfl,la,o,rfl,a2,a3,a4,.inl g⟩
   rw[Ip g];refine IK ?_;refine ask (i:=hint-o) (by omega) ?_
   cases e:Bf lt left key xs b (hint-o) with
   | true=>exact II ⟨rfl,la,o,rfl,a2,a3,a4,.inr ⟨by omega,e⟩⟩
   | false=>exact II ⟨rfl,o,2*o+1,rfl,by omega,by omega,by omega,e⟩
  case post =>
   rintro c st' ⟨rfl,la,o,rfl,a2,a3,a4,a5⟩;dsimp only
   refine fin _ _ (by omega) (by omega) (fun i hi=>?_) (fun i i1 i2=>ug O u (by omega) i2 a4) (fun x l h R hn r1 r2=>by
    dsimp only
    by_cases g:l>=h
    ·rw[Iq g];exact II (r1 g)
    rw[Ip g];refine IK ?_;refine ask (i:=l+(h-l)/2) (by omega) ?_
    cases e:Bf lt left key xs b (l+(h-l)/2) with
    | true=>exact II ((r2 g).1 e)
    | false=>exact II ((r2 g).2 e)) (fun l h=>rfl)
   rcases a5 with z | ⟨z,e⟩
   ·omega
   ·exact pS O u (by omega) (by omega) e
end
def Fn (R:Keyed->Keyed->Prop)(T r:List Keyed):Prop:=r.Perm T/\r.Pairwise R
structure J (R:Keyed->Keyed->Prop)(T out ra rb:List Keyed):Prop where
 pm:(out++(ra++rb)).Perm T
 so:out.Pairwise R
 oa:∀ x,x∈out->∀ y,y∈ra->R x y
 ob:∀ x,x∈out->∀ y,y∈rb->R x y
 sa:ra.Pairwise R
 sb:rb.Pairwise R
 la:∀ x,x∈rb->∀ z,ra.getLast? = some z->R x z
section
variable {R:Keyed->Keyed->Prop}{T out ra rb p:List Keyed}
theorem J.mvA (j:J R T out (p++ra) rb)(h:∀ x,x∈p->∀ y,y∈rb->R x y):J R T (out++p) ra rb where
 pm:=by have:=j.pm;simpa [Jz] using this
 so:=Jr.mpr ⟨j.so,(Jr.mp j.sa).1,fun x hx y hy=>j.oa x hx y (JG _ hy)⟩
 oa:=fun x hx y hy=>by
  rcases IP.mp hx with q | q
  ·exact j.oa x q y (IF _ hy)
  ·exact (Jr.mp j.sa).2.2 x q y hy
 ob:=fun x hx y hy=>by
  rcases IP.mp hx with q | q
  ·exact j.ob x q y hy
  ·exact h x q y hy
 sa:=(Jr.mp j.sa).2.1
 sb:=j.sb
 la:=fun x hx z hz=>j.la x hx z (by rw[List.getLast?_append,hz];rfl)
theorem J.mvB (j:J R T out ra (p++rb))(h:∀ x,x∈p->∀ y,y∈ra->R x y):J R T (out++p) ra rb where
 pm:=by
  refine List.Perm.trans ?_ j.pm;rw[Jz];refine List.Perm.append_left _ ?_;rw[<-Jz,<-Jz];exact List.Perm.append_right _ List.perm_append_comm
 so:=Jr.mpr ⟨j.so,(Jr.mp j.sb).1,fun x hx y hy=>j.ob x hx y (JG _ hy)⟩
 oa:=fun x hx y hy=>by
  rcases IP.mp hx with q | q
  ·exact j.oa x q y hy
  ·exact h x q y hy
 ob:=fun x hx y hy=>by
  rcases IP.mp hx with q | q
  ·exact j.ob x q y (IF _ hy)
  ·exact (Jr.mp j.sb).2.2 x q y hy
 sa:=j.sa
 sb:=(Jr.mp j.sb).2.1
 la:=fun x hx z hz=>j.la x (IF _ hx) z hz
theorem J.done (j:J R T out ra []):Fn R T (out++ra):=⟨by simpa using j.pm,Jr.mpr ⟨j.so,j.sa,j.oa⟩⟩
theorem J.lst {z:Keyed}(j:J R T out [z] rb):Fn R T (out++rb++[z]):=by
 refine⟨?_,Jr.mpr ⟨Jr.mpr ⟨j.so,j.sb,j.ob⟩,List.pairwise_singleton _ _,fun x hx y hy=>?_⟩⟩
 ·refine List.Perm.trans ?_ j.pm
  rw[Jz];exact List.Perm.append_left _ List.perm_append_comm
 ·rw[IB]at hy
  subst hy;rcases IP.mp hx with q | q
  ·exact j.oa x q y (IB.mpr rfl)
  ·exact j.la x q y rfl
theorem Fn.rev (h:Fn (fun x y=>R y x) T out):Fn R T out.reverse:=⟨(List.reverse_perm _).trans h.1,List.pairwise_reverse.mpr h.2⟩
end
theorem uk {a:Array Keyed}{i:Nat}(h:i<a.size):a.toList.drop i=el a i::a.toList.drop (i+1):=by
 have e:=ff h;rw[<-Array.getElem?_toList]at e
 have hl:i<a.toList.length:=by simpa using h
 rw[JW hl];rw[List.getElem?_eq_getElem hl]at e;injection e with e;rw[e]
theorem yL {a:Array Keyed}{i k:Nat}:a.toList.drop i=(a.extract i (i+k)).toList++a.toList.drop (i+k):=by
 rw[JZ,JN,show i+k-i=k by omega,<-List.drop_drop,JV]
theorem uF {a:Array Keyed}{i k:Nat}{x:Keyed}(h:x∈(a.extract i (i+k)).toList):∃ j,j<k/\i+j<a.size/\x=el a (i+j):=by
 rw[Kj,Array.mem_iff_getElem]at h;obtain⟨j,hj,e⟩:=h
 have hs:j<min (i+k) a.size-i:=by simpa using hj
 have h2:i+j<a.size:=by omega
 refine⟨j,by omega,h2,?_⟩;rw[<-e,Array.getElem_extract];unfold el;simp[Array.getD,h2]
theorem jF {a:Array Keyed}{i:Nat}{x:Keyed}(h:x∈a.toList.drop i):∃ j,i<=j/\j<a.size/\x=el a j:=by
 obtain⟨j,hj⟩:=List.mem_iff_getElem?.mp h;rw[List.getElem?_drop,Array.getElem?_toList]at hj
 have hl:i+j<a.size:=by
  obtain⟨q,_⟩:=Array.getElem?_eq_some_iff.mp hj;exact q
 rw[ff hl]at hj;injection hj with hj;exact⟨i+j,by omega,hl,hj.symm⟩
theorem qC {a:Array Keyed}{i:Nat}(h:a.size<=i):a.toList.drop i=[]:=List.drop_eq_nil_of_le (by simpa using h)
theorem tE {a:Array Keyed}{i:Nat}(h:i+1=a.size):a.toList.drop i=[el a i]:=by
 rw[uk (by omega),qC (by omega)]
theorem up_pw {lt:Keyed->Keyed->Bool}{a:Array Keyed}(u:Up lt a 0 a.size):a.toList.Pairwise (fun x y=>lt x y=true):=by
 rw[Km];intro i j hi hj hij
 have h1:i<a.size:=by simpa using hi
 have h2:j<a.size:=by simpa using hj
 have:=u i j (by omega) hij h2;unfold el at this;simpa [Array.getD,h1,h2] using this
def vS:Array Keyed->Array Keyed->StateT SortSt Sem (Array Keyed):=sortPriv% PySem.Builtin.mergeLo
def ig:Nat->StateT SortSt Sem Unit:=sortPriv% PySem.Builtin.setMinGallop
structure vm (a0:Array Keyed)(lt:Keyed->Keyed->Bool)(a b:Array Keyed):Prop where
 ma:∀ i,i<a.size->el a i∈a0
 mb:∀ i,i<b.size->el b i∈a0
 ne:∀ i j,i<a.size->j<b.size->el a i≠el b j
 ua:Up lt a 0 a.size
 ub:Up lt b 0 b.size
 za:0<a.size
 zb:0<b.size
 h0:lt (el b 0) (el a 0)=true
 hl:lt (el b (b.size-1)) (el a (a.size-1))=true
def aA (st st':SortSt):Prop:=arrOf st'=arrOf st/\failedOf st'=failedOf st/\kindOf st'=kindOf st/\pendingOf st'=pendingOf st
def Jl (lt:Keyed->Keyed->Bool)(a b:Array Keyed)(out:Array Keyed)(ia ib:Nat):Prop:=J (fun x y=>lt x y=true) (a.toList++b.toList) out.toList (a.toList.drop ia) (b.toList.drop ib)
def Sl (lt:Keyed->Keyed->Bool)(a b:Array Keyed)(n:Nat)(r:Option (Array Keyed))(out:Array Keyed)(ia ib:Nat):Prop :=
 (∃ q,r=some q/\Fn (fun x y=>lt x y=true) (a.toList++b.toList) q.toList)\/(r=none/\Jl lt a b out ia ib/\ia+1<a.size/\ib<b.size/\n<=out.size)
section
variable {P:Program}{w:World}{A:Around}{E:Value->Shared->Prop}{s:Shared}{κ:SortKind}{a0:Array Keyed}{lt:Keyed->Keyed->Bool}{st:SortSt}{a b out:Array Keyed}{ia ib k n:Nat}
theorem FG {st0:SortSt}{g:Nat}(hs:aA st0 st){Q:Unit->SortSt->Prop}(h:∀ st2,aA st0 st2->Q () st2):wpS (model P w) A E s (ig g) Q st:=by
 unfold ig;exact wpS_modify (h _ hs)
theorem dO {β:Type}{xs:Array Keyed}{i:Nat}(hi:i<xs.size){f:Keyed->StateT SortSt Sem β}{Q:β->SortSt->Prop}(h:wpS (model P w) A E s (f (el xs i)) Q st):wpS (model P w) A E s (elem' xs i >>= f) Q st:=IK (pz hi h)
theorem Cr {β:Type}(O:Ord P w A s κ a0 lt)(kd:kindOf st=κ){x y:Keyed}(hx:x∈a0)(hy:y∈a0){f:Option Bool->StateT SortSt Sem β}{Q:β->SortSt->Prop}(h:wpS (model P w) A E s (f (some (lt x y))) Q st):wpS (model P w) A E s (lt' x y >>= f) Q st:=IK (zu O kd hx hy h)
theorem qh {β:Type}{st0:SortSt}{g:Nat}(hs:aA st0 st){f:Unit->StateT SortSt Sem β}{Q:β->SortSt->Prop}(h:∀ st2,aA st0 st2->wpS (model P w) A E s (f ()) Q st2):wpS (model P w) A E s (ig g >>= f) Q st:=IK (FG hs h)
theorem qg {β:Type}(O:Ord P w A s κ a0 lt)(kd:kindOf st=κ){left:Bool}{key:Keyed}{xs:Array Keyed}{b n hint:Nat}(hk:key∈a0)(hz:b+n<=xs.size)(hm:∀ i,i<n->el xs (b+i)∈a0)(u:Up lt xs b (b+n))(hh:hint<n){f:Option Nat->StateT SortSt Sem β}{Q:β->SortSt->Prop}
  (k:∀ r,r<=n->(∀ i,i<r->Bf lt left key xs b i=true)->(∀ i,r<=i->i<n->Bf lt left key xs b i=false)->wpS (model P w) A E s (f (some r)) Q st):wpS (model P w) A E s (uo left key xs b n hint >>= f) Q st:=IK (oO O kd hk hz hm u hh k)
theorem GE (u:Up lt a 0 a.size){x:Keyed}(h:x∈a.toList.drop ia):x=el a ia\/lt (el a ia) x=true:=by
 obtain⟨j,h1,h2,rfl⟩:=jF h
 by_cases e:ia=j
 ·exact .inl (by rw[e])
 ·exact .inr (u _ _ (by omega) (by omega) h2)
theorem uE (O:Ord P w A s κ a0 lt)(u:Up lt a 0 a.size){x:Keyed}(h:lt x (el a ia)=true){y:Keyed}(hy:y∈a.toList.drop ia):lt x y=true:=by
 rcases GE u hy with rfl | q
 ·exact h
 ·exact O.tr _ _ _ h q
theorem Jl.pB (O:Ord P w A s κ a0 lt)(W:vm a0 lt a b)(j:Jl lt a b out ia ib)(hb:ib<b.size)(h:lt (el b ib) (el a ia)=true):Jl lt a b (out.push (el b ib)) ia (ib+1):=by
 unfold Jl at j ⊢;rw[uk hb,show el b ib::b.toList.drop (ib+1)=[el b ib]++b.toList.drop (ib+1) from rfl]at j;rw[KP]
 exact j.mvB fun x hx y hy=>by
  rw[IB]at hx;subst hx;exact uE O W.ua h hy
theorem Jl.pA (O:Ord P w A s κ a0 lt)(W:vm a0 lt a b)(j:Jl lt a b out ia ib)(ha:ia<a.size)(h:lt (el a ia) (el b ib)=true):Jl lt a b (out.push (el a ia)) (ia+1) ib:=by
 unfold Jl at j ⊢;rw[uk ha,show el a ia::a.toList.drop (ia+1)=[el a ia]++a.toList.drop (ia+1) from rfl]at j;rw[KP]
 exact j.mvA fun x hx y hy=>by
  rw[IB]at hx;subst hx;exact uE O W.ub h hy
theorem Jl.mA (O:Ord P w A s κ a0 lt)(W:vm a0 lt a b)(j:Jl lt a b out ia ib)(h:∀ i,i<k->lt (el a (ia+i)) (el b ib)=true):Jl lt a b (out++a.extract ia (ia+k)) (ia+k) ib:=by
 unfold Jl at j ⊢;rw[yL (k:=k)]at j;rw[Jo]
 exact j.mvA fun x hx y hy=>by
  obtain⟨i,h1,_,rfl⟩:=uF hx;exact uE O W.ub (h i h1) hy
theorem Jl.mB (O:Ord P w A s κ a0 lt)(W:vm a0 lt a b)(j:Jl lt a b out ia ib)(h:∀ i,i<k->lt (el b (ib+i)) (el a ia)=true):Jl lt a b (out++b.extract ib (ib+k)) ia (ib+k):=by
 unfold Jl at j ⊢;rw[yL (a:=b) (k:=k)]at j;rw[Jo]
 exact j.mvB fun x hx y hy=>by
  obtain⟨i,h1,_,rfl⟩:=uF hx;exact uE O W.ua (h i h1) hy
theorem pU {a:Array Keyed}{i:Nat}:(a.extract i a.size).toList=a.toList.drop i:=by
 rw[JZ,JN];exact JJ (by simp)
theorem Jl.dn (j:Jl lt a b out ia ib)(hb:ib=b.size):Fn (fun x y=>lt x y=true) (a.toList++b.toList) (out++a.extract ia a.size++b.extract ib b.size).toList:=by
 unfold Jl at j;rw[Jo,Jo,pU,pU,qC (i:=ib) (by omega),List.append_nil];rw[qC (i:=ib) (by omega)]at j;exact j.done
theorem Jl.ls (j:Jl lt a b out ia ib)(ha:ia+1=a.size):Fn (fun x y=>lt x y=true) (a.toList++b.toList) (out++b.extract ib b.size++a.extract ia a.size).toList:=by
 unfold Jl at j;rw[Jo,Jo,pU,pU,tE ha];rw[tE ha]at j;exact j.lst
theorem vm.abv (O:Ord P w A s κ a0 lt)(W:vm a0 lt a b){i:Nat}(hi:i<b.size):lt (el b i) (el a (a.size-1))=true:=by
 by_cases c:i=b.size-1
 ·rw[c];exact W.hl
 ·exact O.tr _ _ _ (W.ub i (b.size-1) (by omega) (by omega) (by omega)) W.hl
theorem Jl.ini (O:Ord P w A s κ a0 lt)(W:vm a0 lt a b):Jl lt a b #[el b 0] 0 1:=by
 have j:Jl lt a b #[] 0 0:=by
  refine⟨by simp,List.Pairwise.nil,(fun x hx=>nomatch hx),(fun x hx=>nomatch hx),by simpa using up_pw W.ua,by simpa using up_pw W.ub,fun x hx z hz=>?_⟩;obtain⟨i,_,hi,rfl⟩:=jF hx
  have e:z=el a (a.size-1):=by
   rw[List.drop_zero,List.getLast?_eq_getElem?,Array.getElem?_toList,IU,ff (by have:=W.za;omega)]at hz;injection hz with hz;exact hz.symm
  rw[e];exact W.abv O hi
 exact j.pB O W W.zb W.h0
theorem Jl.len (j:Jl lt a b out ia ib):out.size<=a.size+b.size:=by
 have:=j.pm.length_eq;simp only[ID,IU]at this;omega
end
theorem Cc {P:Nat->Prop}{G:Prop}(main:(∀ n,P n)->G)(key:∀ n,P n):G:=main key
theorem u7 {P:Array Keyed->Nat->Prop}{G:Prop}(C:Array Keyed->Nat->Prop)(main:(∀ o i,C o i->P o i)->G)(key:∀ o i,C o i->P o i):G:=main key
section
variable {P:Program}{w:World}{A:Around}{E:Value->Shared->Prop}{s:Shared}{κ:SortKind}{a0:Array Keyed}{lt:Keyed->Keyed->Bool}{st:SortSt}{a b out:Array Keyed}{ia ib k n:Nat}
theorem GG (O:Ord P w A s κ a0 lt)(kd:kindOf st=κ)(W:vm a0 lt a b){Q:Array Keyed->SortSt->Prop}
  (fin:∀ q st',aA st st'->Fn (fun x y=>lt x y=true) (a.toList++b.toList) q.toList->Q q st'):wpS (model P w) A E s (vS a b) Q st:=by
 have sm:aA st st:=⟨rfl,rfl,rfl,rfl⟩;unfold vS;refine IK (wpS_lift (KU ⟨rfl,?_⟩));refine IK (pz W.zb ?_);dsimp only;have j0:=Jl.ini O W
 by_cases e1:1=b.size
 ·rw[Iq (by simpa using e1)]
  exact II (fin _ _ sm (j0.dn e1))
 rw[Ip (by simpa using e1)]
 by_cases e2:0+1=a.size
 ·rw[Iq (by simpa using e2)]
  exact II (fin _ _ sm (j0.ls e2))
 rw[Ip (by simpa using e2)];have za:=W.za;have zb:=W.zb;refine IK (wpS_get ?_)
 refine IK (JY (Jy (I:=fun x c st'=>aA st st'/\∃ out ia ib g,c=(none,out,ia,ib,g)/\Jl lt a b out ia ib/\ia+1<a.size/\ib<b.size/\x+1<=out.size)
  (Q:=fun c st'=>aA st st'/\∃ r o,c=(some r,o)/\Fn (fun x y=>lt x y=true) (a.toList++b.toList) r.toList) ?step ?fin ⟨sm,_,_,_,_,rfl,j0,by omega,by omega,by simp⟩) ?post)
 case post =>
  rintro c st' ⟨hs,r,o,rfl,hr⟩;exact II (fin _ _ hs hr)
 case fin =>
  rintro c st' ⟨hs,out,ia,ib,g,rfl,j,ha,hb,hn⟩;have:=j.len;omega
 case step =>
  rintro x c st' _ hx ⟨hs,out,ia,ib,g,rfl,j,ha,hb,hn⟩;dsimp only
  refine IK (JY (Jy (I:=fun y c st'=>aA st st'/\∃ out ia ib ac bc,c=(none,out,ia,ib,ac,bc)/\Jl lt a b out ia ib/\ia+1<a.size/\ib<b.size/\x+1<=out.size)
   (Q:=fun c st'=>aA st st'/\∃ r out ia ib ac bc,c=(r,out,ia,ib,ac,bc)/\Sl lt a b (x+1) r out ia ib) ?step1 ?fin1 ⟨hs,_,_,_,_,_,rfl,j,ha,hb,hn⟩) ?post1)
  case fin1 =>
   rintro c st' ⟨hs,out,ia,ib,ac,bc,rfl,j,ha,hb,hn⟩;exact⟨hs,_,_,_,_,_,_,rfl,.inr ⟨rfl,j,ha,hb,hn⟩⟩
  case step1 =>
   rintro y c st' _ hy ⟨hs,out,ia,ib,ac,bc,rfl,j,ha,hb,hn⟩;dsimp only;refine dO hb ?_;refine dO (by omega) ?_;refine Cr O (hs.2.2.1.trans kd) (W.mb _ hb) (W.ma _ (by omega)) ?_
   cases el:lt (el b ib) (el a ia) with
   | true =>
    dsimp only;rw[Iq rfl];refine dO hb ?_;have j3:=j.pB O W hb el
    by_cases e:ib+1=b.size
    ·rw[Iq (by simpa using e)]
     exact II ⟨hs,_,_,_,_,_,_,rfl,.inl ⟨_,rfl,j3.dn e⟩⟩
    rw[Ip (by simpa using e)]
    by_cases e3:bc+1>=g
    ·rw[Iq e3]
     exact II ⟨hs,_,_,_,_,_,_,rfl,.inr ⟨rfl,j3,ha,by omega,by rw[JC];omega⟩⟩
    ·rw[Ip e3]
     exact II ⟨hs,_,_,_,_,_,rfl,j3,ha,by omega,by rw[JC];omega⟩
   | false =>
    dsimp only;rw[Ip Iw];refine dO (by omega) ?_;have j3:=j.pA O W (by omega) (O.not (W.mb _ hb) (W.ma _ (by omega)) (fun e=>W.ne _ _ (by omega) hb e.symm) el)
    by_cases e:ia+1+1=a.size
    ·rw[Iq (by simpa using e)]
     exact II ⟨hs,_,_,_,_,_,_,rfl,.inl ⟨_,rfl,j3.ls e⟩⟩
    rw[Ip (by simpa using e)]
    by_cases e3:ac+1>=g
    ·rw[Iq e3]
     exact II ⟨hs,_,_,_,_,_,_,rfl,.inr ⟨rfl,j3,by omega,by omega,by rw[JC];omega⟩⟩
    ·rw[Ip e3]
     exact II ⟨hs,_,_,_,_,_,rfl,j3,by omega,by omega,by rw[JC];omega⟩
  case post1 =>
   rintro c st' ⟨hs,r,out,ia,ib,ac,bc,rfl,⟨q,rfl,hq⟩ | ⟨rfl,j,ha,hb,hn⟩⟩
   ·exact II ⟨hs,_,_,rfl,hq⟩
   dsimp only;refine IK (wpS_lift (KU ⟨rfl,?_⟩))
   refine IK (JY (Jy (I:=fun y c st'=>aA st st'/\∃ out ia ib g ac bc,c=(none,out,ia,ib,g,ac,bc)/\Jl lt a b out ia ib/\ia+1<a.size/\ib<b.size/\x+1+y<=out.size)
    (Q:=fun c st'=>aA st st'/\∃ r out ia ib g ac bc,c=(r,out,ia,ib,g,ac,bc)/\Sl lt a b (x+1+1) r out ia ib) ?step2 ?fin2 ⟨hs,_,_,_,_,_,_,rfl,j,ha,hb,hn⟩) ?post2)
   case fin2 =>
    rintro c st' ⟨hs,out,ia,ib,g,ac,bc,rfl,j,ha,hb,hn⟩;exact⟨hs,_,_,_,_,_,_,_,rfl,.inr ⟨rfl,j,ha,hb,by omega⟩⟩
   case post2 =>
    rintro c st' ⟨hs,r,out,ia,ib,g,ac,bc,rfl,⟨q,rfl,hq⟩ | ⟨rfl,j,ha,hb,hn⟩⟩
    ·exact II ⟨hs,_,_,rfl,hq⟩
    dsimp only;refine qh hs fun st2 hs=>?_;exact II ⟨hs,_,_,_,_,rfl,j,ha,hb,hn⟩
   case step2 =>
    rintro y c st' _ hy ⟨hs,out,ia,ib,g,ac,bc,rfl,j,ha,hb,hn⟩;dsimp only
    apply Cc
    ·intro rest
     by_cases gg:g>1
     ·rw[Iq gg]
      generalize g-1=g';exact rest g'
     ·rw[Ip gg]
      exact rest g
    intro g';refine qh hs fun st2 hs=>?_;refine dO hb ?_;refine qg (xs:=a) (b:=ia) (n:=a.size-ia) (hint:=0) O (hs.2.2.1.trans kd) (W.mb ib hb) (by omega) (fun i hi=>W.ma _ (by omega)) (fun i j h1 h2 h3=>W.ua i j (by omega) h2 (by omega)) (by omega) fun k k1 k2 k3=>?_;dsimp only
    have q1:∀ i,i<k->lt (el a (ia+i)) (el b ib)=true:=fun i hi=>by
     have:=k2 i hi;unfold Bf at this;rw[Ip Iw,KL]at this;exact O.not (W.mb _ hb) (W.ma _ (by omega)) (fun e=>W.ne _ _ (by omega) hb e.symm) this
    have q2:ia+k<a.size:=by
     rcases Nat.lt_or_ge (ia+k) a.size with q | q
     ·exact q
     ·have q4:=q1 (a.size-1-ia) (by omega)
      rw[show ia+(a.size-1-ia)=a.size-1 by omega,O.asym (W.abv O hb)]at q4;cases q4
    have q3:lt (el b ib) (el a (ia+k))=true:=by
     have:=k3 k (Iv _) (by omega);unfold Bf at this
     rwa [Ip Iw,Bool.not_eq_false']at this
    apply u7 (fun o i=>Jl lt a b o i ib/\x+1+y<=o.size/\lt (el b ib) (el a i)=true/\i+1<a.size)
    ·intro rest
     by_cases gk:k>0
     ·rw[Iq gk]
      have j2:=j.mA O W q1
      by_cases e1:ia+k+1=a.size
      ·rw[Iq (by simpa using e1)]
       exact II ⟨hs,_,_,_,_,_,_,_,rfl,.inl ⟨_,rfl,j2.ls e1⟩⟩
      rw[Ip (by simpa using e1),Ip (by simp only[JS];omega)]
      have z3:x+1+y<=(out++a.extract ia (ia+k)).size:=by
       rw[Array.size_append];exact Nat.le_add_right_of_le hn
      generalize out++a.extract ia (ia+k)=o at j2 z3 ⊢;have q2':=q2;have q3':=q3;generalize ia+k=i at j2 q2' q3' e1 ⊢;exact rest o i ⟨j2,z3,q3',by omega⟩
     ·rw[Ip gk]
      exact rest out ia ⟨j,hn,by rw[show ia=ia+k by omega];exact q3,ha⟩
    rintro o i ⟨j,z3,q3,hi⟩;refine dO hb ?_;have j3:=j.pB O W hb q3
    by_cases e2:ib+1=b.size
    ·rw[Iq (by simpa using e2)]
     exact II ⟨hs,_,_,_,_,_,_,_,rfl,.inl ⟨_,rfl,j3.dn e2⟩⟩
    rw[Ip (by simpa using e2)];refine dO (i:=i) (by omega) ?_;refine qg (xs:=b) (b:=ib+1) (n:=b.size-(ib+1)) (hint:=0) O (hs.2.2.1.trans kd) (W.ma i (by omega)) (by omega) (fun i hi=>W.mb _ (by omega)) (fun i j h1 h2 h3=>W.ub i j (by omega) h2 (by omega)) (by omega) fun l l1 l2 l3=>?_;dsimp only
    have r1:∀ h,h<l->lt (el b (ib+1+h)) (el a i)=true:=fun h hh=>by
     have:=l2 h hh;unfold Bf at this
     rwa [Iq rfl]at this
    have r3:ib+1+l<b.size->lt (el a i) (el b (ib+1+l))=true:=fun hl=>by
     have:=l3 l (Iv _) (by omega);unfold Bf at this;rw[Iq rfl]at this;exact O.not (W.mb _ hl) (W.ma _ (by omega)) (fun e=>W.ne _ _ (by omega) hl e.symm) this
    have z3':x+1+y+1<=(o.push (el b ib)).size:=by
     rw[JC];exact Nat.succ_le_succ z3
    apply u7 (fun o m=>Jl lt a b o i m/\x+1+y+1<=o.size/\lt (el a i) (el b m)=true/\m<b.size)
    ·intro rest
     by_cases gl:l>0
     ·rw[Iq gl]
      have j4:=j3.mB O W r1
      by_cases e5:ib+1+l=b.size
      ·rw[Iq (by simpa using e5)]
       exact II ⟨hs,_,_,_,_,_,_,_,rfl,.inl ⟨_,rfl,j4.dn e5⟩⟩
      rw[Ip (by simpa using e5)];have r4:=r3 (by omega)
      have z4:x+1+y+1<=(o.push (el b ib)++b.extract (ib+1) (ib+1+l)).size:=by
       rw[Array.size_append];exact Nat.le_add_right_of_le z3'
      generalize o.push (el b ib)++b.extract (ib+1) (ib+1+l)=o' at j4 z4 ⊢
      have m4:ib+1+l<b.size:=by omega
      generalize ib+1+l=m at j4 r4 m4 ⊢;exact rest o' m ⟨j4,z4,r4,m4⟩
     ·rw[Ip gl]
      have r4:=r3 (by omega);rw[show l=0 by omega,Nat.add_zero]at r4;exact rest _ _ ⟨j3,z3',r4,by omega⟩
    rintro o m ⟨j,z4,r3,hm⟩;refine dO (i:=i) (by omega) ?_;have j5:=j.pA O W (by omega) r3
    by_cases e3:i+1+1=a.size
    ·rw[Iq (by simpa using e3)]
     exact II ⟨hs,_,_,_,_,_,_,_,rfl,.inl ⟨_,rfl,j5.ls e3⟩⟩
    rw[Ip (by simpa using e3)]
    have z5:x+1+y+1<=(o.push (el a i)).size:=by
     rw[JC];exact Nat.le_succ_of_le z4
    by_cases e4:(decide (k<7)&&decide (l<7))=true
    ·rw[Iq e4]
     exact II ⟨hs,_,_,_,_,_,_,_,rfl,.inr ⟨rfl,j5,by omega,hm,by omega⟩⟩
    ·rw[Ip e4]
     exact II ⟨hs,_,_,_,_,_,_,rfl,j5,by omega,hm,by omega⟩
end
def vR:Array Keyed->Array Keyed->StateT SortSt Sem (Array Keyed):=sortPriv% PySem.Builtin.mergeHi
def Jh (lt:Keyed->Keyed->Bool)(a b:Array Keyed)(out:Array Keyed)(na nb:Nat):Prop:=J (fun x y=>lt y x=true) (a.toList++b.toList) out.toList (b.toList.take nb).reverse (a.toList.take na).reverse
def Sh (lt:Keyed->Keyed->Bool)(a b:Array Keyed)(n:Nat)(r:Option (Array Keyed))(out:Array Keyed)(na nb:Nat):Prop :=
 (∃ q,r=some q/\Fn (fun x y=>lt x y=true) (a.toList++b.toList) q.toList)\/(r=none/\Jh lt a b out na nb/\0<na/\na<a.size/\1<nb/\nb<=b.size/\n<=out.size)
theorem vf {a:Array Keyed}{i:Nat}(h:0<i)(hi:i<=a.size):(a.toList.take i).reverse=el a (i-1)::(a.toList.take (i-1)).reverse:=by
 obtain⟨m,rfl⟩:∃ m,i=m+1:=⟨i-1,by omega⟩;have e:=ff (xs:=a) (i:=m) (by omega);rw[<-Array.getElem?_toList]at e;rw[IZ,e,Nat.add_sub_cancel];simp
theorem zo {a:Array Keyed}{i n:Nat}(h:i<=n):(a.toList.take n).reverse=(a.extract i n).reverse.toList++(a.toList.take i).reverse:=by
 rw[Array.toList_reverse,JZ,JN,<-Kv]
 congr 1
 have e:=JV i (a.toList.take n);rw[List.take_take,Nat.min_eq_left h,List.drop_take]at e;exact e.symm
theorem vQ {a:Array Keyed}{n:Nat}{x:Keyed}(h:x∈(a.toList.take n).reverse):∃ j,j<n/\j<a.size/\x=el a j:=by
 rw[List.mem_reverse]at h;obtain⟨j,hj⟩:=List.mem_iff_getElem?.mp h;rw[List.getElem?_take]at hj
 by_cases c:j<n
 ·rw[Iq c,Array.getElem?_toList]at hj
  obtain⟨hl,_⟩:=Array.getElem?_eq_some_iff.mp hj;rw[ff hl]at hj;injection hj with hj;exact⟨j,c,hl,hj.symm⟩
 ·rw[Ip c]at hj;cases hj
theorem yT {a:Array Keyed}{i n:Nat}{x:Keyed}(h:x∈(a.extract i n).reverse.toList):∃ j,i<=j/\j<n/\j<a.size/\x=el a j:=by
 rw[Array.toList_reverse,List.mem_reverse,Kj,Array.mem_iff_getElem]at h;obtain⟨j,hj,e⟩:=h
 have hs:j<min n a.size-i:=by simpa using hj
 have h2:i+j<a.size:=by omega
 refine⟨i+j,by omega,by omega,h2,?_⟩;rw[<-e,Array.getElem_extract];unfold el;simp[Array.getD,h2]
section
variable {P:Program}{w:World}{A:Around}{E:Value->Shared->Prop}{s:Shared}{κ:SortKind}{a0:Array Keyed}{lt:Keyed->Keyed->Bool}{st:SortSt}{a b out:Array Keyed}{na nb k n:Nat}
theorem ur (O:Ord P w A s κ a0 lt)(u:Up lt a 0 a.size){x:Keyed}(h:lt (el a (na-1)) x=true){y:Keyed}(hn:na<=a.size)(hy:y∈(a.toList.take na).reverse):lt y x=true:=by
 obtain⟨j,h1,h2,rfl⟩:=vQ hy
 by_cases e:j=na-1
 ·rw[e];exact h
 ·exact O.tr _ _ _ (u _ _ (by omega) (by omega) (by omega)) h
theorem Jh.pA (O:Ord P w A s κ a0 lt)(W:vm a0 lt a b)(j:Jh lt a b out na nb)(ha:0<na)(ha2:na<=a.size)(hb:nb<=b.size)(h:lt (el b (nb-1)) (el a (na-1))=true):Jh lt a b (out.push (el a (na-1))) (na-1) nb:=by
 unfold Jh at j ⊢;rw[vf ha ha2,show el a (na-1)::(a.toList.take (na-1)).reverse=[el a (na-1)]++(a.toList.take (na-1)).reverse from rfl]at j;rw[KP]
 exact j.mvB fun x hx y hy=>by
  rw[IB]at hx;subst hx;exact ur O W.ub h hb hy
theorem Jh.pB (O:Ord P w A s κ a0 lt)(W:vm a0 lt a b)(j:Jh lt a b out na nb)(hb:0<nb)(hb2:nb<=b.size)(ha:na<=a.size)(h:lt (el a (na-1)) (el b (nb-1))=true):Jh lt a b (out.push (el b (nb-1))) na (nb-1):=by
 unfold Jh at j ⊢;rw[vf hb hb2,show el b (nb-1)::(b.toList.take (nb-1)).reverse=[el b (nb-1)]++(b.toList.take (nb-1)).reverse from rfl]at j;rw[KP]
 exact j.mvA fun x hx y hy=>by
  rw[IB]at hx;subst hx;exact ur O W.ua h ha hy
theorem Jh.mA (O:Ord P w A s κ a0 lt)(W:vm a0 lt a b)(j:Jh lt a b out na nb)(hk:k<=na)(hb:nb<=b.size)(h:∀ i,k<=i->i<na->lt (el b (nb-1)) (el a i)=true):Jh lt a b (out++(a.extract k na).reverse) k nb:=by
 unfold Jh at j ⊢;rw[zo (a:=a) hk]at j;rw[Jo]
 exact j.mvB fun x hx y hy=>by
  obtain⟨i,h1,h2,_,rfl⟩:=yT hx;exact ur O W.ub (h i h1 h2) hb hy
theorem Jh.mB (O:Ord P w A s κ a0 lt)(W:vm a0 lt a b)(j:Jh lt a b out na nb)(hk:k<=nb)(ha:na<=a.size)(h:∀ i,k<=i->i<nb->lt (el a (na-1)) (el b i)=true):Jh lt a b (out++(b.extract k nb).reverse) na k:=by
 unfold Jh at j ⊢;rw[zo (a:=b) hk]at j;rw[Jo]
 exact j.mvA fun x hx y hy=>by
  obtain⟨i,h1,h2,_,rfl⟩:=yT hx;exact ur O W.ua (h i h1 h2) ha hy
theorem pV {a:Array Keyed}{i:Nat}:(a.extract 0 i).toList=a.toList.take i:=by
 rw[JZ,JN,List.drop_zero,Nat.sub_zero]
theorem Jh.dn (j:Jh lt a b out na nb)(ha:na=0):Fn (fun x y=>lt x y=true) (a.toList++b.toList) (a.extract 0 na++b.extract 0 nb++out.reverse).toList:=by
 unfold Jh at j;subst ha;rw[List.take_zero,List.reverse_nil]at j;have q:=j.done.rev;rw[Kv,List.reverse_reverse]at q;rw[Jo,Jo,pV,pV,Array.toList_reverse,List.take_zero,List.nil_append];exact q
theorem Jh.ls (j:Jh lt a b out na nb)(hb:nb=1)(zb:0<b.size):Fn (fun x y=>lt x y=true) (a.toList++b.toList) (b.extract 0 nb++a.extract 0 na++out.reverse).toList:=by
 unfold Jh at j;subst hb;have e:=vf (a:=b) (i:=1) (by omega) (by omega);rw[KR,List.take_zero,List.reverse_nil]at e;rw[e]at j;have q:=j.lst.rev;rw[Kv,Kv,List.reverse_reverse,<-Jz,List.reverse_singleton]at q;rw[Jo,Jo,pV,pV,Array.toList_reverse];rw[<-List.reverse_reverse (b.toList.take 1),e,List.reverse_singleton];exact q
theorem vm.blw (O:Ord P w A s κ a0 lt)(W:vm a0 lt a b){i:Nat}(hi:i<a.size):lt (el b 0) (el a i)=true:=by
 by_cases c:i=0
 ·rw[c];exact W.h0
 ·exact O.tr _ _ _ W.h0 (W.ua 0 i (by omega) (by omega) (by omega))
theorem Jh.ini (O:Ord P w A s κ a0 lt)(W:vm a0 lt a b):Jh lt a b #[el a (a.size-1)] (a.size-1) b.size:=by
 have j:Jh lt a b #[] a.size b.size:=by
  unfold Jh;rw[JJ (l:=a.toList) (i:=a.size) (by rw[IU];exact Iv _),JJ (l:=b.toList) (i:=b.size) (by rw[IU];exact Iv _)];refine⟨?_,List.Pairwise.nil,(fun x hx=>nomatch hx),(fun x hx=>nomatch hx),List.pairwise_reverse.mpr (up_pw W.ub),List.pairwise_reverse.mpr (up_pw W.ua),fun x hx z hz=>?_⟩
  ·show (b.toList.reverse++a.toList.reverse).Perm _
   rw[<-Kv];exact List.reverse_perm _
  rw[show a.toList=a.toList.drop 0 from rfl,List.mem_reverse]at hx;obtain⟨i,_,hi,rfl⟩:=jF hx
  have e:z=el b 0:=by
   rw[List.getLast?_reverse,List.head?_eq_getElem?,Array.getElem?_toList,ff W.zb]at hz;injection hz with hz;exact hz.symm
  rw[e];exact W.blw O hi
 exact j.pA O W W.za (Iv _) (Iv _) W.hl
theorem Jh.len (j:Jh lt a b out na nb):out.size<=a.size+b.size:=by
 have:=j.pm.length_eq;simp only[ID,IU]at this;omega
end
section
variable {P:Program}{w:World}{A:Around}{E:Value->Shared->Prop}{s:Shared}{κ:SortKind}{a0:Array Keyed}{lt:Keyed->Keyed->Bool}{st:SortSt}{a b out:Array Keyed}{na nb k n:Nat}
theorem GF (O:Ord P w A s κ a0 lt)(kd:kindOf st=κ)(W:vm a0 lt a b){Q:Array Keyed->SortSt->Prop}
  (fin:∀ q st',aA st st'->Fn (fun x y=>lt x y=true) (a.toList++b.toList) q.toList->Q q st'):wpS (model P w) A E s (vR a b) Q st:=by
 have sm:aA st st:=⟨rfl,rfl,rfl,rfl⟩;have za:=W.za;have zb:=W.zb;unfold vR;refine IK (wpS_lift (KU ⟨rfl,?_⟩));refine IK (pz (i:=a.size-1) (by omega) ?_);dsimp only;have j0:=Jh.ini O W
 by_cases e1:a.size-1=0
 ·rw[Iq (by simpa using e1)]
  exact II (fin _ _ sm (j0.dn e1))
 rw[Ip (by simpa using e1)]
 by_cases e2:b.size=1
 ·rw[Iq (by simpa using e2)]
  exact II (fin _ _ sm (j0.ls e2 zb))
 rw[Ip (by simpa using e2)];refine IK (wpS_get ?_)
 refine IK (JY (Jy (I:=fun x c st'=>aA st st'/\∃ na nb out g,c=(none,na,nb,out,g)/\Jh lt a b out na nb/\0<na/\na<a.size/\1<nb/\nb<=b.size/\x+1<=out.size)
  (Q:=fun c st'=>aA st st'/\∃ r o,c=(some r,o)/\Fn (fun x y=>lt x y=true) (a.toList++b.toList) r.toList) ?step ?fin ⟨sm,_,_,_,_,rfl,j0,by omega,by omega,by omega,by omega,by simp⟩) ?post)
 case post =>
  rintro c st' ⟨hs,r,o,rfl,hr⟩;exact II (fin _ _ hs hr)
 case fin =>
  rintro c st' ⟨hs,na,nb,out,g,rfl,j,ha,ha2,hb,hb2,hn⟩;have:=j.len;omega
 case step =>
  rintro x c st' _ hx ⟨hs,na,nb,out,g,rfl,j,ha,ha2,hb,hb2,hn⟩;dsimp only
  refine IK (JY (Jy (I:=fun y c st'=>aA st st'/\∃ na nb out ac bc,c=(none,na,nb,out,ac,bc)/\Jh lt a b out na nb/\0<na/\na<a.size/\1<nb/\nb<=b.size/\x+1<=out.size)
   (Q:=fun c st'=>aA st st'/\∃ r na nb out ac bc,c=(r,na,nb,out,ac,bc)/\Sh lt a b (x+1) r out na nb) ?step1 ?fin1 ⟨hs,_,_,_,_,_,rfl,j,ha,ha2,hb,hb2,hn⟩) ?post1)
  case fin1 =>
   rintro c st' ⟨hs,na,nb,out,ac,bc,rfl,j,ha,ha2,hb,hb2,hn⟩;exact⟨hs,_,_,_,_,_,_,rfl,.inr ⟨rfl,j,ha,ha2,hb,hb2,hn⟩⟩
  case step1 =>
   rintro y c st' _ hy ⟨hs,na,nb,out,ac,bc,rfl,j,ha,ha2,hb,hb2,hn⟩;dsimp only;refine dO (i:=nb-1) (by omega) ?_;refine dO (i:=na-1) (by omega) ?_;refine Cr O (hs.2.2.1.trans kd) (W.mb _ (by omega)) (W.ma _ (by omega)) ?_
   cases el:lt (el b (nb-1)) (el a (na-1)) with
   | true =>
    dsimp only;rw[Iq rfl];refine dO (i:=na-1) (by omega) ?_;have j3:=j.pA O W (by omega) (by omega) (by omega) el
    by_cases e:na-1=0
    ·rw[Iq (by simpa using e)]
     exact II ⟨hs,_,_,_,_,_,_,rfl,.inl ⟨_,rfl,j3.dn e⟩⟩
    rw[Ip (by simpa using e)]
    by_cases e3:ac+1>=g
    ·rw[Iq e3]
     exact II ⟨hs,_,_,_,_,_,_,rfl,.inr ⟨rfl,j3,by omega,by omega,by omega,by omega,by rw[JC];omega⟩⟩
    ·rw[Ip e3]
     exact II ⟨hs,_,_,_,_,_,rfl,j3,by omega,by omega,by omega,by omega,by rw[JC];omega⟩
   | false =>
    dsimp only;rw[Ip Iw];refine dO (i:=nb-1) (by omega) ?_;have j3:=j.pB O W (by omega) (by omega) (by omega) (O.not (W.mb _ (by omega)) (W.ma _ (by omega)) (fun e=>W.ne _ _ (by omega) (by omega) e.symm) el)
    by_cases e:nb-1=1
    ·rw[Iq (by simpa using e)]
     exact II ⟨hs,_,_,_,_,_,_,rfl,.inl ⟨_,rfl,j3.ls e zb⟩⟩
    rw[Ip (by simpa using e)]
    by_cases e3:bc+1>=g
    ·rw[Iq e3]
     exact II ⟨hs,_,_,_,_,_,_,rfl,.inr ⟨rfl,j3,by omega,by omega,by omega,by omega,by rw[JC];omega⟩⟩
    ·rw[Ip e3]
     exact II ⟨hs,_,_,_,_,_,rfl,j3,by omega,by omega,by omega,by omega,by rw[JC];omega⟩
  case post1 =>
   rintro c st' ⟨hs,r,na,nb,out,ac,bc,rfl,⟨q,rfl,hq⟩ | ⟨rfl,j,ha,ha2,hb,hb2,hn⟩⟩
   ·exact II ⟨hs,_,_,rfl,hq⟩
   dsimp only;refine IK (wpS_lift (KU ⟨rfl,?_⟩))
   refine IK (JY (Jy (I:=fun y c st'=>aA st st'/\∃ na nb out g ac bc,c=(none,na,nb,out,g,ac,bc)/\Jh lt a b out na nb/\0<na/\na<a.size/\1<nb/\nb<=b.size/\x+1+y<=out.size)
    (Q:=fun c st'=>aA st st'/\∃ r na nb out g ac bc,c=(r,na,nb,out,g,ac,bc)/\Sh lt a b (x+1+1) r out na nb) ?step2 ?fin2 ⟨hs,_,_,_,_,_,_,rfl,j,ha,ha2,hb,hb2,hn⟩) ?post2)
   case fin2 =>
    rintro c st' ⟨hs,na,nb,out,g,ac,bc,rfl,j,ha,ha2,hb,hb2,hn⟩;exact⟨hs,_,_,_,_,_,_,_,rfl,.inr ⟨rfl,j,ha,ha2,hb,hb2,by omega⟩⟩
   case post2 =>
    rintro c st' ⟨hs,r,na,nb,out,g,ac,bc,rfl,⟨q,rfl,hq⟩ | ⟨rfl,j,ha,ha2,hb,hb2,hn⟩⟩
    ·exact II ⟨hs,_,_,rfl,hq⟩
    dsimp only;refine qh hs fun st2 hs=>?_;exact II ⟨hs,_,_,_,_,rfl,j,ha,ha2,hb,hb2,hn⟩
   case step2 =>
    rintro y c st' _ hy ⟨hs,na,nb,out,g,ac,bc,rfl,j,ha,ha2,hb,hb2,hn⟩;dsimp only
    apply Cc
    ·intro rest
     by_cases gg:g>1
     ·rw[Iq gg]
      generalize g-1=g';exact rest g'
     ·rw[Ip gg]
      exact rest g
    intro g';refine qh hs fun st2 hs=>?_;refine dO (i:=nb-1) (by omega) ?_;refine qg (xs:=a) (b:=0) (n:=na) (hint:=na-1) O (hs.2.2.1.trans kd) (W.mb (nb-1) (by omega)) (by omega) (fun i hi=>W.ma _ (by omega)) (fun i j h1 h2 h3=>W.ua i j (by omega) h2 (by omega)) (by omega) fun k k1 k2 k3=>?_;dsimp only
    have q1:∀ i,k<=i->i<na->lt (el b (nb-1)) (el a i)=true:=fun i h1 h2=>by
     have:=k3 i h1 h2;unfold Bf at this
     rwa [Ip Iw,Bool.not_eq_false',Nat.zero_add]at this
    have q3:0<k->lt (el a (k-1)) (el b (nb-1))=true:=fun hk=>by
     have:=k2 (k-1) (by omega);unfold Bf at this;rw[Ip Iw,KL,Nat.zero_add]at this;exact O.not (W.mb _ (by omega)) (W.ma _ (by omega)) (fun e=>W.ne _ _ (by omega) (by omega) e.symm) this
    generalize hd:na-k=d
    apply u7 (fun o i=>Jh lt a b o i nb/\x+1+y<=o.size/\lt (el a (i-1)) (el b (nb-1))=true/\0<i/\i<=na)
    ·intro rest
     by_cases gk:d>0
     ·rw[Iq gk]
      have j2:=j.mA O W k1 (by omega) q1
      by_cases e1:k=0
      ·rw[Iq (by simpa using e1)]
       exact II ⟨hs,_,_,_,_,_,_,_,rfl,.inl ⟨_,rfl,j2.dn e1⟩⟩
      rw[Ip (by simpa using e1)]
      have z3:x+1+y<=(out++(a.extract k na).reverse).size:=by
       rw[Array.size_append];exact Nat.le_add_right_of_le hn
      generalize out++(a.extract k na).reverse=o at j2 z3 ⊢;have q4:=q3 (by omega);have q5:0<k/\k<=na:=⟨by omega,k1⟩;generalize k=i at j2 q4 q5 ⊢;exact rest o i ⟨j2,z3,q4,q5⟩
     ·rw[Ip gk]
      exact rest out na ⟨j,hn,by rw[show na=k by omega];exact q3 (by omega),by omega,by omega⟩
    rintro o i ⟨j,z3,q3,i1,i2⟩;refine dO (i:=nb-1) (by omega) ?_;have j3:=j.pB O W (by omega) (by omega) (by omega) q3
    by_cases e2:nb-1=1
    ·rw[Iq (by simpa using e2)]
     exact II ⟨hs,_,_,_,_,_,_,_,rfl,.inl ⟨_,rfl,j3.ls e2 W.zb⟩⟩
    rw[Ip (by simpa using e2)];refine dO (i:=i-1) (by omega) ?_;refine qg (xs:=b) (b:=0) (n:=nb-1) (hint:=nb-1-1) O (hs.2.2.1.trans kd) (W.ma (i-1) (by omega)) (by omega) (fun i hi=>W.mb _ (by omega)) (fun i j h1 h2 h3=>W.ub i j (by omega) h2 (by omega)) (by omega) fun l l1 l2 l3=>?_;dsimp only
    have r1:∀ h,l<=h->h<nb-1->lt (el a (i-1)) (el b h)=true:=fun h h1 h2=>by
     have:=l3 h h1 h2;unfold Bf at this;rw[Iq rfl,Nat.zero_add]at this;exact O.not (W.mb _ (by omega)) (W.ma _ (by omega)) (fun e=>W.ne _ _ (by omega) (by omega) e.symm) this
    have r2:0<l:=by
     rcases Nat.eq_zero_or_pos l with q | q
     ·have q4:=r1 0 (by omega) (by omega)
      rw[O.asym (W.blw O (by omega))]at q4;cases q4
     ·exact q
    have r3:lt (el b (l-1)) (el a (i-1))=true:=by
     have:=l2 (l-1) (by omega);unfold Bf at this
     rwa [Iq rfl,Nat.zero_add]at this
    have z3':x+1+y+1<=(o.push (el b (nb-1))).size:=by
     rw[JC];exact Nat.succ_le_succ z3
    generalize hf:nb-1-l=f
    apply u7 (fun o m=>Jh lt a b o i m/\x+1+y+1<=o.size/\lt (el b (m-1)) (el a (i-1))=true/\1<m/\m<=b.size)
    ·intro rest
     by_cases gl:f>0
     ·rw[Iq gl]
      have j4:=j3.mB O W l1 (by omega) r1
      by_cases e5:l=1
      ·rw[Iq (by simpa using e5)]
       exact II ⟨hs,_,_,_,_,_,_,_,rfl,.inl ⟨_,rfl,j4.ls e5 W.zb⟩⟩
      rw[Ip (by simpa using e5),Ip (by simp only[JS];omega)]
      have z4:x+1+y+1<=(o.push (el b (nb-1))++(b.extract l (nb-1)).reverse).size:=by
       rw[Array.size_append];exact Nat.le_add_right_of_le z3'
      generalize o.push (el b (nb-1))++(b.extract l (nb-1)).reverse=o' at j4 z4 ⊢;have r4:=r3;have m4:1<l/\l<=b.size:=⟨by omega,by omega⟩;generalize l=m at j4 r4 m4 ⊢;exact rest o' m ⟨j4,z4,r4,m4⟩
     ·rw[Ip gl]
      exact rest _ _ ⟨j3,z3',by rw[show nb-1=l by omega];exact r3,by omega,by omega⟩
    rintro o m ⟨j,z4,r3,m1,m2⟩;refine dO (i:=i-1) (by omega) ?_;have j5:=j.pA O W (by omega) (by omega) (by omega) r3
    by_cases e3:i-1=0
    ·rw[Iq (by simpa using e3)]
     exact II ⟨hs,_,_,_,_,_,_,_,rfl,.inl ⟨_,rfl,j5.dn e3⟩⟩
    rw[Ip (by simpa using e3)]
    have z5:x+1+y+1<=(o.push (el a (i-1))).size:=by
     rw[JC];exact Nat.le_succ_of_le z4
    by_cases e4:(decide (d<7)&&decide (f<7))=true
    ·rw[Iq e4]
     exact II ⟨hs,_,_,_,_,_,_,_,rfl,.inr ⟨rfl,j5,by omega,by omega,by omega,by omega,by omega⟩⟩
    ·rw[Ip e4]
     exact II ⟨hs,_,_,_,_,_,_,rfl,j5,by omega,by omega,by omega,by omega,by omega⟩
end
def back (q:Nat)(m arr:Array Keyed):Array Keyed:=m.toList.zipIdx.foldl (fun a (p,j)=>a.setIfInBounds (q+j) p) arr
theorem AL (q:Nat):∀ (l:List Keyed)(k:Nat)(arr:Array Keyed),q+k+l.length<=arr.size->((l.zipIdx k).foldl (fun (a:Array Keyed)(x:Keyed×Nat)=>a.setIfInBounds (q+x.2) x.1) arr).size=arr.size/\∀ i,((l.zipIdx k).foldl (fun (a:Array Keyed)(x:Keyed×Nat)=>a.setIfInBounds (q+x.2) x.1) arr)[i]? = if q+k<=i/\i<q+k+l.length then l[i-(q+k)]? else arr[i]?:=by
 intro l
 induction l with
 | nil =>
  intro k arr h;refine⟨rfl,fun i=>?_⟩;rw[Ip (by simp only[List.length_nil];omega)];rfl
 | cons x r ih =>
  intro k arr h;rw[Jc]at h;rw[List.zipIdx_cons,KF];dsimp only;have hs:(arr.setIfInBounds (q+k) x).size=arr.size:=Array.size_setIfInBounds;obtain⟨h1,h2⟩:=ih (k+1) (arr.setIfInBounds (q+k) x) (by rw[hs];omega);refine⟨h1.trans hs,fun i=>?_⟩;rw[h2 i,Jc]
  by_cases c:q+(k+1)<=i/\i<q+(k+1)+r.length
  ·rw[Iq c,Iq (by omega),show i-(q+k)=(i-(q+(k+1)))+1 by omega,List.getElem?_cons_succ]
  ·rw[Ip c]
   by_cases e:i=q+k
   ·rw[Iq (by omega),e,KR,List.getElem?_cons_zero,Array.getElem?_setIfInBounds_self_of_lt (by omega)]
   ·rw[Ip (by omega),Array.getElem?_setIfInBounds_ne (fun z=>e z.symm)]
theorem sY {q:Nat}{m arr:Array Keyed}(h:q+m.size<=arr.size)(i:Nat):(back q m arr)[i]? = if q<=i/\i<q+m.size then m[i-q]? else arr[i]?:=by
 have:=(AL q m.toList 0 arr (by simpa using h)).2 i;simpa [back] using this
theorem CP {q:Nat}{m arr:Array Keyed}(h:q+m.size<=arr.size)(i:Nat):el (back q m arr) i=if q<=i/\i<q+m.size then el m (i-q) else el arr i:=by
 have:=sY h i
 by_cases c:q<=i/\i<q+m.size
 ·rw[Iq c]at this ⊢;exact fm this
 ·rw[Ip c]at this ⊢;exact fm this
theorem zC {q:Nat}{m arr:Array Keyed}(h:q+m.size<=arr.size)(p:m.toList.Perm ((arr.toList.drop q).take m.size)):(back q m arr).Perm arr:=by
 rw[Array.perm_iff_toList_perm]
 have e:(back q m arr).toList=arr.toList.take q++(m.toList++arr.toList.drop (q+m.size)):=by
  apply KN
  intro i;rw[Array.getElem?_toList,sY h]
  by_cases c1:i<q
  ·rw[Ip (by omega),List.getElem?_append_left (by simp;omega),List.getElem?_take,Iq c1,Array.getElem?_toList]
  ·rw[List.getElem?_append_right (by simp;omega),show (arr.toList.take q).length=q by simp;omega]
   by_cases c2:i<q+m.size
   ·rw[Iq (by omega),List.getElem?_append_left (by simp;omega),Array.getElem?_toList]
   ·rw[Ip (by omega),List.getElem?_append_right (by simp;omega),List.getElem?_drop,Array.getElem?_toList,IU]
    congr 1
    omega
 rw[e];refine List.Perm.trans ((p.append_right _).append_left _) (List.Perm.of_eq ?_);rw[<-List.drop_drop,JV,JV]
theorem DW {a:Array Keyed}{p q i:Nat}(h:p+i<q)(hq:q<=a.size):el (a.extract p q) i=el a (p+i):=by
 refine fm ?_;rw[Array.getElem?_extract];rw[Iq (by omega)]
theorem zk {a:Array Keyed}{p q:Nat}(hq:q<=a.size):(a.extract p q).size=q-p:=by
 rw[Array.size_extract];omega
section
variable {P:Program}{w:World}{A:Around}{E:Value->Shared->Prop}{s:Shared}{κ:SortKind}{a0:Array Keyed}{lt:Keyed->Keyed->Bool}{st:SortSt}
theorem FB (O:Ord P w A s κ a0 lt)(B:du κ a0 st){p q r:Nat}(h1:p<q)(h2:q<r)(h3:r<=a0.size)(u1:Up lt (arrOf st) p q)(u2:Up lt (arrOf st) q r)(g0:lt (el (arrOf st) q) (el (arrOf st) p)=true)(gl:lt (el (arrOf st) (r-1)) (el (arrOf st) (q-1))=true) :
  vm a0 lt ((arrOf st).extract p q) ((arrOf st).extract q r):=by
 have hz:=B.sz;have s1:((arrOf st).extract p q).size=q-p:=zk (by omega);have s2:((arrOf st).extract q r).size=r-q:=zk (by omega);have e1:∀ i,i<q-p->el ((arrOf st).extract p q) i=el (arrOf st) (p+i):=fun i hi=>DW (by omega) (by omega);have e2:∀ i,i<r-q->el ((arrOf st).extract q r) i=el (arrOf st) (q+i):=fun i hi=>DW (by omega) (by omega);refine⟨fun i hi=>?_,fun i hi=>?_,fun i j hi hj=>?_,fun i j _ hij hj=>?_,fun i j _ hij hj=>?_,by omega,by omega,?_,?_⟩
 ·rw[s1]at hi;rw[e1 i hi];exact B.mem (by omega)
 ·rw[s2]at hi;rw[e2 i hi];exact B.mem (by omega)
 ·rw[s1]at hi;rw[s2]at hj;rw[e1 i hi,e2 j hj];exact B.ne O (by omega) (by omega) (by omega)
 ·rw[s1]at hj;rw[e1 i (by omega),e1 j hj];exact u1 _ _ (by omega) (by omega) (by omega)
 ·rw[s2]at hj;rw[e2 i (by omega),e2 j hj];exact u2 _ _ (by omega) (by omega) (by omega)
 ·rw[e1 0 (by omega),e2 0 (by omega)];exact g0
 ·rw[s1,s2,e1 _ (by omega),e2 _ (by omega),show q+(r-q-1)=r-1 by omega,show p+(q-p-1)=q-1 by omega];exact gl
theorem FF {st':SortSt}{Q:PUnit->SortSt->Prop}(h:Q ⟨⟩ st'):wpS (model P w) A E s (set st':StateT SortSt Sem PUnit) Q st:=by
 unfold wpS;rw[StateT.run_set];exact Iu ⟨rfl,h⟩
theorem HW (O:Ord P w A s κ a0 lt)(B:du κ a0 st){sa na nb k l:Nat}(hk:k<na)(hl:0<l)(hl2:l<=nb)(hz:sa+na+nb<=a0.size)(u1:Up lt (arrOf st) sa (sa+na))(u2:Up lt (arrOf st) (sa+na) (sa+na+nb))
  (q1:∀ i,sa<=i->i<sa+k->lt (el (arrOf st) i) (el (arrOf st) (sa+na))=true) (q2:∀ i,sa+na+l<=i->i<sa+na+nb->lt (el (arrOf st) (sa+na-1)) (el (arrOf st) i)=true) {m:Array Keyed}
  (F:Fn (fun x y=>lt x y=true) (((arrOf st).extract (sa+k) (sa+na)).toList++((arrOf st).extract (sa+na) (sa+na+l)).toList) m.toList) :
  (back (sa+k) m (arrOf st)).Perm a0/\Up lt (back (sa+k) m (arrOf st)) sa (sa+(na+nb))/\yA (arrOf st) (back (sa+k) m (arrOf st)) sa (sa+(na+nb)):=by
 have hs:=B.sz
 have hm:m.size=na-k+l:=by
  have:=F.1.length_eq;rw[ID,IU,IU,IU,zk (by omega),zk (by omega)]at this;omega
 have hb:sa+k+m.size<=(arrOf st).size:=by omega
 have eT:((arrOf st).extract (sa+k) (sa+na)).toList++((arrOf st).extract (sa+na) (sa+na+l)).toList=((arrOf st).toList.drop (sa+k)).take m.size:=by
  rw[JZ,JZ,JN,JN,show sa+na-(sa+k)=na-k by omega,show sa+na+l-(sa+na)=l by omega,hm,List.take_add,List.drop_drop,show sa+k+(na-k)=sa+na by omega]
 have eb:=CP hb;have p:=zC hb (F.1.trans (List.Perm.of_eq eT))
 have mid:∀ i,i<m.size->∃ j,sa+k<=j/\j<sa+na+l/\el m i=el (arrOf st) j:=fun i hi=>by
  have h1:el m i∈m.toList:=Kj.mpr (AX hi);rcases IP.mp (F.1.mem_iff.mp h1) with z | z
  ·rw[show sa+na=sa+k+(na-k) by omega]at z
   obtain⟨j,j1,_,j3⟩:=uF z;exact⟨_,by omega,by omega,j3⟩
  ·obtain⟨j,j1,_,j3⟩:=uF z
   exact⟨_,by omega,by omega,j3⟩
 have lo:∀ i j,sa<=i->i<sa+k->sa+k<=j->j<sa+na+nb->lt (el (arrOf st) i) (el (arrOf st) j)=true:=fun i j i1 i2 j1 j2=>by
  by_cases c:j<sa+na
  ·exact u1 i j i1 (by omega) c
  ·by_cases c2:j=sa+na
   ·rw[c2];exact q1 i i1 i2
   ·exact O.tr _ _ _ (q1 i i1 i2) (u2 _ _ (by omega) (by omega) (by omega))
 have hi:∀ i j,sa+k<=i->i<sa+na+l->sa+na+l<=j->j<sa+na+nb->lt (el (arrOf st) i) (el (arrOf st) j)=true:=fun i j i1 i2 j1 j2=>by
  by_cases c:sa+na<=i
  ·exact u2 i j c (by omega) j2
  ·by_cases c2:i=sa+na-1
   ·rw[c2];exact q2 j j1 j2
   ·exact O.tr _ _ _ (u1 i (sa+na-1) (by omega) (by omega) (by omega)) (q2 j j1 j2)
 have um:∀ i j,i<j->j<m.size->lt (el m i) (el m j)=true:=fun i j hij hj=>by
  have h1:=(Km.mp F.2) i j (by rw[IU];omega) (by rw[IU];omega) hij
  have h2:i<m.size:=by omega
  unfold el;simpa [Array.getD,h2,hj] using h1
 refine⟨p.trans B.pm,fun i j i1 hij j1=>?_,fun i hi=>?_⟩
 ·rw[eb,eb]
  by_cases c1:i<sa+k
  ·rw[Ip (by omega)]
   by_cases c2:j<sa+k
   ·rw[Ip (by omega)];exact u1 i j i1 hij (by omega)
   ·by_cases c3:j<sa+k+m.size
    ·rw[Iq (by omega)]
     obtain⟨q,z1,z2,z3⟩:=mid (j-(sa+k)) (by omega);rw[z3];exact lo i q i1 c1 z1 (by omega)
    ·rw[Ip (by omega)]
     exact lo i j i1 c1 (by omega) (by omega)
  ·by_cases c3:i<sa+k+m.size
   ·rw[Iq (by omega)]
    by_cases c4:j<sa+k+m.size
    ·rw[Iq (by omega)]
     exact um _ _ (by omega) (by omega)
    ·rw[Ip (by omega)]
     obtain⟨q,z1,z2,z3⟩:=mid (i-(sa+k)) (by omega);rw[z3];exact hi q j z1 z2 (by omega) (by omega)
   ·rw[Ip (by omega),Ip (by omega)]
    exact u2 i j (by omega) hij (by omega)
 ·rw[eb,Ip (by omega)]
theorem Ct (O:Ord P w A s κ a0 lt)(B:du κ a0 st){i sa na sb nb pw pq:Nat}(h1:(pendingOf st)[i]? = some (sa,na,pw))(h2:(pendingOf st)[i+1]? = some (sb,nb,pq))(eb:sb=sa+na)(ha:1<=na)(hb:1<=nb)(hz:sb+nb<=a0.size)
  (u1:Up lt (arrOf st) sa sb) (u2:Up lt (arrOf st) sb (sb+nb)) {Q:Bool->SortSt->Prop}
  (fin:∀ st',du κ a0 st'->pendingOf st'=((pendingOf st).setIfInBounds i (sa,na+nb,pw)).eraseIdxIfInBounds (i+1)->Up lt (arrOf st') sa (sa+(na+nb))->yA (arrOf st) (arrOf st') sa (sa+(na+nb))->Q true st'):wpS (model P w) A E s (mergeAt' i) Q st:=by
 subst eb;have hs:=B.sz;unfold mergeAt';refine IK (wpS_get ?_);have h1':=h1;have h2':=h2;unfold pendingOf at h1' h2';rw[h1',h2'];dsimp only;refine IK (FF ?_)
 let st1:SortSt:=SortSt.mk' (kindOf st) (arrOf st) (((pendingOf st).setIfInBounds i (sa,na+nb,pw)).eraseIdxIfInBounds (i+1)) (gallopOf st) (failedOf st)
 have B1:du κ a0 st1:=⟨B.pm,B.fl,B.kd⟩
 show wpS (model P w) A E s _ Q st1
 refine IK ?_;refine pz (xs:=arrOf st) (i:=sa+na) (by omega) ?_;refine IK ?_;refine oO (xs:=arrOf st) (b:=sa) (n:=na) (hint:=0) O B1.kd (B.mem (by omega)) (by omega) (fun i hi=>B.mem (by omega)) u1 (by omega) fun k k1 k2 k3=>?_;dsimp only
 have q1:∀ i,sa<=i->i<sa+k->lt (el (arrOf st) i) (el (arrOf st) (sa+na))=true:=fun i i1 i2=>by
  have:=k2 (i-sa) (by omega);unfold Bf at this;rw[Ip Iw,KL,show sa+(i-sa)=i by omega]at this;exact O.not (B.mem (by omega)) (B.mem (by omega)) (B.ne O (by omega) (by omega) (by omega)) this
 have whole:lt (el (arrOf st) (sa+na-1)) (el (arrOf st) (sa+na))=true->Up lt (arrOf st) sa (sa+(na+nb)):=fun g i j i1 hij j1=>by
  by_cases c1:j<sa+na
  ·exact u1 i j i1 hij c1
  ·by_cases c2:sa+na<=i
   ·exact u2 i j c2 hij (by omega)
   ·have z:lt (el (arrOf st) i) (el (arrOf st) (sa+na))=true:=by
     by_cases c3:i=sa+na-1
     ·rw[c3];exact g
     ·exact O.tr _ _ _ (u1 i (sa+na-1) i1 (by omega) (by omega)) g
    by_cases c4:j=sa+na
    ·rw[c4];exact z
    ·exact O.tr _ _ _ z (u2 _ _ (by omega) (by omega) (by omega))
 by_cases e1:na-k=0
 ·rw[Iq (by simpa using e1)]
  exact II (fin st1 B1 rfl (whole (q1 _ (by omega) (by omega))) (yA.refl _ _ _))
 rw[Ip (by simpa using e1)]
 have q3:lt (el (arrOf st) (sa+na)) (el (arrOf st) (sa+k))=true:=by
  have:=k3 k (Iv _) (by omega);unfold Bf at this
  rwa [Ip Iw,Bool.not_eq_false']at this
 refine IK ?_;refine pz (xs:=arrOf st) (i:=sa+k+(na-k)-1) (by omega) ?_;rw[show sa+k+(na-k)-1=sa+na-1 by omega];refine IK ?_;refine oO (xs:=arrOf st) (b:=sa+na) (n:=nb) (hint:=nb-1) O B1.kd (B.mem (by omega)) (by omega) (fun i hi=>B.mem (by omega)) u2 (by omega) fun l l1 l2 l3=>?_;dsimp only
 have q2:∀ i,sa+na+l<=i->i<sa+na+nb->lt (el (arrOf st) (sa+na-1)) (el (arrOf st) i)=true:=fun i i1 i2=>by
  have:=l3 (i-(sa+na)) (by omega) (by omega);unfold Bf at this;rw[Iq rfl,show sa+na+(i-(sa+na))=i by omega]at this;exact O.not (B.mem (by omega)) (B.mem (by omega)) (B.ne O (by omega) (by omega) (by omega)) this
 by_cases e2:l=0
 ·rw[Iq (by simpa using e2)]
  exact II (fin st1 B1 rfl (whole (q2 _ (by omega) (by omega))) (yA.refl _ _ _))
 rw[Ip (by simpa using e2)]
 have q4:lt (el (arrOf st) (sa+na+l-1)) (el (arrOf st) (sa+na-1))=true:=by
  have:=l2 (l-1) (by omega);unfold Bf at this
  rwa [Iq rfl,show sa+na+(l-1)=sa+na+l-1 by omega]at this
 have W:vm a0 lt ((arrOf st).extract (sa+k) (sa+na)) ((arrOf st).extract (sa+na) (sa+na+l)):=FB O B (by omega) (by omega) (by omega) (fun i j h1 h2 h3=>u1 i j (by omega) h2 h3) (fun i j h1 h2 h3=>u2 i j h1 h2 (by omega)) q3 q4
 have last:∀ (m:Array Keyed)(st2:SortSt),aA st1 st2->Fn (fun x y=>lt x y=true) (((arrOf st).extract (sa+k) (sa+na)).toList++((arrOf st).extract (sa+na) (sa+na+l)).toList) m.toList ->
   wpS (model P w) A E s (do modify (fun s=>setArr s (back (sa+k) m (arrOf s)));return (failedOf (<-get)).isNone) Q st2:=fun m st2 S F=>by
  refine IK (wpS_modify ?_);refine IK (wpS_get ?_);have hf:failedOf st2=none:=S.2.1.trans B1.fl;refine II ?_
  show Q (failedOf st2).isNone _
  rw[hf];obtain⟨z1,z2,z3⟩:=HW O B (sa:=sa) (na:=na) (nb:=nb) (k:=k) (l:=l) (by omega) (by omega) l1 hz u1 u2 q1 q2 F;have ea:arrOf st2=arrOf st:=S.1;refine fin _ ⟨?_,hf,S.2.2.1.trans B1.kd⟩ S.2.2.2 ?_ ?_
  ·show (back (sa+k) m (arrOf st2)).Perm a0
   rw[ea];exact z1
  ·show Up lt (back (sa+k) m (arrOf st2)) _ _
   rw[ea];exact z2
  ·show yA _ (back (sa+k) m (arrOf st2)) _ _
   rw[ea];exact z3
 by_cases e3:na-k<=l
 ·rw[Iq e3]
  refine IK ?_;exact GG O B1.kd W fun m st2 S F=>last m st2 S F
 ·rw[Ip e3]
  refine IK ?_;exact GF O B1.kd W fun m st2 S F=>last m st2 S F
end
def Ch (lt:Keyed->Keyed->Bool)(xs:Array Keyed):Nat->List (Nat×Nat×Nat)->Nat->Prop
 | f,[],u=>f=u
 | f,t::r,u=>t.1=f/\1<=t.2.1/\Up lt xs f (f+t.2.1)/\Ch lt xs (f+t.2.1) r u
section
variable {lt:Keyed->Keyed->Bool}{xs ys:Array Keyed}
theorem qx:∀ {l1 l2:List (Nat×Nat×Nat)}{f u:Nat},Ch lt xs f (l1++l2) u↔∃ m,Ch lt xs f l1 m/\Ch lt xs m l2 u
 | [],l2,f,u=>⟨fun h=>⟨f,rfl,h⟩,fun ⟨m,e,h⟩=>by cases e;exact h⟩
 | t::r,l2,f,u=>by
  constructor
  ·rintro⟨a1,a2,a3,a4⟩
   obtain⟨m,m1,m2⟩:=qx.mp a4;exact⟨m,⟨a1,a2,a3,m1⟩,m2⟩
  ·rintro⟨m,⟨a1,a2,a3,a4⟩,m2⟩
   exact⟨a1,a2,a3,qx.mpr ⟨m,a4,m2⟩⟩
theorem vA:∀ {l:List (Nat×Nat×Nat)}{f u:Nat},Ch lt xs f l u->f+l.length<=u
 | [],f,u,h=>by cases h;exact Iv _
 | t::r,f,u,⟨_,a2,_,a4⟩=>by have:=vA a4;rw[Jc];omega
theorem qy:∀ {l:List (Nat×Nat×Nat)}{f u:Nat},(∀ i,f<=i->i<u->el ys i=el xs i)->Ch lt xs f l u->Ch lt ys f l u
 | [],f,u,_,h=>h
 | t::r,f,u,e,⟨a1,a2,a3,a4⟩=>by
  have z:=vA a4;refine⟨a1,a2,fun i j i1 hij j1=>?_,qy (fun i i1 i2=>e i (by omega) i2) a4⟩;rw[e i i1 (by omega),e j (by omega) (by omega)];exact a3 i j i1 hij j1
theorem AN {g:Nat×Nat×Nat->Nat×Nat×Nat}(hg:∀ t,(g t).1=t.1/\(g t).2.1=t.2.1):∀ {l:List (Nat×Nat×Nat)}{j f u:Nat},Ch lt xs f l u->Ch lt xs f (l.modify j g) u
 | [],j,f,u,h=>by cases j<;>exact h
 | t::r,0,f,u,⟨a1,a2,a3,a4⟩=>by
  rw[List.modify_zero_cons];exact⟨(hg t).1.trans a1,by rw[(hg t).2];exact a2,by rw[(hg t).2];exact a3,by rw[(hg t).2];exact a4⟩
 | t::r,j+1,f,u,⟨a1,a2,a3,a4⟩=>by
  rw[List.modify_succ_cons];exact⟨a1,a2,a3,AN hg a4⟩
theorem Fl {α:Type}{l:List α}{i:Nat}(h:i+1<l.length):∃ l1 x y l2,l=l1++x::y::l2/\l1.length=i:=by
 refine⟨l.take i,l[i],l[i+1],l.drop (i+1+1),?_,by rw[Jn];omega⟩;rw[List.getElem_cons_drop,List.getElem_cons_drop,JV]
end
theorem EF {c:Prop} [Decidable c] {p:Nat}(h:1<p):(if c then p-2-1 else p-2)+1<p:=by split<;>omega
theorem Fj {P:Nat->SortSt->Prop}{G:Prop}(C:Nat->SortSt->Prop)(main:(∀ n t,C n t->P n t)->G)(key:∀ n t,C n t->P n t):G:=main key
section
variable {P:Program}{w:World}{A:Around}{E:Value->Shared->Prop}{s:Shared}{κ:SortKind}{a0:Array Keyed}{lt:Keyed->Keyed->Bool}{st:SortSt}
theorem Eb (O:Ord P w A s κ a0 lt)(B:du κ a0 st){i u:Nat}(hu:u<=a0.size)(C:Ch lt (arrOf st) 0 (pendingOf st).toList u)(hi:i+1<(pendingOf st).size){Q:Bool->SortSt->Prop}
  (fin:∀ st',du κ a0 st'->Ch lt (arrOf st') 0 (pendingOf st').toList u->(pendingOf st').size+1=(pendingOf st).size->(∀ i,u<=i->el (arrOf st') i=el (arrOf st) i)->Q true st'):wpS (model P w) A E s (mergeAt' i) Q st:=by
 obtain⟨l1,⟨sa,na,pw⟩,⟨sb,nb,pq⟩,l2,e,el⟩:=Fl (l:=(pendingOf st).toList) (i:=i) (by simpa using hi);rw[e]at C;obtain⟨m,c1,a1,a2,a3,b1,b2,b3,b4⟩:=qx.mp C;dsimp only at a1 a2 a3 b1 b2 b3 b4;subst a1;subst b1;have zl:=vA c1;have zr:=vA b4
 have g1:(pendingOf st)[i]? = some (sa,na,pw):=by
  rw[<-Array.getElem?_toList,e,List.getElem?_append_right (by omega),el,KR];rfl
 have g2:(pendingOf st)[i+1]? = some (sa+na,nb,pq):=by
  rw[<-Array.getElem?_toList,e,List.getElem?_append_right (by omega),el,show i+1-i=1 by omega];rfl
 refine Ct O B g1 g2 rfl a2 b2 (by omega) a3 b3 fun st' B' p' u' o'=>?_
 have ep:(pendingOf st').toList=l1++(sa,na+nb,pw)::l2:=by
  rw[p',Array.toList_eraseIdxIfInBounds,Array.toList_setIfInBounds,e];rw[List.set_append_right _ _ (by omega),el,KR,List.set_cons_zero,List.eraseIdx_append_of_length_le (by omega),el,show i+1-i=1 by omega];rfl
 refine fin st' B' ?_ ?_ fun j hj=>?_
 ·rw[ep]
  refine qx.mpr ⟨sa,qy (fun j j1 j2=>o' j (by omega)) c1,rfl,by show 1<=na+nb;omega,u',?_⟩
  show Ch lt _ (sa+(na+nb)) l2 u
  rw[<-Nat.add_assoc];exact qy (fun j j1 j2=>o' j (by omega)) b4
 ·have q1:=Jk List.length ep
  have q2:=Jk List.length e;simp only[IU,ID,Jc]at q1 q2;omega
 ·exact o' j (by omega)
theorem wp_runs (O:Ord P w A s κ a0 lt)(B:du κ a0 st)(hp:pendingOf st = #[])(h1:1<=a0.size){Q:Unit->SortSt->Prop}
  (fin:∀ st',du κ a0 st'->Up lt (arrOf st') 0 a0.size->Q () st'):wpS (model P w) A E s sortRuns' Q st:=by
 rw[sortRuns'_eq];refine IK (wpS_get ?_);dsimp only;simp only[B.sz];generalize minRun' a0.size a0.size 0=mr
 refine IK (JY (Jy (I:=fun x c st'=>∃ lo,c=(none,lo)/\x<=lo/\lo<=a0.size/\du κ a0 st'/\Ch lt (arrOf st') 0 (pendingOf st').toList lo)
  (Q:=fun c st'=>c=(none,a0.size)/\du κ a0 st'/\Ch lt (arrOf st') 0 (pendingOf st').toList a0.size) ?step ?fin1 ⟨0,rfl,by omega,by omega,B,by rw[hp];rfl⟩) ?post)
 case fin1 =>
  rintro c st' ⟨lo,rfl,x1,x2,B',C'⟩
  have e:lo=a0.size:=by omega
  subst e;exact⟨rfl,B',C'⟩
 case post =>
  rintro c st' ⟨rfl,B',C'⟩;dsimp only
  refine IK (JY (Jy (I:=fun x c st'=>c=(none,())/\du κ a0 st'/\Ch lt (arrOf st') 0 (pendingOf st').toList a0.size/\(pendingOf st').size+x<=a0.size)
   (Q:=fun c st'=>c=(none,())/\du κ a0 st'/\Ch lt (arrOf st') 0 (pendingOf st').toList a0.size/\(pendingOf st').size<=1) ?step2 ?fin2 ⟨rfl,B',C',by have:=vA C';simp only[IU]at this;omega⟩) ?post2)
  case fin2 =>
   rintro c st' ⟨rfl,B',C',z⟩;exact⟨rfl,B',C',by omega⟩
  case post2 =>
   rintro c st' ⟨rfl,B',C',z⟩;refine II (fin st' B' ?_)
   have q1:(pendingOf st').toList.length<=1:=by simpa using z
   match hl:(pendingOf st').toList,q1 with
   | [],_=>rw[hl]at C';have:0=a0.size:=C';omega
   | [t],_ =>
    rw[hl]at C';obtain⟨a1,a2,a3,a4⟩:=C';have a5:0+t.2.1=a0.size:=a4;rw[a5]at a3;exact a3
  case step2 =>
   rintro x c st' _ hx ⟨rfl,B',C',z⟩;refine IK (wpS_get ?_)
   by_cases g:(pendingOf st').size<=1
   ·rw[Iq g]
    exact II ⟨rfl,B',C',g⟩
   rw[Ip g];refine IK (Eb O B' (Iv _) C' ?_ fun st2 B2 C2 z2 _=>?_)
   ·exact EF (by omega)
   ·simp only[Bool.not_true,JF,J5]
    exact II ⟨rfl,B2,C2,by omega⟩
 case step =>
  rintro x c st' _ hx ⟨lo,rfl,x1,x2,B',C'⟩;dsimp only
  by_cases g:lo>=a0.size
  ·rw[Iq g]
   have e:lo=a0.size:=by omega
   subst e;exact II ⟨rfl,B',C'⟩
  rw[Ip g]
  have push:∀ (n:Nat)(st2:SortSt),1<=n->lo+n<=a0.size->du κ a0 st2->Ch lt (arrOf st2) 0 (pendingOf st2).toList lo->Up lt (arrOf st2) lo (lo+n) ->
    ∃ q,(none,lo+n)=((none,q):Option Unit×Nat)/\x+1<=q/\q<=a0.size/\du κ a0 (setPending st2 ((pendingOf st2).push (lo,n,0)))/\Ch lt (arrOf (setPending st2 ((pendingOf st2).push (lo,n,0)))) 0 (pendingOf (setPending st2 ((pendingOf st2).push (lo,n,0)))).toList q:=by
   intro n st2 n1 n2 B2 C2 u2;refine⟨lo+n,rfl,by omega,n2,⟨B2.pm,B2.fl,B2.kd⟩,?_⟩
   show Ch lt (arrOf st2) 0 ((pendingOf st2).push (lo,n,0)).toList (lo+n)
   rw[KP];exact qx.mpr ⟨lo,C2,rfl,n1,u2,rfl⟩
  refine IK (Cs O B' (by omega) (by omega) fun n st2 B2 R2 n1 n2 u2 o2=>?_)
  have C2:Ch lt (arrOf st2) 0 (pendingOf st2).toList lo:=by
   rw[R2.1];exact qy (fun i i1 i2=>o2 i (by omega)) C'
  dsimp only
  apply Fj (fun n st2=>1<=n/\lo+n<=a0.size/\du κ a0 st2/\Ch lt (arrOf st2) 0 (pendingOf st2).toList lo/\Up lt (arrOf st2) lo (lo+n))
  ·intro rest
   by_cases g1:n<mr
   ·rw[Iq g1]
    refine IK (wpS_lift (KU ⟨rfl,?_⟩));refine IK (FD O B2 n1 (by omega) (by omega) u2 fun st5 B5 R5 u5 o5=>?_);simp only[Bool.not_true,JF,J5]
    have C5:Ch lt (arrOf st5) 0 (pendingOf st5).toList lo:=by
     rw[R5.1];exact qy (fun i i1 i2=>o5 i (by omega)) C2
    have m1:1<=min (a0.size-lo) mr/\lo+min (a0.size-lo) mr<=a0.size:=⟨by omega,by omega⟩;generalize min (a0.size-lo) mr=n5 at m1 u5 ⊢;exact rest n5 st5 ⟨m1.1,m1.2,B5,C5,u5⟩
   ·rw[Ip g1]
    exact rest n st2 ⟨n1,by omega,B2,C2,u2⟩
  clear B2 C2 u2 n1 n2 R2 o2;rintro n st2 ⟨n1,n2,B2,C2,u2⟩;refine IK (wpS_get ?_)
  cases hb:(pendingOf st2).back? with
  | none =>
   dsimp only;exact IK (wpS_modify (II (push n st2 n1 n2 B2 C2 u2)))
  | some t =>
   obtain⟨t1,t2,t3⟩:=t;dsimp only
   refine IK (JY (Jy (I:=fun x c st'=>c=(none,())/\du κ a0 st'/\Ch lt (arrOf st') 0 (pendingOf st').toList lo/\Up lt (arrOf st') lo (lo+n))
    (Q:=fun c st'=>c=(none,())/\du κ a0 st'/\Ch lt (arrOf st') 0 (pendingOf st').toList lo/\Up lt (arrOf st') lo (lo+n)) ?stepx (fun _ _ h=>h) ⟨rfl,B2,C2,u2⟩) ?postx)
   case postx =>
    rintro c st3 ⟨rfl,B3,C3,u3⟩;dsimp only;refine IK (wpS_modify (IK (wpS_modify (II (push n (setPending st3 _) n1 n2 ⟨B3.pm,B3.fl,B3.kd⟩ ?_ u3)))))
    show Ch lt (arrOf st3) 0 (Array.modify (pendingOf st3) _ _).toList lo
    rw[Array.toList_modify];refine AN ?_ C3;exact fun t=>⟨rfl,rfl⟩
   case stepx =>
    rintro y c st3 _ hy ⟨rfl,B3,C3,u3⟩;refine IK (wpS_get ?_)
    by_cases g2:(pendingOf st3).size>1
    ·rw[Iq g2]
     cases hq:(pendingOf st3)[(pendingOf st3).size-2]? with
     | none=>exact II ⟨rfl,B3,C3,u3⟩
     | some t =>
      obtain⟨v1,v2,v3⟩:=t;dsimp only
      by_cases g3:v3<=power' a0.size (2*t1+t2) (2*t1+t2+t2+n) a0.size
      ·rw[Iq g3]
       exact II ⟨rfl,B3,C3,u3⟩
      rw[Ip g3];refine IK (Eb O B3 (by omega) C3 (by omega) fun st4 B4 C4 z4 o4=>?_);simp only[Bool.not_true,JF,J5];refine II ⟨rfl,B4,C4,fun i j i1 hij j1=>?_⟩;rw[o4 i i1,o4 j (by omega)];exact u3 i j i1 hij j1
    ·rw[Ip g2]
     exact II ⟨rfl,B3,C3,u3⟩
end
end Tm
namespace Qs
open PySem PySem.W PyProof.Rows
theorem Ao {α β:Type}{f:α->β}{l m:List β}(h:l.Perm m):∀ {r:List α},m=r.map f->∃ ix:List α,ix.Perm r/\l=ix.map f:=by
 induction h with
 | nil =>
  intro r e
  have:r=[]:=by simpa using e.symm
  exact⟨[],by rw[this],rfl⟩
 | @cons x l1 l2 _ ih =>
  intro r e
  match r,e with
  | a::r',e =>
   rw[IT]at e;injection e with e1 e2;obtain⟨ix,p,q⟩:=ih e2;exact⟨a::ix,p.cons a,by rw[IT,<-e1,<-q]⟩
 | swap x y l =>
  intro r e
  match r,e with
  | [a],e=>simp at e
  | a::b::r',e =>
   rw[IT,IT]at e;injection e with e1 e2;injection e2 with e2 e3;exact⟨b::a::r',List.Perm.swap a b r',by rw[IT,IT,<-e1,<-e2,<-e3]⟩
 | trans _ _ ih1 ih2 =>
  intro r e;obtain⟨ix2,p2,q2⟩:=ih2 e;obtain⟨ix1,p1,q1⟩:=ih1 q2;exact⟨ix1,p1.trans p2,q1⟩
theorem w9 {α:Type}:∀ l:List α,l.zip l=l.map fun v=>(v,v)
 | []=>rfl
 | a::l=>by rw[List.zip_cons_cons,w9 l,IT]
theorem PairAt.uniq {h:Heap}{v:Value}{p q:Int×Int}(a:PairAt h v p)(b:PairAt h v q):p=q:=by
 obtain⟨b1,o1,n1,t1,u1,rfl,h1,_,d1⟩:=a;obtain⟨b2,o2,n2,t2,u2,e,h2,_,d2⟩:=b;injection e with e;subst e;rw[h1]at h2;injection h2 with h2;subst h2;rw[d1]at d2;injection d2 with d2 _;have d3:=Jk Array.toList d2;simp only[List.cons.injEq,Value.int.injEq]at d3;exact Prod.ext d3.1.1 d3.2.1.1
open Classical in
noncomputable def dec (h:Heap) (v:Value):Int×Int:=if z:∃ p,PairAt h v p then choose z else (0,0)
theorem nU {h:Heap}{v:Value}{p:Int×Int}(a:PairAt h v p):dec h v=p:=by
 unfold dec;rw[dif_pos ⟨p,a⟩];exact (Ke (⟨p,a⟩:∃ p,PairAt h v p)).uniq a
section
variable {prog:Program}{w:World}{A:Around}{E:Value->Shared->Prop}{s:Shared}
theorem yf {vs:List Value}{ps:List (Int×Int)}{Q:SortSt->Shared->Prop}(hp:Paired (PairAt s.heap) vs ps)(nd:ps.Nodup)(h2:2<=vs.length)
  (h:∀ st':SortSt,failedOf st'=none->(∃ out:List Value,(arrOf st').map (·.2)=out.toArray/\xk vs ps out)->Q st' s) :
  wpAny (model prog w) A ((sortRuns').run (SortSt.mk' (tuples' true) (vs.toArray.zip vs.toArray) #[] 7 none)) (fun r s'=>Q r.2 s') E s:=by
 have hl:vs.length=ps.length:=Ix hp
 let f:Nat->Keyed:=fun i=>(vs.getD i Value.none,vs.getD i Value.none)
 have ea:(vs.toArray.zip vs.toArray).toList=(List.range vs.length).map f:=by
  apply KN
  intro i;rw[Array.toList_zip,w9,List.getElem?_map,List.getElem?_map]
  by_cases hi:i<vs.length
  ·rw[List.getElem?_range hi];simp[hi,f]
  ·rw[List.getElem?_eq_none (l:=List.range vs.length) (by simp;omega),List.getElem?_eq_none (by simp;omega)];rfl
 have fp:∀ i,i<vs.length->PairAt s.heap (f i).1 (ps.getD i (0,0)):=fun i hi=>ph hp i hi
 have mem:∀ {x:Keyed},x∈vs.toArray.zip vs.toArray->∃ i,i<vs.length/\x=f i:=fun {x} hx=>by
  rw[<-Kj,ea]at hx;obtain⟨i,hi,e⟩:=Je.mp hx;exact⟨i,by simpa using hi,e.symm⟩
 have inj:∀ i j,i<vs.length->j<vs.length->f i=f j->i=j:=fun i j hi hj e=>by
  have e1:=fp i hi;rw[e]at e1;have e2:=e1.uniq (fp j hj);rw[hl]at hi hj
  have e3:ps.getD i (0,0)=ps[i]:=by simp[hi]
  have e4:ps.getD j (0,0)=ps[j]:=by simp[hj]
  rw[e3,e4]at e2;exact (List.getElem_inj nd).mp e2
 have O:Tm.Ord prog w A s (tuples' true) (vs.toArray.zip vs.toArray) (fun x y=>ltP (dec s.heap x.1) (dec s.heap y.1)):=by
  refine⟨fun {x y E Q} hx hy hq=>?_,fun x=>ltP_irr _,fun x y z=>ltP_tr,fun x y hx hy n=>?_,?_⟩
  ·obtain⟨i,hi,rfl⟩:=mem hx
   obtain⟨j,hj,rfl⟩:=mem hy;rw[nU (fp i hi),nU (fp j hj)]at hq;exact Dh (fp i hi) (fp j hj) ⟨rfl,hq⟩
  ·obtain⟨i,hi,rfl⟩:=mem hx
   obtain⟨j,hj,rfl⟩:=mem hy;refine Dg fun e=>n ?_;rw[nU (fp i hi),nU (fp j hj)]at e;rw[hl]at hi hj
   have e3:ps.getD i (0,0)=ps[i]:=by simp[hi]
   have e4:ps.getD j (0,0)=ps[j]:=by simp[hj]
   rw[e3,e4]at e;rw[(List.getElem_inj nd).mp e]
  ·rw[ea]
   refine KO.mpr ?_;rw[Km];intro i j hi hj hij e;rw[List.getElem_range,List.getElem_range]at e;have:=inj i j (by simpa using hi) (by simpa using hj) e;omega
 have Gp:(vs.toArray.zip vs.toArray).size=vs.length:=by simp
 refine IS (Tm.wp_runs (st:=SortSt.mk' (tuples' true) (vs.toArray.zip vs.toArray) #[] 7 none) O ⟨Array.Perm.refl _,rfl,rfl⟩ rfl (by rw[Gp];omega) (Q:=fun _ st'=>Q st' s) fun st' B u=>?_) (fun r s' hr=>by obtain⟨e,hq⟩:=hr;subst e;exact hq) fun _ _ e=>e;refine h st' B.fl ?_;obtain⟨ix,px,ex⟩:=Ao (f:=f) (Array.perm_iff_toList_perm.mp B.pm) ea;refine⟨ix.map fun i=>vs.getD i Value.none,?_,ix,px,rfl,?_⟩
 ·apply Array.ext'
  rw[Array.toList_map,ex,Jx];rfl
 ·have hin:∀ i∈ix,i<vs.length:=fun i hi=>by have:=px.mem_iff.mp hi;simpa using this
  rw[<-B.sz]at u;have pw:=Tm.up_pw u;rw[ex,KO]at pw;rw[KO];refine pw.imp_of_mem fun {i j} hi hj hlt=>?_;rw[nU (fp i (hin i hi)),nU (fp j (hin j hj))]at hlt;exact hlt
theorem sort_pairsU {a:Addr}{vs:List Value}{ps:List (Int×Int)}{n:Nat}{P:Fin->Shared->Prop}(ho:s.heap.get? a=some (seqObj "list" vs.toArray n))(hp:Paired (PairAt s.heap) vs ps)(nd:ps.Nodup)(h64:vs.length<=1000)
  (h:∀ out:List Value,xk vs ps out->P (.done (.ret .none)) { s with heap:=sortedHeap s.heap a vs out.toArray }):wpAny (model prog w) A (Builtin.«list.sort» ⟨[.ref a],[]⟩) P E s:=by
 have ha:a<s.heap.objs.size:=IA ho;have hl:vs.length=ps.length:=Ix hp;obtain⟨e1,ho1⟩:∃ e1,(s.heap.update a (Obj.mapSeq fun _=>#[])).get? a=some (seqObj "list" #[] e1):=⟨_,get?_update_seq ho (fun _=>#[])⟩
 have ho6:(((s.heap.update a (Obj.mapSeq fun _=>#[])).push (seqObj "tuple" vs.toArray 0)).push (seqObj "list" #[] 0)).get? a=some (seqObj "list" #[] e1):=by
  rw[Heap.get?_push_ne _ _ _ (by rw[size_push',Heap.size_update];exact IC (JR ha)),Heap.get?_push_ne _ _ _ (by rw[Heap.size_update];exact IC ha)];exact ho1
 have sz:vs.toArray.size<=sizeLine:=by rw[IR,J9];omega
 rw[list_sort_plain];refine Io (listItems_at ho rfl (Io (listUpdate_at ho rfl ?_ sz (IX _))));refine Io (seqEpoch_at ho1 rfl (Io (wpAny_newTuple ?_ (by show vs.length<=_;rw[J9];omega))));refine Io (wpAny_newList (Jv ?_) (IX _))
 show wpAny (model prog w) A _ P E { s with heap:=((s.heap.update a (Obj.mapSeq fun _=>#[])).push (seqObj "tuple" vs.toArray 0)).push (seqObj "list" #[] 0) }
 dsimp only
 by_cases h2:vs.toArray.size<2
 ·rw[Iq h2,Iq h2]
  refine Io (Iu ?_);rw[StateT.run_pure];refine Io (Iu ?_);dsimp only
  have e:((vs.toArray.zip vs.toArray).map (·.2))=vs.toArray:=by
   apply Array.ext';simp[List.map_snd_zip]
  refine Io (seqEpoch_at ho6 rfl (Io (listUpdate_at ho6 rfl ?_ (IX _) ?_)))
  ·simp only[bne_self_eq_false,JF,J5]
   refine Iu ?_
   show P _ { s with heap:=(((s.heap.update a _).push _).push _).update a (Obj.mapSeq fun _=>(vs.toArray.zip vs.toArray).map (·.2)) }
   rw[e];refine h vs ⟨List.range vs.length,List.Perm.refl _,?_,?_⟩
   ·apply KN
    intro i;rw[List.getElem?_map]
    by_cases hi:i<vs.length
    ·rw[List.getElem?_range hi];simp[hi]
    ·rw[List.getElem?_eq_none (by omega),List.getElem?_eq_none (by simp;omega)];rfl
   ·have hv:vs.length<2:=by simpa using h2
    rw[KO,Km];intro i j hi hj hij;rw[J4]at hi hj;omega
  ·show ((vs.toArray.zip vs.toArray).map (·.2)).size<=_
   rw[e];omega
 ·rw[Ip h2,Ip h2]
  have h2':2<=vs.length:=by rw[IR]at h2;omega
  have hp':Paired (PairAt (((s.heap.update a (Obj.mapSeq fun _=>#[])).push (seqObj "tuple" vs.toArray 0)).push (seqObj "list" #[] 0))) vs ps:=L2.Paired.mapP hp fun v q ⟨b,o,m,t,u,ev,hb,hc,hd⟩=>by
   refine⟨b,o,m,t,u,ev,?_,hc,hd⟩
   have nb:b≠a:=fun z=>by
    rw[z,ho]at hb;cases hb;exact absurd hc (by show ¬ (Value.type "list" = .type "tuple");decide)
   have hlt:=IA hb;rw[Heap.get?_push_ne _ _ _ (by rw[size_push',Heap.size_update];exact IC (JR hlt)),Heap.get?_push_ne _ _ _ (by rw[Heap.size_update];exact IC hlt),Heap.get?_update_ne _ _ _ _ nb];exact hb
  refine Io (xI (s:={ s with heap:=((s.heap.update a (Obj.mapSeq fun _=>#[])).push (seqObj "tuple" vs.toArray 0)).push (seqObj "list" #[] 0) }) hp' (by omega) ?_);refine Io (yf (Q:=fun st' s'=>failedOf st'=none/\(∃ out:List Value,(arrOf st').map (·.2)=out.toArray/\xk vs ps out)/\s'={ s with heap:=((s.heap.update a (Obj.mapSeq fun _=>#[])).push (seqObj "tuple" vs.toArray 0)).push (seqObj "list" #[] 0) }) hp' nd h2' (fun st' hf ho=>⟨hf,ho,rfl⟩) |> fun q=>IS q (fun r s' hr=>?_) fun _ _ x=>x);obtain⟨⟨⟩,st'⟩:=r;obtain⟨hf,⟨out,hout,so⟩,rfl⟩:=hr;dsimp only at hf hout ⊢
  have hol:out.length=vs.length:=by
   obtain⟨ix,hx,rfl,_⟩:=so;rw[Ir,hx.length_eq,J4]
  rw[hout];refine Io (seqEpoch_at ho6 rfl (Io (listUpdate_at ho6 rfl ?_ (IX _) (by show out.toArray.size<=_;rw[IR,hol,J9];omega))));rw[hf];simp only[bne_self_eq_false,JF,J5];exact Iu (h out so)
end
end Qs
namespace Wz
open PySem PySem.Spec PyProof.Rows L2
theorem ui {X:Cx}(hc:X.calm=true):kA X (.builtin "sorted") (fun xs H Q=>∃ (p:Addr)(ml:List (Int×Int)),xs=[.ref p]/\H p=some (.dT (js ml))/\ml.Nodup/\ml.length<=1000 /\
  ∀ (l:Addr)(qs:List (Int×Int))(H':Hp),H l=none->aA H H'->aT H' l qs->qs.Perm ml->qs.Pairwise (fun a b=>Qs.ltP a b=true)->Q (.ref l) H'):=by
 intro pins s σ H xs us Q I r h;obtain⟨p,ml,rfl,hH,nd,h64,q⟩:=h;obtain⟨u,rfl,rx⟩:=kW r;cases rx;obtain⟨hz,lo,ks,rel,o,es,ep,ho,hex,hd,hes,hnd⟩:=(show bo X.prog X.w H s.heap p (.dT (js ml)) from I.hok p _ hH);have raw:Qs.RawAt s.heap p es ep:=⟨o,ho,hex,hd⟩
 have l1:ks.length=ml.length:=by
  have:=Ix rel;unfold js at this;rw[Ir]at this;exact this.symm
 have l2:es.size=ml.length:=by
  have:=Jk List.length hes;rw[Ir,IU]at this;omega
 have tup:∀ i,i<ml.length->H ((ks.map fun x=>x.2.1).getD i 0)=some (.tup [.int (ml.getD i (0,0)).1,.int (ml.getD i (0,0)).2]):=fun i hi=>by
  have hk:ks[i]? = some (ks[i]'(by omega)):=by simp[show i<ks.length by omega]
  have hm:(js ml)[i]? = some ([Sum.inl (ml[i]).1,Sum.inl (ml[i]).2],V.bl true):=by unfold js;rw[List.getElem?_map];simp[hi]
  obtain⟨b,hb,e1,e2,e3⟩:=paired_get rel hm;rw[hk]at hb;cases hb
  have e4:(ks.map fun x=>x.2.1).getD i 0=(ks[i]'(by omega)).2.1:=by simp[show i<ks.length by omega]
  have e5:ml.getD i (0,0)=ml[i]:=by simp[hi]
  rw[e4,e5,e2];rfl
 refine PySem.Calls.call_function_entry kind_sorted plain_sorted entry_sorted (args_sorted1 _) ?_;unfold Builtin.«sorted»;refine Io (m:=checkCount "sorted" 1 1 _) (Iu (Io (PySem.W.kdu_collect (A:=X.A.in1) (Qs.raw_src lo) (I.ok.hd hc) raw (by rw[l2,J9];omega) fun h' tk acc kp hacc=>?_)));have I1:au X pins σ H { s with heap:=h',toks:=tk }:=I.kept kp
 have al:acc.toList.length=ml.length:=by rw[IU,hacc.1,l2]
 have ea:acc.toList=(ks.map fun x=>x.2.1).map Value.ref:=by
  apply KN
  intro i
  by_cases hi:i<ml.length
  ·have hv:acc.toList[i]? = some (acc.toList[i]'(by omega)):=by simp[show i<acc.size by rw[hacc.1,l2];exact hi]
   obtain⟨e,he,hk⟩:=hacc.2 i _ (by rw[<-Array.getElem?_toList];exact hv);rw[hv,hk,List.getElem?_map,List.getElem?_map]
   have:es.toList[i]? = some e:=by rw[Array.getElem?_toList];exact he
   rw[hes,List.getElem?_map]at this
   cases ek:ks[i]? with
   | none=>rw[ek]at this;cases this
   | some x =>
    rw[ek]at this;have e2:=Iy this;rw[<-e2];rfl
  ·rw[List.getElem?_eq_none (by omega),List.getElem?_eq_none (by simp;omega)]
 have pa:Paired (Qs.PairAt h') acc.toList ml:=by
  rw[ea,<-lj (0,0) ml,<-lj 0 (ks.map fun x=>x.2.1),Ir,l1,Jx];refine jJ _ fun i hi=>?_
  have hi:i<ml.length:=by simpa using hi
  obtain⟨_,its,rv,ob,hob,hcl,n,hdt⟩:=(show bo X.prog X.w H h' _ (.tup _) from I1.hok _ _ (tup i hi))
  cases rv with
  | cons r1 r2 =>
   cases r2 with
   | cons r3 r4 =>
    cases r4;obtain⟨t,rfl⟩:=r1;obtain⟨t',rfl⟩:=r3;exact⟨_,ob,n,t,t',rfl,hob,hcl,hdt⟩
 refine Io (wpAny_newList ?_ (by rw[al,J9];omega));have hoL:(h'.push (seqObj "list" acc.toList.toArray 0)).get? h'.objs.size=some (seqObj "list" acc.toList.toArray 0):=Heap.get?_push_size _ rfl;have dP:Paired (Qs.PairAt (h'.push (seqObj "list" acc.toList.toArray 0))) acc.toList ml:=Paired.mapP pa fun v x ⟨b,ob,n,t,t',e,hb,hc',hd'⟩=>⟨b,ob,n,t,t',e,Heap.get?_push_of_some _ hb,hc',hd'⟩;refine Io (Jv (J6 slot_list_sort ⟨_,hoL,rfl⟩ entry_list_sort (Qs.sort_pairsU hoL dP nd (by rw[al];exact h64) fun out so=>⟨_,rfl,?_⟩) (args_list_sort _)));refine Iu ⟨_,rfl,?_⟩;obtain⟨ix,hx,hout,hso⟩:=so;rw[al]at hx
 have hin:∀ i∈ix,i<ml.length:=fun i hi=>by have:=hx.mem_iff.mp hi;simpa using this
 have eo:out=(ix.map fun i=>(ks.map fun x=>x.2.1).getD i 0).map Value.ref:=by
  rw[hout,Jx];refine Ks fun i hi=>?_;have:=hin i hi;rw[ea]
  show ((ks.map fun x=>x.2.1).map Value.ref).getD i Value.none=Value.ref ((ks.map fun x=>x.2.1).getD i 0)
  simp[show i<ks.length by omega]
 obtain⟨e,he⟩:=sortedHeap_at (vs:=acc.toList) (out:=out.toArray) hoL
 have hl2:out.length=ml.length:=by rw[eo,Ir,Ir,hx.length_eq,J4]
 have vr:∀ l:List Addr,bh (l.map V.ref) (l.map Value.ref):=fun l=>by
  induction l with
  | nil=>exact .nil
  | cons a l ih=>exact .cons rfl ih
 have fr:=I1.hok.fresh (Iv h'.objs.size);refine⟨.ref h'.objs.size,_,I1.laid (t':=tk) (a:=h'.objs.size) (o:=.lst ((ix.map fun i=>(ks.map fun x=>x.2.1).getD i 0).map V.ref)) (fun b ob eb=>?_) (Iv _) ⟨?_,out,e,?_,by simpa using he⟩,rfl,?_⟩
 ·rw[sortedHeap_old (IC (IA eb)) (by rw[size_push'];exact JR (IA eb))]
  exact Heap.get?_push_of_some _ eb
 ·rw[Ir,Ir,hx.length_eq,J4,J9];omega
 ·rw[eo];exact vr _
 ·refine q h'.objs.size (ix.map fun i=>ml.getD i (0,0)) _ fr (ai fr) ⟨_,af,?_⟩ ?_ hso
  ·refine jJ ix fun i hi=>(ai fr) _ _ (tup i (hin i hi))
  ·have:=hx.map fun i=>ml.getD i (0,0)
   rwa [lj]at this
inductive kg (c:HX) (vs:List V) (H:Hp) (Q:VK) (E_:XK):Prop
 | mk (p w m ls:Addr) (A:HA) (st:bO) (ml:List (Int×Int)) (L:List Int) (h_0:vs=[.ref p,.ref w,.ref m,.ref ls]) (h_1:az c.C H p A st) (h_2:w∉A.fp) (h_3:H w=some (.dK (dk st.worn))) (h_4:H m=some (.dT (js ml))) (h_5:aU H ls st.deeds) (h_6:d8 st) (h_7:lM st ml) (h_8:yw L st) (h_9:t7 ml) (h_10:L.length<64) (h_11:ml.length<=1000) (h_12:st.worn.length<64) (h_13:(∀ g∈ay st.worn,bK g)) (h_14:∀ H',aA H H'->Q (.bl true) H'):kg c vs H Q E_
end Wz
namespace L2
open PySem
theorem Do {X:Cx}(K:PySem.W.Frag)(n:Nat)(hu:X.A.units+n<cLine)(hK:X.K=K:=by rfl):qr X (compareOp .Eq) (Fe K n false):=by subst hK;exact lz n hu
end L2
namespace Wz
open PySem L2
def d7:bO->List (Int×Int)->rY
 | _,[]=>.done
 | st,p::ps=>if aK st (b9 p)=.done then d7 (a7 st (b9 p)) ps else aK st (b9 p)
theorem sZ {i:Nat}{st:bO}{ps:List (Int×Int)}{p:Int×Int}(h:ps[i]? = some p):d7 st (ps.drop i)=if aK st (b9 p)=.done then d7 (a7 st (b9 p)) (ps.drop (i+1)) else aK st (b9 p):=by
 obtain⟨hl,e⟩:=List.getElem?_eq_some_iff.mp h;rw[JW hl,e];rfl
theorem yE:∀ (ps:List (Int×Int))(i:Nat)(st:bO),wW i st ps=none↔d7 st ps=.done
 | [],i,st=>⟨fun _=>rfl,fun _=>rfl⟩
 | p::ps,i,st=>by
  unfold wW d7
  cases e:DM (aK st (b9 p)) with
  | none =>
   have d:=AC e;rw[Iq d];exact yE ps (i+1) _
  | some x =>
   have d:¬ aK st (b9 p)=.done:=fun z=>by rw[z]at e;cases e
   rw[Ip d];exact⟨fun z=>(nomatch z),fun z=>absurd z d⟩
theorem pR:∀ (ps:List (Int×Int))(es:List aD),cU es->d7 (aJ es) ps=.done->cU (es++ps.map b9)
 | [],es,h,_=>by simpa using h
 | p::ps,es,h,hb=>by
  unfold d7 at hb
  by_cases d:aK (aJ es) (b9 p)=.done
  ·rw[Iq d,eW d]at hb
   have:=pR ps (es++[b9 p]) (iX h d) hb;rw[Jz]at this;exact this
  ·rw[Ip d]at hb
   exact absurd hb d
theorem Bg (st:bO)(p:Int×Int):aK st (b9 p)≠.already/\aK st (b9 p)≠.masked:=by
 unfold b9 aK;dsimp only;split<;>(try split)<;>(try split)<;>(try split)<;>simp
theorem uf:∀ (ps:List (Int×Int))(st:bO),d7 st ps≠.already/\d7 st ps≠.masked
 | [],st=>⟨fun z=>(nomatch z),fun z=>(nomatch z)⟩
 | p::ps,st=>by
  unfold d7;split
  ·exact uf ps _
  ·exact Bg st p
theorem Ar {c:HX}{E:XK}{H H1:Hp}{o:rY}(r:fV c E H o)(s:aA H H1):fV c E H1 o:=by
 cases o with
 | done=>exact r
 | already=>exact fun H' s'=>r H' (s.trans s')
 | masked=>exact fun H' s'=>r H' (s.trans s')
 | same=>exact fun H' s'=>r H' (s.trans s')
 | met=>exact fun H' s'=>r H' (s.trans s')
 | noguest g=>exact fun dx H' s' h=>r dx H' (s.trans s') h
theorem eV.pre {C:Addr}{H H1 H2:Hp}{p:Addr}{A:HA}{st:bO}(s:aA H H1)(m:eV C H1 p A st H2):eV C H p A st H2:=by
 obtain⟨A',S,k,f,t⟩:=m;exact⟨A',S,fun b o e n=>k b o (s _ _ e) n,fun b hb=>(f b hb).imp id fun z=>s.free z,(Tr.of_same s).trans t⟩
def xg (C:Addr)(H:Hp)(p:Addr)(A:HA)(B:HA)(st':bO)(H':Hp):Prop:=az C H' p B st'/\Kp A.fp H H'/\(∀ b∈B.fp,b∈A.fp\/H b=none)/\Tr H H'
theorem xg.refl {C:Addr}{H:Hp}{p:Addr}{A:HA}{st:bO}(S:az C H p A st):xg C H p A A st H:=⟨S,fun b o e _=>e,fun b hb=>.inl hb,Tr.refl⟩
theorem xg.next {C:Addr}{H H1 H2:Hp}{p:Addr}{A B:HA}{st st':bO}(m:xg C H p A B st H1)(n:eV C H1 p B st' H2):∃ B',xg C H p A B' st' H2:=by
 obtain⟨S,k,f,t⟩:=m;obtain⟨B',S',k',f',t'⟩:=n;refine⟨B',S',k.trans k' f,fun b hb=>?_,t.trans t'⟩;rcases f' b hb with z | z
 ·exact f b z
 ·exact .inr (t.free z)
theorem DN {H:Hp}{Q:VK}{o:Option (Nat×Str)}(h:∀ v H',aA H H'->decide (v=V.non)=decide (o=none)->Q v H'):HI H Q o:=by
 cases o with
 | none=>exact fun H' s'=>h _ _ s' rfl
 | some x=>exact fun r H' _ s' _=>h _ _ s' (by simp)
theorem aT.kept {C:Addr}{H H':Hp}{p l:Addr}{A:HA}{st:bO}{ps:List (Int×Int)}(r:aT H l ps)(S:az C H p A st)(k:∀ b o,H b=some o->b∉A.fp->H' b=some o)(lB:l∉A.fp):aT H' l ps:=by
 obtain⟨as,h1,h2⟩:=r;exact⟨as,k _ _ h1 lB,Paired.mapP h2 fun b e z=>k _ _ z (S.tup z)⟩
theorem aU.kept {C:Addr}{H H':Hp}{p l:Addr}{A:HA}{st:bO}{es:List aD}(r:aU H l es)(S:az C H p A st)(k:∀ b o,H b=some o->b∉A.fp->H' b=some o)(lB:l∉A.fp):aU H' l es:=by
 obtain⟨as,h1,h2⟩:=r;refine⟨as,k _ _ h1 lB,Paired.mapP h2 fun b d z=>?_⟩;obtain⟨xs,ex⟩:=cz d;rw[ex]at z ⊢;exact k _ _ z (S.tup z)
theorem Ai {o:rY}(h:ky o=ky .done):o=.done:=by
 have q:=Jk (fun l:List V=>l[0]?) h;simp only[ET]at q;have q2:sI o=sI .done:=V.str.inj (Iy q)
 cases o with
 | done=>rfl
 | already=>exact absurd q2 (by decide +kernel)
 | masked=>exact absurd q2 (by decide +kernel)
 | same=>exact absurd q2 (by decide +kernel)
 | met=>exact absurd q2 (by decide +kernel)
 | noguest g=>exact absurd q2 (by show ¬ (("NoGuest" : Str)="done");decide +kernel)
theorem Dp {o:rY}(h:o≠.done):decide (V.str (sI o)=V.str "done")=false:=by
 refine IM fun q=>h ?_;have q2:sI o=sI .done:=V.str.inj q
 cases o with
 | done=>rfl
 | already=>exact absurd q2 (by decide +kernel)
 | masked=>exact absurd q2 (by decide +kernel)
 | same=>exact absurd q2 (by decide +kernel)
 | met=>exact absurd q2 (by decide +kernel)
 | noguest g=>exact absurd q2 (by show ¬ (("NoGuest" : Str)="done");decide +kernel)
theorem Cj {es:List aD}{ps:List (Int×Int)}{i:Nat}{e:Int×Int}(he:ps[i]? = some e):es++(ps.take (i+1)).map b9=(es++(ps.take i).map b9)++[b9 e]:=by rw[IZ,he,Jd,Ja,Jz];rfl
theorem xv {K:PySem.W.Frag}{Qf:Hp->Prop}{l q:Addr}{ps:List (Int×Int)}{rest:St}{H:Hp}(hq:H q=none)(h1:aT H l ps)(hlen:ps.length<=1000)(k:∀ (HK:Hp),aA H HK->aU HK q (ps.map b9)->Qf HK) :
  lT (En K l) (EA K 2 (A7 (qI 0) (A7 (qI 1) F0))) (CB ve (GB (jU (tC (V.str "exchange")) (jU (DI 0) (jU (DI 1) rT)))) q) { nx:=fun _ H'=>Qf H',rt:=fun _ _=>False } (none::none::rest) (upd H q (.lst [])):=by
 obtain⟨as,hl,hp⟩:=h1;have al:=Ix hp
 have three:(3:Nat)<=sizeLine:=by decide
 refine cC (K:=K) (a:=l) (xs:=as.map V.ref) (fun i σ HK=>∃ v w:Option V,σ=v::w::rest/\aA H HK/\aU HK q ((ps.take i).map b9)) ⟨none,none,rfl,ai hq,[],af,.nil⟩ (fun i σ HK _ ⟨_,_,_,s2,_⟩=>bF.of (s2 _ _ hl)) ?_ ?_
 ·rintro i y σ HK hi ⟨v,w,rfl,t1,qs,hq2,hq3⟩
  obtain⟨b,hb,rfl⟩:=bT hi;obtain⟨p,hp0,hB⟩:=paired_get hp hb;have hil:i<ps.length:=(List.getElem?_eq_some_iff.mp hp0).1;have ql:=Ix hq3;rw[Ir,Jn]at ql;refine⟨b,_,rfl,c6.of (t1 _ _ hB),rfl,_,_,rfl,_,_,rfl,rfl,?_⟩;refine qf ⟨_,rfl,_,rfl,three,fun t ht=>⟨_,(ai ht) _ _ hq2,by rw[Ir];exact aW (by omega),_,_,rfl,cF (t1.trans (ai ht)) hq,?_⟩⟩;rw[IZ,hp0,Jd,Ja];exact lg hq2 hq3 ht (b9 p)
 ·rintro σ HK ⟨v,w,rfl,t1,hq2⟩
  rw[Ir,al,Ji]at hq2;exact k HK t1 hq2
theorem zJ {G:Hp}{x y:Addr}{ds es:List aD}{Q':VK}(hx:aU G x ds)(hy:aU G y es)(hl:ds.length+es.length<=1000)(k:∀ (p:Addr)(G':Hp),G p=none->aA G G'->aU G' p (ds++es)->Q' (.ref p) G'):DA (.ref x) (.ref y) G Q':=by
 obtain⟨as,h1,p1⟩:=hx;obtain⟨bs,h2,p2⟩:=hy;have l1:=Ix p1;have l2:=Ix p2;refine⟨x,y,_,_,rfl,rfl,h1,h2,by rw[Ir,Ir];exact Kn (aW (by omega)),fun p hp=>k p _ hp (ai hp) ⟨as++bs,by rw[af,Ja],?_⟩⟩;exact bC (Paired.mapP p1 fun b e z=>(ai hp) _ _ z) (Paired.mapP p2 fun b e z=>(ai hp) _ _ z)
def yB (es:List aD)(ps:List (Int×Int))(L:List Int):Prop:=cU es/\(es++ps.map b9).length<=200/\L.length<64/\∀ d∈es++ps.map b9,∀ g∈names d,g∈L/\bK g
inductive u9 (c:HX) (vs:List V) (H:Hp) (Q:VK) (E:XK):Prop
 | mk (p l:Addr) (A:HA) (es:List aD) (ps:List (Int×Int)) (L:List Int) (h_0:vs=[.ref p,.ref l]) (h_1:az c.C H p A (aJ es)) (h_2:aT H l ps) (h_3:yB es ps L) (h_4:if d7 (aJ es) ps=.done then ∀ v H',aA H H'->Q v H' else fV c E H (d7 (aJ es) ps)):u9 c vs H Q E
inductive p9 (c:HX) (vs:List V) (H:Hp) (Q:VK) (E:XK):Prop
 | mk (p l:Addr) (A:HA) (es:List aD) (ps:List (Int×Int)) (L:List Int) (h_0:vs=[.ref p,.ref l]) (h_1:az c.C H p A (aJ es)) (h_2:aT H l ps) (h_3:yB es ps L) (h_4:l∉A.fp) (h_5:if d7 (aJ es) ps=.done then ∀ H',eV c.C H p A (aJ (es++ps.map b9)) H'->Q .non H' else fV c E H (d7 (aJ es) ps)):p9 c vs H Q E
def nO (es:List aD)(ps:List (Int×Int)):List aD:=if d7 (aJ es) ps=.done then es++ps.map b9 else es
inductive m9 (c:HX) (vs:List V) (H:Hp) (Q:VK) (E_:XK):Prop
 | mk (p l:Addr) (A:HA) (es:List aD) (ps:List (Int×Int)) (L:List Int) (h_0:vs=[.ref p,.ref l]) (h_1:az c.C H p A (aJ es)) (h_2:aT H l ps) (h_3:yB es ps L) (h_4:l∉A.fp) (h_5:∀ (r:Addr)(H':Hp),H r=none->H' r=some (.tup (ky (d7 (aJ es) ps)))->eV c.C H p A (aJ (nO es ps)) H'->Q (.ref r) H'):m9 c vs H Q E_
section
variable {L:List Int}{es:List aD}(P:FL L es)(h64:(aJ es).worn.length<64)
include P h64
end
end Wz
namespace L2
open PySem PySem.Spec PyProof.Rows
section
variable {X:Cx}
end
end L2
namespace Wz
open PySem L2
section
variable {h p d b v:V}
end
end Wz
namespace L2
open PySem PySem.Spec PyProof.Rows
end L2
namespace Wz
open PySem L2
end Wz
namespace Wk34
open PySem L2 Wz
def gL (i:Nat):Stmt:=PySem.Challenge.pw_lastwaltz_k34_whole_danced_or_not_at_all.main.body.getD i (.Pass ⟨0,0,0,0⟩)
structure HJ (mg:Str->Option Value):Prop where
 len:mg "len" = none
 range:mg "range" = none
 isinstance:mg "isinstance" = none
 tuple:mg "tuple" = none
 list:mg "list" = none
 int:mg "int" = none
 bool:mg "bool" = none
 all:mg "all" = none
 any:mg "any" = none
 sorted:mg "sorted" = none
 reversed:mg "reversed" = none
 bset:mg "set" = none
 bmin:mg "min" = none
 bmax:mg "max" = none
 dict:mg "dict" = none
 zip:mg "zip" = none
 enumerate:mg "enumerate" = none
 sum:mg "sum" = none
 str:mg "str" = none
section
variable {P:Program}{w:World}{K:PySem.W.Frag}{mg:Str->Option Value}{base:Heap}{c:HX}{co cq ck f P0:Addr}{fd:FuncData}
abbrev fB:Stmt:=cD (gL 6) 0
abbrev qO:List Str:=["self","guest"]
theorem pQ:av qO ["self","guest"] (ao fB):=gJ
abbrev lL:Stmt:=gL 8
abbrev Ad:List Str:=["hall","row","twin","place","one","other"]
theorem gr:av Ad ["hall","row"] (ao lL):=gJ
abbrev gC:Stmt:=gL 9
abbrev su:List Str:=["hall","row","twin","one","other"]
theorem eK:av su ["hall","row"] (ao gC):=gJ
abbrev rR:Stmt:=gL 10
abbrev Dj:List Str:=["hall","row","one","other"]
theorem rG:av Dj ["hall","row"] (ao rR):=gJ
abbrev jf:Stmt:=cD (gL 12) 0
abbrev vW:List Str:=["self"]
theorem u0:av vW ["self"] (ao jf):=gJ
abbrev je:Stmt:=cD (gL 12) 1
abbrev vV:List Str:=["self","guest"]
theorem uZ:av vV ["self","guest"] (ao je):=gJ
abbrev lH:Stmt:=cD (gL 12) 2
abbrev z9:List Str:=["self","guest"]
theorem yg:av z9 ["self","guest"] (ao lH):=gJ
abbrev e8:Stmt:=cD (gL 12) 3
abbrev pM:List Str:=["self","one","other","mask","other_mask"]
theorem eZ:av pM ["self","one","other"] (ao e8):=gJ
abbrev ii:Stmt:=cD (gL 12) 4
abbrev uI:List Str:=["self","guest","mask"]
theorem sJ:av uI ["self","guest","mask"] (ao ii):=gJ
abbrev e7:Stmt:=cD (gL 12) 5
abbrev pL:List Str:=["self","one","other","circle"]
theorem iH:av pL ["self","one","other"] (ao e7):=gJ
abbrev gz:Stmt:=cD (gL 12) 6
abbrev si:List Str:=["self","guest"]
theorem rD:av si ["self","guest"] (ao gz):=gJ
abbrev gv:Stmt:=cD (gL 12) 7
abbrev sh:List Str:=["self"]
theorem rC:av sh ["self"] (ao gv):=gJ
abbrev ik:Stmt:=cD (gL 12) 8
abbrev uK:List Str:=["self","guest"]
theorem sN:av uK ["self","guest"] (ao ik):=gJ
abbrev gB:Stmt:=cD (gL 12) 9
abbrev sr:List Str:=["self","mask"]
theorem rF:av sr ["self","mask"] (ao gB):=gJ
abbrev jP:Stmt:=cD (gL 12) 10
abbrev xS:List Str:=["self","one","other"]
theorem wJ:av xS ["self","one","other"] (ao jP):=gJ
abbrev e9:Stmt:=cD (gL 12) 11
abbrev pN:List Str:=["self","guest"]
theorem oH:av pN ["self","guest"] (ao e9):=gJ
abbrev fj:Stmt:=cD (gL 12) 12
abbrev mz:List Str:=["self"]
theorem sL:av mz ["self"] (ao fj):=gJ
abbrev ij:Stmt:=cD (gL 12) 13
abbrev uJ:List Str:=["self"]
theorem sM:av uJ ["self"] (ao ij):=gJ
abbrev gA:Stmt:=cD (gL 12) 14
abbrev sj:List Str:=["self"]
theorem rE:av sj ["self"] (ao gA):=gJ
abbrev fM:Stmt:=cD (gL 12) 15
abbrev o9:List Str:=["self","hall"]
theorem mZ:av o9 ["self"] (ao fM):=gJ
abbrev lI:Stmt:=gL 14
abbrev Aa:List Str:=["hall","deed"]
theorem yi:av Aa ["hall","deed"] (ao lI):=gJ
abbrev ip:Stmt:=gL 15
abbrev uN:List Str:=["hall","guest","ask","then","walk","moment","deed"]
theorem c9:av uN ["hall","guest","ask"] (ao ip):=gJ
abbrev aV:Stmt:=gL 16
abbrev v9:List Str:=["hall","mask"]
abbrev bw:Str:=(("mask_walk" : Str)++".<locals>.")++"<lambda>"
abbrev dG:Pos:=G8 (eY aV)
theorem u6:av v9 ["hall","mask"] (ao aV):=gJ
abbrev gG:Stmt:=gL 18
abbrev sw:List Str:=["_law_script","_law_k"]
theorem rJ:av sw ["_law_script","_law_k"] (ao gG):=gJ
abbrev jT:Stmt:=gL 19
abbrev xW:List Str:=["_law_cell"]
theorem wL:av xW ["_law_cell"] (ao jT):=gJ
abbrev ji:Stmt:=gL 20
abbrev vZ:List Str:=["_law_cell","_law_many","_law_base","_law_left","_law_row","_law_count","_law_k","_law_now"]
theorem bL:av vZ ["_law_cell","_law_many","_law_base"] (ao ji):=gJ
abbrev eR:Stmt:=gL 21
abbrev oy:List Str:=["_law_script","_law_start","_law_most","_law_base","_law_row","_law_cell","_law_drawn"]
theorem dm:av oy ["_law_script","_law_start","_law_most","_law_base"] (ao eR):=gJ
abbrev jk:Stmt:=gL 22
abbrev v8:List Str:=["_law_k","_law_cell","_law_left","_law_turn","_law_number"]
theorem fL:av v8 ["_law_k","_law_cell"] (ao jk):=gJ
abbrev lK:Stmt:=gL 23
abbrev Ac:List Str:=["_law_one","_law_other"]
theorem yj:av Ac ["_law_one","_law_other"] (ao lK):=gJ
abbrev lJ:Stmt:=gL 24
abbrev Ab:List Str:=["_law_worn","_law_met","_law_deed_here","_law_guest_here"]
theorem rK:av Ab ["_law_worn","_law_met","_law_deed_here"] (ao lJ):=gJ
abbrev jg:Stmt:=gL 25
abbrev vX:List Str:=["_law_worn","_law_met","_law_deed_here","_law_kept"]
theorem m5:av vX ["_law_worn","_law_met","_law_deed_here"] (ao jg):=gJ
abbrev jQ:Stmt:=gL 26
abbrev xT:List Str:=["_law_drawn","_law_many","_law_cell","_law_one"]
theorem py:av xT ["_law_drawn","_law_many","_law_cell"] (ao jQ):=gJ
abbrev jh:Stmt:=gL 27
abbrev vY:List Str:=["_law_cell"]
theorem u4:av vY ["_law_cell"] (ao jh):=gJ
abbrev eQ:Stmt:=gL 28
abbrev jG:List Str:=["_law_script","_law_cell","_law_many","_law_first","_law_deeds_here"]
theorem eL:av jG ["_law_script"] (ao eQ):=gJ
abbrev gH:Stmt:=gL 29
abbrev sx:List Str:=["_law_script","_law_worn","_law_met","_law_story","_law_deed_here"]
theorem dq:av sx ["_law_script"] (ao gH):=gJ
abbrev oN:Stmt:=gL 30
abbrev Bs:List Str:=["_law_hall","_law_deed_here"]
theorem Aw:av Bs ["_law_hall","_law_deed_here"] (ao oN):=gJ
abbrev gI:Stmt:=gL 31
abbrev sy:List Str:=["_law_story","_law_hall","_law_deed_here"]
theorem gq:av sy ["_law_story"] (ao gI):=gJ
abbrev jj:Stmt:=gL 32
abbrev v7:List Str:=["_law_row","_law_worn","_law_met","_law_seen","_law_one","_law_other","_law_key_here"]
theorem eO:av v7 ["_law_row","_law_worn","_law_met"] (ao jj):=gJ
abbrev io:Stmt:=gL 33
abbrev uM:List Str:=["_law_hall","_law_worn","_law_met","_law_story","_law_guest_here"]
theorem kS:av uM ["_law_hall","_law_worn","_law_met","_law_story"] (ao io):=gJ
abbrev eP:Stmt:=gL 34
abbrev kM:List Str:=["_law_draws_here","_law_cell"]
theorem rH:av kM ["_law_draws_here","_law_cell"] (ao eP):=gJ
abbrev jS:Stmt:=gL 35
abbrev xV:List Str:=["_law_row","_law_worn","_law_met","_law_kept","_law_one","_law_other"]
theorem gS:av xV ["_law_row","_law_worn","_law_met"] (ao jS):=gJ
abbrev gF:Stmt:=gL 36
abbrev sv:List Str:=["_law_script","_law_start","_law_worn","_law_met","_law_cell","_law_bend","_law_row","_law_place","_law_spare","_law_again"]
theorem bE:av sv ["_law_script","_law_start","_law_worn","_law_met"] (ao gF):=gJ
abbrev im:Stmt:=gL 37
abbrev uL:List Str:=["_law_hall","_law_row","_law_word","_law_back","e"]
theorem bZ:av uL ["_law_hall","_law_row"] (ao im):=gJ
abbrev jR:Stmt:=gL 38
abbrev xU:List Str:=["_law_found","_law_due_here"]
theorem wK:av xU ["_law_found","_law_due_here"] (ao jR):=gJ
abbrev fC:Stmt:=gL 39
abbrev qP:List Str:=["_law_story","_law_mask","_law_walk","_law_place","_law_deed_here"]
theorem cx:av qP ["_law_story","_law_mask"] (ao fC):=gJ
abbrev rS:Stmt:=gL 40
abbrev Br:List Str:=["_law_script","_law_worn","_law_met","_law_story","_law_hall","_law_row","_law_handed","_law_safe","_law_told","_law_worn2","_law_met2","_law_one","_law_other","_law_due_here"]
theorem dU:av Br ["_law_script"] (ao rS):=gJ
variable (T:HJ mg)(U:HT K mg c)(VM:HM K c)(UO:Ht K c)
include T U VM UO
theorem jp (F:d6 K "__init__" "NoGuest.__init__" fB f fd) : bd P w K mg base c7 1 f fd ["self","guest"] (DE c.cN "guest"):=by
 refine F.ok pQ (fun vs H Q E h=>?_) (fun cdv A outer s H vs Q E hr h=>?_)
 ·obtain⟨ea,g,rfl,_⟩:=h
  rfl
 ·obtain⟨ea,g,rfl,hg,hx,k⟩:=h
  refine⟨_,ah (a6 (BD (fI:=c.fN) rfl U.mW U.wS U.wR U.wI (aq (pv 0) (aq (mK (dF (i7 (pv 1)) (dF aO (rq)))) aN)))) (
   aj (BS (pv 0) (pv 1) rfl)),?_⟩
  refine⟨_,rfl,_,rfl,g,rfl,hg,fun y hy=>⟨y,rfl,hy,_,rfl,by decide,fun z=>⟨ea,c.cN,_,rfl,hx,U.eN,?_⟩⟩⟩;exact⟨_,rfl,_,rfl,ea,c.cN,rfl,hx,U.gN,k⟩
theorem x5 (F:d6 K "trouble" "trouble" lL f fd)(dY:ar P w K mg base c7 c.C "twin" 3 ["self"] (rP c.C))(aE:ar P w K mg base (fb P w) c.C "exchange" 4 ["self","one","other"] (ja c)) : bd P w K mg base c7 5 f fd ["hall","row"] (ki c):=by
 refine F.ok gr (fun vs H Q E h=>?_) (fun cdv A outer s H vs Q E hr h=>?_)
 ·obtain⟨p,l,B,st,ps,L,n,rfl,_⟩:=h
  rfl
 ·obtain⟨p,l,B,st,ps,L,n,rfl,S,G,o,z,ndc,row,hL,len,nm,k⟩:=h
  have hu:=dJ hr
  have two:(2:Nat)<=sizeLine:=by decide
  refine⟨_,ah (bA 2 gr.nd (lE dY (pv 0) U.cl hr.m dQ)) (
   ah (dL Jw rfl (y9 (by rfl) T.enumerate (gK (pv 1))) (gf rfl (bf (j7 3 gr.nd) (bf (gf rfl (bf (j7 4 gr.nd) (bf (j7 5 gr.nd) dR))) dR))) (aj (Dy rfl rfl (fun pins E=>aj (a6 (EZ aE (pv 2) U.cl hr.m EU (dP (pv 4) (pv 5))))) (mO rfl U.mN (fun ea oe=>aj (ax (aS (dP (pv 3) (aO))))) (mO rfl U.mS (fun ea oe=>aj (ax (aS (dP (pv 3) (aO))))) (mO rfl U.mT (fun ea oe=>aj (ax (aS (dP (pv 3) (aO))))) BN)))))) (
   aj (ax (eX)))),?_⟩
  have nT:(aH B).lookup ("twin" : Str)=none:=l7 B (by decide +kernel);refine⟨_,rfl,p,B.dx,_,rfl,S.ob,nT,p,B,st,rfl,S,ndc,by have:=z.c;omega,fun x B1 H1 nx S1 fr1 s1=>?_⟩;have E1:Ev c H H1 x B1 st:=⟨s1,S1,G,fr1⟩;obtain⟨qs,hq,hqp⟩:=id row;have hql:=Ix hqp;refine⟨_,rfl,l,rfl,⟨_,bF.of (E1.same _ _ hq)⟩,?_⟩
  refine vI (K:=K) (a:=l) (xs:=qs.map V.ref) (fun i σ HH=>∃ (B2:HA)(st2:bO)(v1 v2 v3:Option V),σ=[some (.ref p),some (.ref l),some (.ref x),v1,v2,v3]/\Ev c H HH x B2 st2/\Of L st2/\Sz (n+i) st2/\wW 0 st ps=wW i st2 (ps.drop i))
   ⟨B1,st,none,none,none,rfl,E1,o,z,rfl⟩ (fun i σ HH _ ⟨_,_,_,_,_,_,E,_⟩=>bF.of (E.same _ _ hq)) ?_ ?_
  ·rintro i y σ HH T hi ⟨B2,st2,v1,v2,v3,rfl,E,o2,z2,ek⟩ hTn
   obtain⟨b,hb,rfl⟩:=bT hi;obtain⟨e,he,hB⟩:=paired_get hqp hb;have il:=(List.getElem?_eq_some_iff.mp he).1;have sT:=ai (o:=.tup [.int (i:Int),.ref b]) hTn;have hTT:upd HH T (.tup [.int (i:Int),.ref b]) T=some (.tup [.int (i:Int),.ref b]):=af;have E:=E.on sT;generalize upd HH T (.tup [.int (i:Int),.ref b])=HH at hTT E ⊢;have hbK:=E.same _ _ hB;obtain⟨⟨m1,sm1⟩,m2,sm2⟩:=nm e (IV he);have ft:=l6 E.good o2 hL z2 (by omega);have nX:(aH B2).lookup ("exchange" : Str)=none:=l7 B2 (by decide +kernel);have ed:=AB (st:=st2) he;rw[<-ek]at ed;refine⟨T,_,rfl,c6.of hTT,rfl,_,_,rfl,_,_,rfl,b,_,rfl,c6.of hbK,rfl,_,_,rfl,_,_,rfl,rfl,rfl,?_⟩;refine⟨_,rfl,x,B2.dx,_,rfl,E.hall.ob,nX,_,rfl,_,rfl,x,B2,_,e.1,e.2,rfl,E.hall,ft,sm1,sm2,?_⟩;unfold nF
   show if aK st2 (b9 e)=.done then _ else fV c _ _ (aK st2 (b9 e))
   cases hj:aK st2 (b9 e) with
   | done =>
    rw[Iq rfl];intro H2 mv;have g2:=fR E.good (d:=b9 e) (fun g hg=>by simp[b9,names]at hg;rcases hg with z | z<;>rw[z]<;>assumption)
    have mv2:eV c.C HH x B2 (a7 st2 (b9 e)) H2:=by unfold a7;rw[Iq hj];exact mv
    obtain⟨B',E2,_⟩:=E.moved mv2 g2;rw[hj]at ed;exact⟨B',_,_,_,_,rfl,E2,mF E.good o2 (fun g hg=>by simp[b9,names]at hg;rcases hg with z | z<;>rw[z]<;>assumption),nz z2 _,ed⟩
   | same =>
    rw[hj]at ed;rw[Ip (by intro q;cases q)];intro H5 s5;rw[ed]at k;exact⟨_,UO.sn,aR ⟨_,VM.ss,bI ⟨_,rfl,two,fun t ht=>k t _ ((E.same.trans s5).free ht) ((E.same.trans s5).trans (ai ht)) af⟩⟩⟩
   | met =>
    rw[hj]at ed;rw[Ip (by intro q;cases q)];intro H5 s5;rw[ed]at k;exact⟨_,UO.tn,aR ⟨_,VM.ts,aR ⟨_,VM.tt,bI ⟨_,rfl,two,fun t ht=>k t _ ((E.same.trans s5).free ht) ((E.same.trans s5).trans (ai ht)) af⟩⟩⟩⟩
   | noguest g =>
    rw[hj]at ed;rw[Ip (by intro q;cases q)];intro dx H5 s5 hx;rw[ed]at k;exact⟨_,VM.nn,bI ⟨_,rfl,two,fun t ht=>k t _ ((E.same.trans s5).free ht) ((E.same.trans s5).trans (ai ht)) af⟩⟩
   | already=>exact absurd hj (by unfold b9 aK;dsimp only;split<;>(try split)<;>(try split)<;>(try split)<;>simp)
   | masked=>exact absurd hj (by unfold b9 aK;dsimp only;split<;>(try split)<;>(try split)<;>(try split)<;>simp)
  ·rintro σ HH ⟨B2,st2,v1,v2,v3,rfl,E,o2,z2,ek⟩
   rw[Ir,hql,List.drop_length]at ek;rw[ek]at k;exact k _ E.same
theorem re (F:d6 K "hall_behind" "hall_behind" gC f fd)(dY:ar P w K mg base c7 c.C "twin" 3 ["self"] (rP c.C))(aE:ar P w K mg base (fb P w) c.C "exchange" 4 ["self","one","other"] (ja c)) : bd P w K mg base (fb P w) 5 f fd ["hall","row"] (u9 c):=by
 refine F.okX eK (fun vs H Q E h=>?_) (fun cdv A outer s H vs Q E hr h=>?_)
 ·obtain⟨p,l,B,es,ps,L,rfl,_⟩:=h
  rfl
 ·obtain⟨p,l,B,es,ps,L,rfl,S,row,⟨dn,len,hL,nm⟩,k⟩:=h
  have hu:=dJ hr
  refine⟨_,ah (bA 2 eK.nd (lE dY (pv 0) U.cl hr.m dQ)) (
   ah (dL PassesOwn.leaving rfl (dj (pv 1)) (gf rfl (bf (j7 3 eK.nd) (bf (j7 4 eK.nd) dR))) (aj (a6 (c8 aE (pv 2) U.cl hr.m c5 (dP (pv 3) (pv 4)))))) (
   aj (ax (pv 2)))),?_⟩
  have P:=lG dn (fun d hd=>nm d (JG _ hd)) es.length;rw[Ji]at P;rw[ID,Ir]at len;have nT:(aH B).lookup ("twin" : Str)=none:=l7 B (by decide +kernel);refine⟨_,rfl,p,B.dx,_,rfl,S.ob,nT,p,B,aJ es,rfl,S,P.ci.kn,by have:=P.ci.kk;omega,fun x B1 H1 nx S1 fr1 s1=>?_⟩;have E1:Ev c H H1 x B1 (aJ es):=⟨s1,S1,P.good,fr1⟩;obtain⟨qs,hq,hqp⟩:=id row;have hql:=Ix hqp
  refine⟨_,rfl,l,rfl,⟨_,bF.of (E1.same _ _ hq)⟩,cC (K:=K) (a:=l) (xs:=qs.map V.ref) (fun i σ HH=>∃ (B2:HA)(st2:bO)(v w:Option V),σ=[some (.ref p),some (.ref l),some (.ref x),v,w]/\Ev c H HH x B2 st2/\Of L st2/\Sz (es.length+i) st2/\d7 (aJ es) ps=d7 st2 (ps.drop i))
   ⟨B1,_,none,none,rfl,E1,P.of,P.sz,rfl⟩ (fun i σ HH _ ⟨_,_,_,_,_,E,_⟩=>bF.of (E.same _ _ hq)) ?_ ?_⟩
  ·rintro i y σ HH hi ⟨B2,st2,v,w,rfl,E,o2,z2,ek⟩
   obtain⟨b,hb,rfl⟩:=bT hi;obtain⟨e,he,hB⟩:=paired_get hqp hb;have hbK:=E.same _ _ hB;have il:=(List.getElem?_eq_some_iff.mp he).1;have hnm:=nm (b9 e) (IF _ (Ku (f:=b9) (IV he)));have ft:=l6 E.good o2 (by omega) z2 (by omega);have nX:(aH B2).lookup ("exchange" : Str)=none:=l7 B2 (by decide +kernel);have ed:=sZ (st:=st2) he;rw[<-ek]at ed;refine⟨b,_,rfl,c6.of hbK,rfl,_,_,rfl,_,_,rfl,rfl,?_⟩;refine⟨_,rfl,x,B2.dx,_,rfl,E.hall.ob,nX,_,rfl,_,rfl,x,B2,_,e.1,e.2,rfl,E.hall,ft,(hnm _ (by simp[b9,names])).2,(hnm _ (by simp[b9,names])).2,?_⟩;unfold nF
   show if aK st2 (b9 e)=.done then _ else fV c _ _ (aK st2 (b9 e))
   by_cases hj:aK st2 (b9 e)=.done
   ·rw[Iq hj]
    rw[Iq hj]at ed;intro H2 mv;have g2:=fR E.good (d:=b9 e) (fun g hg=>(hnm g hg).2)
    have mv2:eV c.C HH x B2 (a7 st2 (b9 e)) H2:=by unfold a7;rw[Iq hj];exact mv
    obtain⟨B',E2,_⟩:=E.moved mv2 g2;exact⟨B',_,_,_,rfl,E2,mF E.good o2 (fun g hg=>(hnm g hg).1),nz z2 _,ed⟩
   ·rw[Ip hj]
    rw[Ip hj]at ed;rw[ed,Ip hj]at k;exact Ar k E.same
  ·rintro σ HH ⟨B2,st2,v,w,rfl,E,o2,z2,ek⟩
   rw[Ir,hql,List.drop_length]at ek;rw[Iq (show d7 (aJ es) ps=.done from ek)]at k;exact⟨_,rfl,k _ _ E.same⟩
theorem Bv (F:d6 K "dance" "dance" rR f fd)(Chall_behind:de P w K mg base "hall_behind" 5 ["hall","row"] (u9 c))(aE:ar P w K mg base (fb P w) c.C "exchange" 4 ["self","one","other"] (ja c)) : bd P w K mg base (fb P w) 6 f fd ["hall","row"] (p9 c):=by
 refine F.okX rG (fun vs H Q E h=>?_) (fun cdv A outer s H vs Q E hr h=>?_)
 ·obtain⟨p,l,B,es,ps,L,rfl,_⟩:=h
  rfl
 ·obtain⟨p,l,B,es,ps,L,rfl,S,row,ok,lB,k⟩:=h
  have hu:=dJ hr
  refine⟨_,ah (a6 (uW Chall_behind hr.m rfl c5 (dP (pv 0) (pv 1)))) (
   aj (dL PassesOwn.leaving rfl (dj (pv 1)) (gf rfl (bf (j7 2 rG.nd) (bf (j7 3 rG.nd) dR))) (aj (a6 (c8 aE (pv 0) U.cl hr.m c5 (dP (pv 2) (pv 3))))))),?_⟩
  refine⟨_,rfl,_,rfl,p,l,B,es,ps,L,rfl,S,row,ok,?_⟩
  by_cases hb:d7 (aJ es) ps=.done
  ·rw[Iq hb]at k ⊢
   intro v1 H1 s1;obtain⟨dn0,len,hL,nm⟩:=ok;have dn:=pR ps es dn0 hb;obtain⟨qs,hq,hqp⟩:=row.mono s1;have hql:=Ix hqp;rw[ID,Ir]at len
   refine⟨_,rfl,l,rfl,⟨_,bF.of hq⟩,cC (K:=K) (a:=l) (xs:=qs.map V.ref) (fun i σ HH=>∃ (B2:HA)(v w:Option V),σ=[some (.ref p),some (.ref l),v,w]/\xg c.C H1 p B B2 (aJ (es++(ps.take i).map b9)) HH)
    ⟨B,none,none,rfl,by simpa using xg.refl (S.mono s1)⟩ (fun i σ HH _ ⟨_,_,_,_,M⟩=>bF.of (M.2.1 _ _ hq lB)) ?_ ?_⟩
   ·rintro i y σ HH hi ⟨B2,v,w,rfl,M⟩
    obtain⟨b,hb,rfl⟩:=bT hi;obtain⟨e,he,hB⟩:=paired_get hqp hb;have hbK:HH b=some (.tup [.int e.1,.int e.2]):=M.2.1 _ _ hB ((S.mono s1).tup hB)
    have en:es++(ps.take (i+1)).map b9=(es++(ps.take i).map b9)++[b9 e]:=by rw[IZ,he,Jd,Ja,Jz];rfl
    have et:(es++ps.map b9).take (es.length+i)=es++(ps.take i).map b9:=by rw[List.take_append,JJ (by omega),show es.length+i-es.length=i by omega,Kg]
    have hd:(es++ps.map b9)[es.length+i]? = some (b9 e):=by rw[List.getElem?_append_right (by omega),show es.length+i-es.length=i by omega,List.getElem?_map,he];rfl
    have hj:=dn _ _ hd;rw[et]at hj;have Pi:=lG dn nm (es.length+i);rw[et]at Pi;have hnm:=nm _ (IV hd);have il:=(List.getElem?_eq_some_iff.mp he).1;have ft:=l6 Pi.good Pi.of (by omega) Pi.sz (by rw[ID,Ir,Jn];omega);have nX:(aH B2).lookup ("exchange" : Str)=none:=l7 B2 (by decide +kernel);refine⟨b,_,rfl,c6.of hbK,rfl,_,_,rfl,_,_,rfl,rfl,?_⟩;refine⟨_,rfl,p,B2.dx,_,rfl,M.1.ob,nX,_,rfl,_,rfl,p,B2,_,e.1,e.2,rfl,M.1,ft,(hnm _ (by simp[b9,names])).2,(hnm _ (by simp[b9,names])).2,?_⟩;unfold nF;rw[Iq (show aK _ (.exch e.1 e.2)=.done from hj)];intro H2 mv
    have mv2:eV c.C HH p B2 (a7 (aJ (es++(ps.take i).map b9)) (b9 e)) H2:=by unfold a7;rw[Iq hj];exact mv
    rw[eW hj,<-en]at mv2;obtain⟨B',M2⟩:=M.next mv2;exact⟨B',_,_,rfl,M2⟩
   ·rintro σ HH ⟨B2,v,w,rfl,M⟩
    rw[Ir,hql,Ji]at M;exact k _ (eV.pre s1 ⟨B2,M⟩)
  ·rw[Ip hb]at k ⊢
   exact k
theorem mH (F:d6 K "__init__" "Hall.__init__" jf f fd) : bd P w K mg base c7 1 f fd ["self"] (zi c.C):=by
 refine F.ok u0 (fun vs H Q E h=>?_) (fun cdv A outer s H vs Q E hr h=>?_)
 ·obtain⟨p,dx,rfl,_⟩:=h
  rfl
 ·obtain⟨p,dx,rfl,hp,k⟩:=h
  refine⟨_,ah (jL (pv 0) f7 rfl) (
   ah (jL (pv 0) f7 rfl) (
   ah (jL (pv 0) f7 rfl) (
   aj (jL (pv 0) (eG aN) rfl)))),?_⟩
  intro w hw;have n1:p≠w:=ak hp hw;refine⟨_,rfl,p,c.C,dx,[],rfl,(by rw[ag n1];exact hp),U.cl,U.nW,(by show 0<1000;decide),?_⟩;intro h hh;have n2:p≠h:=ak af hh;refine⟨_,rfl,p,c.C,dx,_,rfl,(by rw[ag n2,af]),U.cl,U.nH,(by show 1<1000;decide),?_⟩;intro cc hc;have n3:p≠cc:=ak af hc;refine⟨_,rfl,p,c.C,dx,_,rfl,(by rw[ag n3,af]),U.cl,U.nC,(by show 2<1000;decide),?_⟩;refine⟨by show 0<=sizeLine;exact IX _,fun d hd=>?_⟩;have n4:p≠d:=ak af hd;refine⟨_,rfl,p,c.C,dx,_,rfl,(by rw[ag n4,af]),U.cl,U.nD,(by show 3<1000;decide),?_⟩;rw[ag (IN n2)]at hh;have wh:w≠h:=ak af hh;rw[ag (IN n3)]at hc;have hcw:h≠cc:=ak af hc;rw[ag (IN hcw),ag (IN n3)]at hc;have hwc:w≠cc:=ak af hc;rw[ag (IN n4)]at hd;have hdc:cc≠d:=ak af hd;rw[ag (IN hdc),ag (IN n4)]at hd;have hdh:h≠d:=ak af hd;rw[ag (IN hdh),ag (IN n4)]at hd;have hdw:w≠d:=ak af hd;rw[ag (IN hdw)]at hd;rw[ag (IN hwc)]at hc;rw[ag (IN wh)]at hh;refine k ⟨dx,w,h,cc,d,[]⟩ _ ⟨af,?_,?_,?_,?_,.nil,[],?_,.nil⟩ (fun b o e hb=>?_) fun b hb=>?_
  ·simp[HA.fp,wh,hwc,hdw,hcw,hdh,hdc]
  ·rw[ag (IN n1),ag hdw,ag (IN n1),ag hwc,ag (IN n1),ag wh,ag (IN n1),af]
   rfl
  ·rw[ag (IN n2),ag hdh,ag (IN n2),ag hcw,ag (IN n2),af]
   rfl
  ·rw[ag (IN n3),ag hdc,ag (IN n3),af]
   rfl
  ·rw[ag (IN n4),af]
   rfl
  ·rw[ag hb,ag (ak e hd),ag hb,ag (ak e hc),ag hb,ag (ak e hh),ag hb,ag (ak e hw)]
   exact e
  ·simp[HA.fp]at hb
   rcases hb with rfl | rfl | rfl | rfl
   ·exact hw
   ·exact hh
   ·exact hc
   ·exact hd
theorem mG (F:d6 K "come" "Hall.come" je f fd)(bQ:ar P w K mg base c7 c.C "dress" 1 ["self","guest","mask"] (kf c.C)) : bd P w K mg base (fb P w) 2 f fd ["self","guest"] (oK c):=by
 refine F.okX uZ (fun vs H Q E h=>?_) (fun cdv A outer s H vs Q E hr h=>?_)
 ·obtain⟨p,B,st,g,rfl,_⟩:=h
  rfl
 ·obtain⟨p,B,st,g,rfl,S,ft,hg,k⟩:=h
  have hu:=dJ hr
  refine⟨_,ah (br (gi (lC hu (pv 1) (bW (pv 0) rfl))) (aj (mP U.eA fY rfl hr.hd rfl U.mA (mK (dF (i7 (pv 1)) (dF aO (rq)))))) aM) (
   ah (a6 (c8 bQ (pv 0) U.cl hr dQ (aq (pv 1) (aq (pv 1) aN)))) (
   aj (a6 (jK Jj Jf Jg cK (bW (pv 0) rfl) (aq (aS (aq (aO) (aq (pv 1) (aN)))) aN))))),?_⟩
  have g1:da H B.w (.int g) ((look st.worn g).map V.int):=by rw[<-dH];exact da.k (k:=Sum.inl g) S.w
  refine⟨_,rfl,_,rfl,p,c.C,B.dx,_,_,rfl,S.ob,U.cl,U.nW,vK _,B.w,_,rfl,g1,_,rfl,?_⟩
  cases e:look st.worn g with
  | some m =>
   refine bI ⟨_,rfl,g,rfl,hg,fun y hy=>⟨y,rfl,hy,_,rfl,by decide,fun z=>?_⟩⟩;exact fX (o:=.already) k (by simp[aK,e]) (by simp) _ (fun _ _ z=>z)
  | none =>
   refine aR ⟨_,rfl,p,B.dx,_,rfl,S.ob,l7 _ (by decide +kernel),_,rfl,_,rfl,p,B,st,g,g,rfl,S,by have:=ft.w;omega,by have:=ft.h;omega,?_⟩;have S1:=ut (uu S (put st.worn g g)) (put st.hold g g);have k1:Kp B.fp H (upd (upd H B.w (.dK (dk (put st.worn g g)))) B.h (.dK (dk (put st.hold g g)))):=(f6 yV).on (f6 yU);have t1:Tr H (upd (upd H B.w (.dK (dk (put st.worn g g)))) B.h (.dK (dk (put st.hold g g)))):=(Tr.refl.upd _ _).upd _ _;generalize upd (upd H B.w (.dK (dk (put st.worn g g)))) B.h (.dK (dk (put st.hold g g)))=H1 at S1 k1 t1;obtain⟨as,hd,hp⟩:=id S1.d;have hl:as.length=st.deeds.length:=Ix hp;refine⟨_,rfl,p,c.C,B.dx,_,_,rfl,S1.ob,U.cl,U.nD,zS _,.inl ⟨rfl,_,bF.of hd⟩,_,rfl,by show 2<=sizeLine;decide,fun t ht=>?_⟩;have td:B.d≠t:=ak hd ht;refine⟨B.d,_,_,rfl,rfl,by rw[ag td];exact hd,by rw[Ir];exact aW (by have:=ft.d;omega),?_⟩;refine nV k (by simp[aK,e]) _ ⟨B,n9 S1 hd hp (.come g) ht,(k1.on (xJ ht)).on (f6 Bp),fun b hb=>.inl hb,(t1.upd _ _).upd _ _⟩
theorem qY (F:d6 K "go" "Hall.go" lH f fd)(bj:ar P w K mg base (fb P w) c.C "wears" 3 ["self","guest"] (jd c)) : bd P w K mg base (fb P w) 4 f fd ["self","guest"] (Az c):=by
 refine F.okX yg (fun vs H Q E h=>?_) (fun cdv A outer s H vs Q E hr h=>?_)
 ·obtain⟨p,B,st,g,rfl,_⟩:=h
  rfl
 ·obtain⟨p,B,st,g,rfl,S,ft,hg,hm,k⟩:=h
  refine⟨_,ah (br (aw pf (c8 bj (pv 0) U.cl hr c5 (aq (pv 1) aN)) (pv 1) (aI _)) (aj (mP U.eM fY rfl hr.hd rfl U.mM (mK (dF (i7 (pv 1)) (dF aO (dF (i7 (c8 bj (pv 0) U.cl hr c5 (aq (pv 1) aN))) (rq))))))) aM) (
   ah (a6 (rp (bW (pv 0) rfl) (pv 1) ⟨rfl,rfl,rfl,rfl⟩)) (
   ah (a6 (rp (bW (pv 0) rfl) (pv 1) ⟨rfl,rfl,rfl,rfl⟩)) (
   aj (a6 (jK Jj Jf Jg cK (bW (pv 0) rfl) (aq (aS (aq (aO) (aq (pv 1) (aN)))) aN)))))),?_⟩
  have no:=kL B (m:="wears") (by decide +kernel) (by decide +kernel) (by decide +kernel) (by decide +kernel);refine⟨_,rfl,p,B.dx,_,rfl,S.ob,no,_,rfl,p,B,st,g,rfl,S,hg,?_⟩
  cases e:look st.worn g with
  | none=>exact fX (o:=.noguest g) k (by simp[aK,e]) (by simp)
  | some m =>
   obtain⟨hs,hh⟩:=hm m e;refine⟨_,rfl,rfl,_,rfl,?_⟩
   by_cases em:m=g
   ·subst em
    rw[IG rfl];refine aR ?_
    have hv:dN (dk st.worn) (Sum.inl m:bV)=some (V.int m):=by rw[dH,e];rfl
    obtain⟨m2,e2⟩:=Jm.mp (hh rfl)
    have hv2:dN (dk st.hold) (Sum.inl m:bV)=some (V.int m2):=by rw[dH,e2];rfl
    refine⟨_,rfl,p,c.C,B.dx,_,_,rfl,S.ob,U.cl,U.nW,vK _,B.w,rfl,.inl ⟨_,.inl S.w⟩,_,rfl,_,Sum.inl m,_,S.w,rfl,hv,?_⟩;rw[qB];have S0:=uu S (cB st.worn m);refine⟨_,rfl,p,c.C,B.dx,_,_,rfl,S0.ob,U.cl,U.nH,Bc _,B.h,rfl,.inl ⟨_,.inl S0.h⟩,_,rfl,_,Sum.inl m,_,S0.h,rfl,hv2,?_⟩;rw[qB];have S1:=ut S0 (cB st.hold m);have k1:Kp B.fp H (upd (upd H B.w (.dK (dk (cB st.worn m)))) B.h (.dK (dk (cB st.hold m)))):=(f6 yV).on (f6 yU);have t1:Tr H (upd (upd H B.w (.dK (dk (cB st.worn m)))) B.h (.dK (dk (cB st.hold m)))):=(Tr.refl.upd _ _).upd _ _;generalize upd (upd H B.w (.dK (dk (cB st.worn m)))) B.h (.dK (dk (cB st.hold m)))=H1 at S1 k1 t1;obtain⟨as,hd,hp⟩:=id S1.d;have hl:as.length=st.deeds.length:=Ix hp;refine⟨_,rfl,p,c.C,B.dx,_,_,rfl,S1.ob,U.cl,U.nD,zS _,.inl ⟨rfl,_,bF.of hd⟩,_,rfl,by show 2<=sizeLine;decide,fun t ht=>?_⟩;have td:B.d≠t:=ak hd ht;refine⟨B.d,_,_,rfl,rfl,by rw[ag td];exact hd,by rw[Ir];exact aW (by have:=ft.d;omega),?_⟩;refine nV k (by simp[aK,e]) _ ⟨B,n9 S1 hd hp (.go m) ht,(k1.on (xJ ht)).on (f6 Bp),fun b hb=>.inl hb,(t1.upd _ _).upd _ _⟩
   ·rw[IM (fun z=>em (V.int.inj z))]
    refine bI ⟨_,rfl,g,rfl,hg,fun y hy=>⟨y,rfl,hy,_,rfl,by decide,?_⟩⟩;refine⟨_,rfl,p,B.dx,_,rfl,S.ob,no,_,rfl,p,B,st,g,rfl,S,hg,?_⟩;rw[e];refine⟨m,rfl,hs,fun y hy=>⟨y,rfl,hy,fun z=>?_⟩⟩;exact fX (o:=.masked) k (by simp[aK,e,em]) (by simp) _ (fun _ _ z=>z)
theorem iC (F:d6 K "exchange" "Hall.exchange" e8 f fd)(bj:ar P w K mg base (fb P w) c.C "wears" 3 ["self","guest"] (jd c))(fU:ar P w K mg base c7 c.C "met" 1 ["self","one","other"] (wU c.C))(bQ:ar P w K mg base c7 c.C "dress" 1 ["self","guest","mask"] (kf c.C))(cw:ar P w K mg base c7 c.C "acquaint" 1 ["self","one","other"] (wP c.C)) : bd P w K mg base (fb P w) 4 f fd ["self","one","other"] (ja c):=by
 refine F.okX eZ (fun vs H Q E h=>?_) (fun cdv A outer s H vs Q E hr h=>?_)
 ·obtain⟨p,B,st,a,b,rfl,_⟩:=h
  rfl
 ·obtain⟨p,B,st,a,b,rfl,S,ft,ha,hb,k⟩:=h
  have hr1:cu 1 _:=hr.mono (by decide)
  refine⟨_,ah (dM (i:=3) eZ.nd rfl (Or.inl rfl) (c8 bj (pv 0) U.cl hr c5 (aq (pv 1) aN))) (
   ah (dM (i:=4) eZ.nd rfl (Or.inl rfl) (c8 bj (pv 0) U.cl hr c5 (aq (pv 2) aN))) (
   ah (br (aw cQ (pv 1) (pv 2) (aI _)) (aj (mP U.eS fY rfl hr.hd rfl U.mS (mK (dF (i7 (pv 1)) (dF aO (rq)))))) aM) (
   ah (br (oG (c8 fU (pv 0) U.cl hr1 dQ (aq (pv 1) (aq (pv 2) aN)))) (aj (mP U.eT fY rfl hr.hd rfl U.mT (mK (dF (i7 (pv 1)) (dF aO (dF (i7 (pv 2)) (dF aO (rq)))))))) aM) (
   ah (a6 (c8 bQ (pv 0) U.cl hr1 dQ (aq (pv 1) (aq (pv 4) aN)))) (
   ah (a6 (c8 bQ (pv 0) U.cl hr1 dQ (aq (pv 2) (aq (pv 3) aN)))) (
   ah (a6 (c8 cw (pv 0) U.cl hr1 dQ (aq (pv 1) (aq (pv 2) aN)))) (
   ah (a6 (c8 cw (pv 0) U.cl hr1 dQ (aq (pv 2) (aq (pv 1) aN)))) (
   aj (a6 (jK Jj Jf Jg cK (bW (pv 0) rfl) (aq (aS (aq (aO) (aq (pv 1) (aq (pv 2) (aN))))) aN))))))))))),?_⟩
  have no:∀ (B:HA)(m:Str),m∈(["wears","met","dress","acquaint"]:List Str)->(aH B).lookup m=none:=fun B m hm=>by
   simp only[IE,List.not_mem_nil,or_false]at hm;rcases hm with rfl | rfl | rfl | rfl<;>exact l7 B (by decide +kernel)
  have n1:∀ B:HA,(aH B).lookup ("wears" : Str)=none:=fun B=>no B _ (by simp);have n2:∀ B:HA,(aH B).lookup ("met" : Str)=none:=fun B=>no B _ (by simp);have n3:∀ B:HA,(aH B).lookup ("dress" : Str)=none:=fun B=>no B _ (by simp);have n4:∀ B:HA,(aH B).lookup ("acquaint" : Str)=none:=fun B=>no B _ (by simp);refine⟨_,rfl,p,B.dx,_,rfl,S.ob,n1 B,_,rfl,p,B,st,a,rfl,S,ha,?_⟩
  cases ea:look st.worn a with
  | none=>exact fX (o:=.noguest a) k (by simp[aK,ea]) (by simp)
  | some ma =>
   refine⟨_,rfl,p,B.dx,_,rfl,S.ob,n1 B,_,rfl,p,B,st,b,rfl,S,hb,?_⟩
   cases eb:look st.worn b with
   | none=>exact fX (o:=.noguest b) k (by simp[aK,ea,eb]) (by simp)
   | some mb =>
    refine⟨_,rfl,_,rfl,rfl,_,rfl,?_⟩
    by_cases eab:a=b
    ·rw[IG (by rw[eab])]
     refine bI ⟨_,rfl,a,rfl,ha,fun y hy=>⟨y,rfl,hy,_,rfl,by decide,fun z=>?_⟩⟩;exact fX (o:=.same) k (by simp[aK,ea,eb,eab]) (by simp) _ (fun _ _ z=>z)
    ·rw[IM (fun z=>eab (V.int.inj z))]
     refine aR ⟨_,rfl,p,B.dx,_,rfl,S.ob,n2 B,_,rfl,_,rfl,p,B,st,a,b,rfl,S,fun H1 s1=>⟨_,rfl,?_⟩⟩
     cases em:iZ st.circ a b with
     | true =>
      refine bI ⟨_,rfl,a,rfl,ha,fun y hy=>⟨y,rfl,hy,_,rfl,by decide,_,rfl,b,rfl,hb,fun y hy=>⟨y,rfl,hy,_,rfl,by decide,fun z=>?_⟩⟩⟩;exact fX (o:=.met) k (by simp[aK,ea,eb,eab,em]) (by simp) _ s1
     | false =>
      refine aR ?_;have S1:=S.mono s1;have kd:=nV k (by simp[aK,ea,eb,eab,em])
      have wa:wr st.worn a=ma:=by unfold wr;rw[ea];rfl
      have wb:wr st.worn b=mb:=by unfold wr;rw[eb];rfl
      have l1:=uC st.worn a mb;have l2:=uC st.hold mb a;have f1:=ft.w;have f2:=ft.h;refine⟨_,rfl,p,B.dx,_,rfl,S1.ob,n3 B,_,rfl,_,rfl,p,B,st,a,mb,rfl,S1,by omega,by omega,?_⟩;have S2:=ut (uu S1 (put st.worn a mb)) (put st.hold mb a);have k2:Kp B.fp H (upd (upd H1 B.w (.dK (dk (put st.worn a mb)))) B.h (.dK (dk (put st.hold mb a)))):=((Kp.of_same s1).on (f6 yV)).on (f6 yU);have t2:Tr H (upd (upd H1 B.w (.dK (dk (put st.worn a mb)))) B.h (.dK (dk (put st.hold mb a)))):=((Tr.of_same s1).upd _ _).upd _ _;generalize upd (upd H1 B.w (.dK (dk (put st.worn a mb)))) B.h (.dK (dk (put st.hold mb a)))=H2 at S2 k2 t2;refine⟨_,rfl,p,B.dx,_,rfl,S2.ob,n3 B,_,rfl,_,rfl,p,B,_,b,ma,rfl,S2,by show (put st.worn a mb).length<2000;omega,by show (put st.hold mb a).length<2000;omega,?_⟩;have S3:=ut (uu S2 (put (put st.worn a mb) b ma)) (put (put st.hold mb a) ma b);have k3:Kp B.fp H (upd (upd H2 B.w (.dK (dk (put (put st.worn a mb) b ma)))) B.h (.dK (dk (put (put st.hold mb a) ma b)))):=(k2.on (f6 yV)).on (f6 yU);dsimp only at S3 ⊢;have t3:Tr H (upd (upd H2 B.w (.dK (dk (put (put st.worn a mb) b ma)))) B.h (.dK (dk (put (put st.hold mb a) ma b)))):=(t2.upd _ _).upd _ _;generalize upd (upd H2 B.w (.dK (dk (put (put st.worn a mb) b ma)))) B.h (.dK (dk (put (put st.hold mb a) ma b)))=H3 at S3 k3 t3;refine⟨_,rfl,p,B.dx,_,rfl,S3.ob,n4 B,_,rfl,_,rfl,p,B,_,a,b,rfl,S3,by have:=ft.c;show st.circ.length<2000;omega,fun x hx=>by have:=ft.k x hx;omega,fun H4 ⟨B4,S4,k4,p4,t4⟩=>?_⟩;dsimp only at S4;refine⟨_,rfl,p,B4.dx,_,rfl,S4.ob,n4 B4,_,rfl,_,rfl,p,B4,_,b,a,rfl,S4,by have:=ft.c;have:=mx st.circ a b;show (ca st.circ a b).length<2000;omega,fun x hx=>by have:=qt (n:=999) (fun x hx=>by have:=ft.k x hx;omega) (by decide) x hx;omega,fun H5 ⟨B5,S5,k5,p5,t5⟩=>?_⟩
      dsimp only at S5;have k4':Kp B.fp H H4:=k3.on k4
      have f4:∀ x∈B4.fp,x∈B.fp\/H x=none:=fun x hx=>by
       rcases p4 x hx with z | z
       ·exact .inl z
       ·by_cases hq:x∈B.fp
        ·exact .inl hq
        ·refine .inr ?_
         cases e:H x with
         | none=>rfl
         | some o=>rw[k3 x o e hq]at z;cases z
      have k5':Kp B.fp H H5:=k4'.trans k5 f4
      have f5:∀ x∈B5.fp,x∈B.fp\/H x=none:=fun x hx=>by
       rcases p5 x hx with z | z
       ·exact f4 x z
       ·by_cases hq:x∈B.fp
        ·exact .inl hq
        ·refine .inr ?_
         cases e:H x with
         | none=>rfl
         | some o=>rw[k4' x o e hq]at z;cases z
      obtain⟨as,hd,hp⟩:=id S5.d;have hl:as.length=st.deeds.length:=Ix hp;refine⟨_,rfl,p,c.C,B5.dx,_,_,rfl,S5.ob,U.cl,U.nD,zS _,.inl ⟨rfl,_,bF.of hd⟩,_,rfl,_,rfl,by show 3<=sizeLine;decide,fun t ht=>?_⟩;have td:B5.d≠t:=ak hd ht;refine⟨B5.d,_,_,rfl,rfl,by rw[ag td];exact hd,by rw[Ir];exact aW (by have:=ft.d;omega),?_⟩;have S6:=n9 S5 hd hp (.exch a b) ht;refine kd _ ⟨B5,?_,?_,f5,(((t3.trans t4).trans t5).upd _ _).upd _ _⟩
      ·show az c.C _ p B5 { worn:=put (put st.worn a (wr st.worn b)) b (wr st.worn a),hold:=put (put st.hold (wr st.worn b) a) (wr st.worn a) b,circ:=ca (ca st.circ a b) b a,deeds:=st.deeds++[.exch a b] }
       rw[wa,wb];exact S6
      ·intro x o e hx
       have h5:=k5' x o e hx
       have hx5:x≠B5.d:=fun z=>by
        rcases f5 B5.d Bp with q | q
        ·exact hx (by rw[z];exact q)
        ·rw[z,q]at e;cases e
       show upd (upd H5 t _) B5.d _ x=some o
       rw[ag hx5,ag (ak h5 ht)];exact h5
theorem kO (F:d6 K "dress" "Hall.dress" ii f fd) : bd P w K mg base c7 1 f fd ["self","guest","mask"] (kf c.C):=by
 refine F.ok sJ (fun vs H Q E h=>?_) (fun cdv A outer s H vs Q E hr h=>?_)
 ·obtain⟨p,B,st,g,m,rfl,_⟩:=h
  rfl
 ·obtain⟨p,B,st,g,m,rfl,S,hw,hh,k⟩:=h
  have hu:=dJ hr
  have nwh:B.w≠B.h:=by have:=S.nd;simp[HA.fp]at this;exact this.1.1
  have npw:p≠B.w:=cJ S.ob S.w (by intro z;cases z)
  refine⟨_,ah (gR hu (bW (pv 0) rfl) (pv 1) (pv 2) rfl) (
   aj (gR hu (bW (pv 0) rfl) (pv 2) (pv 1) rfl)),?_⟩
  refine⟨_,rfl,_,rfl,p,c.C,B.dx,_,_,rfl,S.ob,U.cl,U.nW,vK _,_,rfl,B.w,_,rfl,k7.k (k:=Sum.inl g) S.w (by rw[xM];exact IQ hw (by decide)),?_⟩;rw[mQ];refine⟨_,rfl,_,rfl,p,c.C,B.dx,_,_,rfl,(by rw[ag npw];exact S.ob),U.cl,U.nH,Bc _,_,rfl,B.h,_,rfl,k7.k (k:=Sum.inl m) (by rw[ag (IN nwh)];exact S.h) (by rw[xM];exact IQ hh (by decide)),?_⟩;rw[mQ];exact k
theorem iB (F:d6 K "acquaint" "Hall.acquaint" e7 f fd) : bd P w K mg base c7 1 f fd ["self","one","other"] (wP c.C):=by
 refine F.ok iH (fun vs H Q E h=>?_) (fun cdv A outer s H vs Q E hr h=>?_)
 ·obtain⟨p,B,st,a,b,rfl,_⟩:=h
  rfl
 ·obtain⟨p,B,st,a,b,rfl,S,hl1,hl2,k⟩:=h
  have hu:=dJ hr
  refine⟨_,ah (dM (i:=3) iH.nd rfl (Or.inl rfl) (BG (bW (pv 0) rfl) (pv 1) f7 ⟨rfl,rfl,rfl,rfl⟩)) (
   aj (gR hu (pv 3) (pv 2) iF rfl)),?_⟩
  refine⟨_,rfl,p,c.C,B.dx,_,_,rfl,S.ob,U.cl,U.nC,Bb _,B.c,rfl,.inl ⟨_,.inl S.c⟩,_,rfl,fun l hl=>?_⟩;have s1:aA H (upd H l (.dK [])):=ai hl;have S1:=S.mono s1;have ap:=S.apart;have lenc:B.cs.length=st.circ.length:=Ix S.cs
  have lc:(bS B.cs st.circ).length<sizeLine:=by rw[jZ lenc];exact IQ hl1 (by decide)
  have np:=S.pne;simp only[HA.fp,IE,not_or]at np;refine⟨_,Sum.inl a,S1.c,rfl,lc,fun v hv=>?_,fun hv=>?_⟩
  ·rcases iw a S1.cs with ⟨h1,h2,h3⟩ | ⟨ad,h1,h2,h3,h4⟩
   ·rw[h1]at hv;cases hv
   ·rw[h2]at hv
    cases hv
    have lk:(qM (iL st.circ a)).length<sizeLine:=by
     have e:∀ ci:List (Int×List Int),(∀ x∈ci,x.2.length<2000)->(iL ci a).length<2000:=by
      intro ci
      induction ci with
      | nil=>intro _;show 0<2000;decide
      | cons x r ih =>
       intro h;unfold iL;split
       ·exact h x IJ
       ·exact ih fun y hy=>h y (Iz _ hy)
     unfold qM;rw[Ir];exact IQ (e _ hl2) (by decide)
    refine⟨_,rfl,_,rfl,ad,_,rfl,k7.k (k:=Sum.inl b) h3 lk,?_⟩;rw[Dz]
    have adfp:ad∈B.fp:=by simp[HA.fp,h1]
    have nn:∀ x,x∉B.cs->x≠ad:=fun x hx z=>hx (by rw[z];exact h1);obtain⟨q1,q2⟩:=h4 b (upd (upd H l (.dK [])) ad (.dK (qM (ko (iL st.circ a) b)))) ap.cs (fun x _ hx o e=>by rw[ag hx];exact e) af;refine k _ ⟨B,⟨by rw[ag (nn _ np.2.2.2.2)];exact S1.ob,S.nd,by rw[ag (nn _ ap.w)];exact S1.w,by rw[ag (nn _ ap.h)];exact S1.h,by rw[ag (nn _ ap.c),S1.c,q2],q1,?_⟩,(xJ hl).on (f6 adfp),fun x hx=>.inl hx,(Tr.refl.upd _ _).upd _ _⟩;obtain⟨as,hd,hp⟩:=S1.d;refine⟨as,by rw[ag (nn _ ap.d)];exact hd,Paired.mapP hp fun t x e=>?_⟩;obtain⟨xs,ex⟩:=cz x;rw[ag (fun z=>S1.tup (xs:=xs) (by rw[<-ex];exact e) (by rw[z];exact adfp))];exact e
  ·rcases iw a S1.cs with ⟨h1,h2,h3⟩ | ⟨ad,h1,h2,h3,h4⟩
   ·have lB:l∉B.fp:=fun z=>by obtain⟨o,e⟩:=S.tracked z;rw[hl]at e;cases e
    have lB':=lB;simp only[HA.fp,IE,not_or]at lB';obtain⟨l1,l2,l3,l4,l5⟩:=lB';refine⟨_,rfl,_,rfl,l,_,rfl,k7.k (k:=Sum.inl b) (by rw[ag l3];exact af) (by show 0<sizeLine;decide),?_⟩;rw[show fq [] (Sum.inl b:bV) (V.bl true)=qM [b] from rfl,wD _ hv]
    have e1:∀ x o,H x=some o->x≠B.c->x≠l->(upd (upd (upd H l (.dK [])) B.c (.dK (bS B.cs st.circ++[(Sum.inl a,V.ref l)]))) l (.dK (qM [b]))) x=some o:=fun x o e hx hy=>by
     rw[ag hy,ag hx,ag hy];exact e
    have nl:∀ x o,H x=some o->x≠l:=fun x o e=>ak e hl;refine k _ ⟨⟨B.dx,B.w,B.h,B.c,B.d,B.cs++[l]⟩,⟨?_,?_,e1 _ _ S.w ap.wc (nl _ _ S.w),e1 _ _ S.h ap.hc (nl _ _ S.h),?_,?_,?_⟩,?_,fun x hx=>?_,((Tr.refl.upd _ _).upd _ _).upd _ _⟩
    ·exact e1 _ _ S.ob np.2.2.1 (nl _ _ S.ob)
    ·refine yu.fp ⟨ap.wh,ap.wc,ap.wd,ap.hc,ap.hd,ap.cd,?_,?_,?_,?_,?_⟩
     ·simp[ap.w,IN l1]
     ·simp[ap.h,IN l2]
     ·simp[ap.c,IN l3]
     ·simp[ap.d,IN l4]
     ·exact mD ap.cs l5
    ·show (upd (upd (upd H l (.dK [])) B.c (.dK (bS B.cs st.circ++[(Sum.inl a,V.ref l)]))) l (.dK (qM [b]))) B.c=some (.dK (bS (B.cs++[l]) (ca st.circ a b)))
     rw[ag (IN l3),af,h3 b,lb a [b] l lenc]
    ·show GP _ (B.cs++[l]) (ca st.circ a b)
     rw[h3 b];exact bC (lW S.cs fun x hx o e=>e1 x o e (fun z=>ap.c (by rw[<-z];exact hx)) (nl x o e)) (.cons af .nil)
    ·obtain⟨as,hd,hp⟩:=S.d
     refine⟨as,e1 _ _ hd (IN ap.cd) (nl _ _ hd),Paired.mapP hp fun t x e=>?_⟩;obtain⟨xs,ex⟩:=cz x;exact e1 t _ e (fun z=>S.tup (xs:=xs) (by rw[<-ex];exact e) (by rw[z];exact D4)) (nl t _ e)
    ·intro x o e hx
     exact e1 x o e (fun z=>hx (by rw[z];exact D4)) (nl x o e)
    ·simp only[HA.fp,IE,IP]at hx ⊢
     rcases hx with hx | hx | hx | hx | hx | hx | hx
     ·exact .inl (.inl hx)
     ·exact .inl (.inr (.inl hx))
     ·exact .inl (.inr (.inr (.inl hx)))
     ·exact .inl (.inr (.inr (.inr (.inl hx))))
     ·exact .inl (.inr (.inr (.inr (.inr hx))))
     ·exact .inr (by rw[hx];exact hl)
     ·cases hx
   ·rw[h2]at hv;cases hv
theorem jH (F:d6 K "inside" "Hall.inside" gz f fd) : bd P w K mg base c7 1 f fd ["self","guest"] (iI c.C):=by
 refine F.ok rD (fun vs H Q E h=>?_) (fun cdv A outer s H vs Q E hr h=>?_)
 ·obtain⟨p,B,st,g,rfl,_⟩:=h
  rfl
 ·obtain⟨p,B,st,g,rfl,S,k⟩:=h
  have hu:=dJ hr;refine⟨_,aj (ax (x8 (lC hu (pv 1) (bW (pv 0) rfl)))),?_⟩
  have g1:da H B.w (.int g) ((look st.worn g).map V.int):=by rw[<-dH];exact da.k (k:=Sum.inl g) S.w
  refine⟨_,rfl,_,rfl,p,c.C,B.dx,_,_,rfl,S.ob,U.cl,U.nW,vK _,B.w,_,rfl,g1,?_⟩;rw[Ki];exact k
theorem qZ (F:d6 K "guests" "Hall.guests" gv f fd) : bd P w K mg base c7 1 f fd ["self"] (nj c.C):=by
 refine F.ok rC (fun vs H Q E h=>?_) (fun cdv A outer s H vs Q E hr h=>?_)
 ·obtain⟨p,B,st,rfl,_⟩:=h
  rfl
 ·obtain⟨p,B,st,rfl,S,hl,k⟩:=h
  refine⟨_,aj (ax (cL (fF rfl) (by rfl) T.sorted J0 (aq (bW (pv 0) rfl) aN))),?_⟩;refine⟨_,rfl,p,c.C,B.dx,_,_,rfl,S.ob,U.cl,U.nW,vK _,B.w,_,ay st.worn,rfl,S.w,?_,by unfold ay;rw[Ir];exact hl,k⟩;unfold dk ay;rw[Jx,Jx];rfl
theorem kQ (F:d6 K "wears" "Hall.wears" ik f fd)(NG:iu P w K mg base c) : bd P w K mg base (fb P w) 3 f fd ["self","guest"] (jd c):=by
 refine F.okX sN (fun vs H Q E h=>?_) (fun cdv A outer s H vs Q E hr h=>?_)
 ·obtain⟨p,B,st,g,rfl,_⟩:=h
  rfl
 ·obtain⟨p,B,st,g,rfl,S,hg,k⟩:=h
  have hu:=dJ hr
  refine⟨_,ah (br (gi (iE hu (pv 1) (bW (pv 0) rfl))) (aj (ro NG U hr fY rfl hr.hd rfl (pv 1))) aM) (
   aj (ax (i6 hu (bW (pv 0) rfl) (pv 1) (fun _ _=>rfl)))),?_⟩
  have g1:da H B.w (.int g) ((look st.worn g).map V.int):=by rw[<-dH];exact da.k (k:=Sum.inl g) S.w
  refine⟨_,rfl,_,rfl,p,c.C,B.dx,_,_,rfl,S.ob,U.cl,U.nW,vK _,B.w,_,rfl,g1,_,rfl,?_⟩
  cases e:look st.worn g with
  | none =>
   rw[e]at k;exact bI ⟨_,rfl,g,rfl,hg,fun dx hdx=>k dx _ (ai hdx) af⟩
  | some m =>
   rw[e]at k;refine aR ⟨_,rfl,p,c.C,B.dx,_,_,rfl,S.ob,U.cl,U.nW,vK _,_,rfl,B.w,_,rfl,(by rw[e]at g1;exact g1),k⟩
theorem jI (F:d6 K "wearer" "Hall.wearer" gB f fd)(NG:iu P w K mg base c) : bd P w K mg base (fb P w) 3 f fd ["self","mask"] (iJ c):=by
 refine F.okX rF (fun vs H Q E h=>?_) (fun cdv A outer s H vs Q E hr h=>?_)
 ·obtain⟨p,B,st,g,rfl,_⟩:=h
  rfl
 ·obtain⟨p,B,st,g,rfl,S,hg,k⟩:=h
  have hu:=dJ hr
  refine⟨_,ah (br (gi (iE hu (pv 1) (bW (pv 0) rfl))) (aj (ro NG U hr fY rfl hr.hd rfl (pv 1))) aM) (
   aj (ax (i6 hu (bW (pv 0) rfl) (pv 1) (fun _ _=>rfl)))),?_⟩
  have g1:da H B.h (.int g) ((look st.hold g).map V.int):=by rw[<-dH];exact da.k (k:=Sum.inl g) S.h
  refine⟨_,rfl,_,rfl,p,c.C,B.dx,_,_,rfl,S.ob,U.cl,U.nH,Bc _,B.h,_,rfl,g1,_,rfl,?_⟩
  cases e:look st.hold g with
  | none =>
   rw[e]at k;exact bI ⟨_,rfl,g,rfl,hg,fun dx hdx=>k dx _ (ai hdx) af⟩
  | some m =>
   rw[e]at k;refine aR ⟨_,rfl,p,c.C,B.dx,_,_,rfl,S.ob,U.cl,U.nH,Bc _,_,rfl,B.h,_,rfl,(by rw[e]at g1;exact g1),k⟩
theorem pe (F:d6 K "met" "Hall.met" jP f fd) : bd P w K mg base c7 1 f fd ["self","one","other"] (wU c.C):=by
 refine F.ok wJ (fun vs H Q E h=>?_) (fun cdv A outer s H vs Q E hr h=>?_)
 ·obtain⟨p,B,st,a,b,rfl,_⟩:=h
  rfl
 ·obtain⟨p,B,st,a,b,rfl,S,k⟩:=h
  have hu:=dJ hr;refine⟨_,aj (ax (x8 (lC hu (pv 2) (wz hu (bW (pv 0) rfl) (pv 1) f7 ⟨rfl,rfl,rfl,rfl⟩)))),?_⟩;refine⟨_,rfl,_,rfl,p,c.C,B.dx,_,_,rfl,S.ob,U.cl,U.nC,Bb _,B.c,rfl,.inl ⟨_,.inl S.c⟩,_,rfl,fun l hl=>?_⟩;have s1:aA H (upd H l (.dK [])):=ai hl;have S1:=S.mono s1;refine⟨_,da.k (k:=Sum.inl a) S1.c,?_⟩;rcases iw a S1.cs with ⟨h1,h2,h3⟩ | ⟨ad,h1,h2,h3,h4⟩
  ·rw[h1]
   refine⟨l,_,rfl,da.k (k:=Sum.inl b) af,?_⟩;have:=k _ s1;unfold iZ at this;rw[h2]at this;exact this
  ·rw[h2]
   refine⟨ad,_,rfl,da.k (k:=Sum.inl b) h3,?_⟩;rw[DO];exact k _ s1
theorem oC (F:d6 K "partners" "Hall.partners" e9 f fd) : bd P w K mg base c7 1 f fd ["self","guest"] (jc c.C):=by
 refine F.ok oH (fun vs H Q E h=>?_) (fun cdv A outer s H vs Q E hr h=>?_)
 ·obtain⟨p,B,st,g,rfl,_⟩:=h
  rfl
 ·obtain⟨p,B,st,a,rfl,S,h64,k⟩:=h
  have hu:=dJ hr;refine⟨_,aj (ax (cL (fF rfl) (by rfl) T.sorted J0 (aq (wz hu (bW (pv 0) rfl) (pv 1) f7 ⟨rfl,rfl,rfl,rfl⟩) aN))),?_⟩;refine⟨_,rfl,p,c.C,B.dx,_,_,rfl,S.ob,U.cl,U.nC,Bb _,B.c,rfl,.inl ⟨_,.inl S.c⟩,_,rfl,fun l hl=>?_⟩;have s1:aA H (upd H l (.dK [])):=ai hl;have S1:=S.mono s1;refine⟨_,da.k (k:=Sum.inl a) S1.c,?_⟩;rcases iw a S1.cs with ⟨h1,h2,h3⟩ | ⟨ad,h1,h2,h3,h4⟩
  ·rw[h1]
   refine⟨l,[],[],rfl,af,rfl,by decide,fun l2 hl2=>?_⟩;refine k l2 _ (s1.free hl2) (s1.trans (ai hl2)) ?_;rw[h2,af]
  ·rw[h2]
   refine⟨ad,_,iL st.circ a,rfl,h3,by unfold qM;rw[Jx];rfl,h64,fun l2 hl2=>?_⟩;exact k l2 _ (s1.free hl2) (s1.trans (ai hl2)) af
theorem sD (F:d6 K "pairs" "Hall.pairs" fj f fd)(fA:ar P w K mg base c7 c.C "partners" 1 ["self","guest"] (jc c.C)) : bd P w K mg base c7 2 f fd ["self"] (nk c.C):=by
 refine F.ok sL (fun vs H Q E h=>?_) (fun cdv A outer s H vs Q E hr h=>?_)
 ·obtain⟨p,B,st,L,rfl,_⟩:=h
  rfl
 ·obtain⟨p,B,st,L,rfl,S,ci,hL,hP,k⟩:=h
  have hu:=dJ hr
  have two:(2:Nat)<=sizeLine:=by decide
  have nQ:(aH B).lookup ("partners" : Str)=none:=l7 B (by decide +kernel);have kk:=ci.kk;refine⟨_,aj (ax (BE (so:=ao fj) (N:=mz) (N':=["one","other","self"]) (src:=[none,none,some 0]) rfl rfl Et rfl (dj (cL (fF rfl) (by rfl) T.sorted J0 (gK (bW (pv 0) rfl)))) (fun cl C s2 H2 ex=>⟨j7 0 (show (["one","other","self"]:List Str).Nodup by decide +kernel),j9,BQ K (c8 fA (pv 2) U.cl hr.m dQ (gK (pv 0))),j7 1 (show (["one","other","self"]:List Str).Nodup by decide +kernel),zd (aw wu (pv 0) (pv 1) (aI _)),aS (dP (pv 0) (pv 1))⟩))),?_⟩
  have ck:(bS B.cs st.circ).map (·.1)=(st.circ.map (·.1)).map Sum.inl:=by
   have:=S.cs;generalize B.cs=cs at this;generalize st.circ=xs at this
   induction this with
   | nil=>rfl
   | cons _ _ ih=>simp only[bS,IT];rw[ih]
  refine⟨_,rfl,p,c.C,B.dx,_,_,rfl,S.ob,U.cl,U.nC,Bb _,B.c,_,st.circ.map (·.1),rfl,S.c,ck,by rw[Ir];omega,fun lo hlo=>?_⟩;have s1:=ai (o:=.lst ((b7 (st.circ.map (·.1))).map V.int)) hlo;have ho1:upd H lo (.lst ((b7 (st.circ.map (·.1))).map V.int)) lo=some (.lst ((b7 (st.circ.map (·.1))).map V.int)):=af;generalize upd H lo (.lst ((b7 (st.circ.map (·.1))).map V.int))=H1 at s1 ho1 ⊢;refine⟨lo,rfl,⟨_,bF.of ho1⟩,fun l hl=>?_⟩;generalize hks:b7 (st.circ.map (·.1))=ks at ho1 ⊢
  have kl:ks.length<=L.length:=by rw[<-hks,tM,Ir];exact kk
  have pl:∀ i,((ks.take i).flatMap (dS st.circ)).length<=1000:=fun i=>by
   have e:eF st.circ=(ks.take i++ks.drop i).flatMap (dS st.circ):=by rw[JV];unfold eF;rw[hks]
   rw[e,List.flatMap_append,ID]at hP;omega
  refine cC (K:=K) (a:=lo) (xs:=ks.map V.int) (fun i σ H2=>∃ u v:Option V,σ=[u,v,some (.ref p)]/\aA H1 H2/\aT H2 l ((ks.take i).flatMap (dS st.circ)))
   ⟨none,none,rfl,ai hl,⟨[],af,.nil⟩⟩ (fun i σ H2 _ ⟨_,_,_,s2,_⟩=>bF.of (s2 _ _ ho1)) ?_ ?_
  ·rintro i y σ H2 hi ⟨u,v,rfl,s2,row⟩
   obtain⟨a,ha,rfl⟩:=bT hi;have S2:=(S.mono s1).mono s2
   have ec:(ks.take (i+1)).flatMap (dS st.circ)=(ks.take i).flatMap (dS st.circ)++dS st.circ a:=by rw[IZ,ha,Jd,List.flatMap_append,List.flatMap_singleton]
   have pl2:=pl (i+1);rw[ec,ID]at pl2;refine Ck ⟨_,rfl,p,B.dx,_,rfl,S2.ob,nQ,_,rfl,p,B,st,a,rfl,S2,KC (ci.cl a) hL,fun lm H3 hlm s3 hm3=>⟨lm,rfl,⟨_,bF.of hm3⟩,?_⟩⟩;have row3:=row.mono s3;generalize hms:b7 (iL st.circ a)=ms at hm3
   have mE:dS st.circ a=(ms.filter fun b=>decide (a<b)).map fun b=>(a,b):=by unfold dS;rw[hms]
   refine cC (K:=K) (a:=lm) (xs:=ms.map V.int) (fun j σ H4=>∃ v:Option V,σ=[some (.int a),v,some (.ref p)]/\(∀ b o,H3 b=some o->b≠l->H4 b=some o)/\aT H4 l ((ks.take i).flatMap (dS st.circ)++((ms.take j).filter fun b=>decide (a<b)).map fun b=>(a,b)))
    ⟨_,rfl,fun b o e _=>e,by simpa using row3⟩ (fun j σ H4 _ ⟨_,_,s4,_⟩=>bF.of (s4 _ _ hm3 ?_)) ?_ ?_
   ·obtain⟨as,hl3,_⟩:=row
    exact fun z=>by rw[<-z]at hl3;rw[hlm]at hl3;cases hl3
   ·rintro j y σ H4 hj ⟨v,rfl,s4,row4⟩
    obtain⟨b,hb,rfl⟩:=bT hj
    have et:(ms.take (j+1))=ms.take j++[b]:=by rw[IZ,hb,Jd]
    have le:((ms.take j).filter fun b=>decide (a<b)).length<=(dS st.circ a).length:=by
     rw[mE,Ir];exact (List.Sublist.filter _ (List.take_sublist j ms)).length_le
    refine Cm ⟨_,rfl,_,rfl,_,_,rfl,rfl,_,rfl,?_⟩
    by_cases hab:a<b
    ·rw[IG hab]
     obtain⟨as,hl4,hp4⟩:=row4;have lq:=Ix hp4;refine bI ⟨_,rfl,_,rfl,two,fun t ht=>⟨_,by rw[ag (ak hl4 ht)];exact hl4,?_,?_⟩⟩
     ·rw[Ir,lq,ID,Ir]
      exact aW (by omega)
     ·have tl:t≠l:=IN (ak hl4 ht)
      refine⟨_,rfl,fun x o e n=>by rw[ag n,ag (ak (s4 x o e n) ht)];exact s4 x o e n,as++[t],by rw[af,Ja];rfl,?_⟩;rw[et,KG,Ja,<-Jz];refine bC (Paired.mapP hp4 fun x q e=>?_) ?_
      ·rw[ag (cJ e hl4 (by intro z;cases z)),ag (ak e ht)];exact e
      ·rw[List.filter_cons_of_pos (by simpa using hab)]
       exact .cons (by rw[ag tl,af]) .nil
    ·rw[IM hab]
     refine aR ⟨_,rfl,s4,?_⟩;rw[et,KG,List.filter_cons_of_neg (by simpa using hab)];simpa using row4
   ·rintro σ H4 ⟨v,rfl,s4,row4⟩
    rw[Ir,Ji]at row4;refine⟨_,_,rfl,fun x o e=>s4 x o ((s2.trans s3) x o e) (ak e hl),?_⟩;rw[ec,mE];exact row4
  ·rintro σ H2 ⟨u,v,rfl,s2,row⟩
   rw[Ir,Ji]at row;refine k l H2 (s1.free hl) (s1.trans s2) ?_;unfold eF;rw[hks];exact row
theorem kP (F:d6 K "story" "Hall.story" ij f fd) : bd P w K mg base c7 1 f fd ["self"] (kh c.C):=by
 refine F.ok sM (fun vs H Q E h=>?_) (fun cdv A outer s H vs Q E hr h=>?_)
 ·obtain⟨p,B,st,rfl,_⟩:=h
  rfl
 ·obtain⟨p,B,st,rfl,S,k⟩:=h
  refine⟨_,aj (ax (dD fE (by rfl) T.list PyProof.Rows.boot_list (aq (bW (pv 0) rfl) aN))),?_⟩;obtain⟨as,hd,hp⟩:=S.d;refine⟨_,rfl,p,c.C,B.dx,_,_,rfl,S.ob,U.cl,U.nD,zS _,B.d,_,rfl,.inl (bF.of hd),fun l hl=>?_⟩;exact k l _ hl (ai hl) ⟨as,af,Paired.mapP hp fun b y e=>(ai hl) _ _ e⟩
theorem q8 (F:d6 K "moment" "Hall.moment" gA f fd) : bd P w K mg base c7 1 f fd ["self"] (nv c.C):=by
 refine F.ok rE (fun vs H Q E h=>?_) (fun cdv A outer s H vs Q E hr h=>?_)
 ·obtain⟨p,B,st,rfl,_⟩:=h
  rfl
 ·obtain⟨p,B,st,rfl,S,k⟩:=h
  refine⟨_,aj (ax (cL dy (by rfl) T.len KS (aq (bW (pv 0) rfl) aN))),?_⟩;obtain⟨as,hd,hp⟩:=S.d;refine⟨_,rfl,p,c.C,B.dx,_,_,rfl,S.ob,U.cl,U.nD,zS _,B.d,_,rfl,.inl (bF.of hd),?_⟩;rw[Ir,Ix hp];exact k
theorem uO (F:d6 K "twin" "Hall.twin" fM f fd)(MH:FH P w K mg base c) : bd P w K mg base c7 3 f fd ["self"] (rP c.C):=by
 refine F.ok mZ (fun vs H Q E h=>?_) (fun cdv A outer s H vs Q E hr h=>?_)
 ·obtain⟨p,A0,st,rfl,_⟩:=h
  rfl
 ·obtain⟨p,A0,st,rfl,S,ndc,lc9,k⟩:=h
  have hu:=dJ hr
  refine⟨_,ah (bA 1 mZ.nd (Bz MH U hr.m rfl)) (
   ah (jL (pv 1) (dD iS (by rfl) T.dict Kc (gK (bW (pv 0) rfl))) rfl) (
   ah (jL (pv 1) (dD iS (by rfl) T.dict Kc (gK (bW (pv 0) rfl))) rfl) (
   ah (zc (jL (pv 1) (BF (so:=ao fM) (N:=o9) (N':=["guest","circle"]) (src:=[none,none]) rfl rfl Et rfl (BP (bW (pv 0) rfl)) (fun cl C s2 H2 ex=>⟨y6 (n:=2) K rfl (bf (j7 0 (show (["guest","circle"]:List Str).Nodup by decide +kernel)) (bf (j7 1 (show (["guest","circle"]:List Str).Nodup by decide +kernel)) dR)),j9,pv 0,dD iS (by rfl) T.dict Kc (gK (pv 1))⟩)) rfl)) (
   ah (jL (pv 1) (dD fE (by rfl) T.list PyProof.Rows.boot_list (gK (bW (pv 0) rfl))) rfl) (
   aj (ax (pv 1))))))),?_⟩
  intro x dx nx ndx nex;refine⟨x,dx,rfl,af,fun B H1 S1 kp fr=>⟨rfl,?_⟩⟩
  have s0:aA H (upd (upd H dx (.own x)) x (.ins c.C dx [])):=fun b o e=>by rw[ag (ak e nx),ag (ak e ndx)];exact e
  have E1:Ev c H H1 x B ⟨[],[],[],[]⟩:=⟨fun b o e=>kp b o (s0 b o e) (ak e nx),S1,fZ,fun b hb=>s0.free (fr b hb)⟩;have S1:=E1.hall;have xo:=S1.ob;have s1:=E1.same;have px:∀ b o,H b=some o->b≠x:=fun b o e=>ak e nx;clear E1 S1;refine⟨_,rfl,p,c.C,A0.dx,_,_,rfl,s1 _ _ S.ob,U.cl,U.nW,vK A0,A0.w,_,rfl,s1 _ _ S.w,fun lw hlw=>?_⟩;have xw:x≠lw:=ak xo hlw;refine⟨_,rfl,x,c.C,B.dx,_,rfl,by rw[ag xw];exact xo,U.cl,U.nW,uB _,?_⟩;rw[Fc];have fw:H lw=none:=s1.free hlw;have s2:aA H (upd (upd H1 lw (.dK (dk st.worn))) x (.ins c.C B.dx (aH { B with w:=lw }))):=cF (s1.trans (ai hlw)) nx
  have w2:upd (upd H1 lw (.dK (dk st.worn))) x (.ins c.C B.dx (aH { B with w:=lw })) lw=some (.dK (dk st.worn)):=by rw[ag (IN xw),af]
  have x2:upd (upd H1 lw (.dK (dk st.worn))) x (.ins c.C B.dx (aH { B with w:=lw })) x=some (.ins c.C B.dx (aH { B with w:=lw })):=af;generalize upd (upd H1 lw (.dK (dk st.worn))) x (.ins c.C B.dx (aH { B with w:=lw }))=H2 at s2 w2 x2 ⊢;refine⟨_,rfl,p,c.C,A0.dx,_,_,rfl,s2 _ _ S.ob,U.cl,U.nH,Bc A0,A0.h,_,rfl,s2 _ _ S.h,fun lh hlh=>?_⟩;have xh:x≠lh:=ak x2 hlh;have wh:lw≠lh:=ak w2 hlh;refine⟨_,rfl,x,c.C,B.dx,_,rfl,by rw[ag xh];exact x2,U.cl,U.nH,uB _,?_⟩;rw[Fb];have fh:H lh=none:=s2.free hlh;have s3:aA H (upd (upd H2 lh (.dK (dk st.hold))) x (.ins c.C B.dx (aH { B with w:=lw,h:=lh }))):=cF (s2.trans (ai hlh)) nx
  have w3:upd (upd H2 lh (.dK (dk st.hold))) x (.ins c.C B.dx (aH { B with w:=lw,h:=lh })) lw=some (.dK (dk st.worn)):=by rw[ag (IN xw),ag wh];exact w2
  have h3:upd (upd H2 lh (.dK (dk st.hold))) x (.ins c.C B.dx (aH { B with w:=lw,h:=lh })) lh=some (.dK (dk st.hold)):=by rw[ag (IN xh),af]
  have x3:upd (upd H2 lh (.dK (dk st.hold))) x (.ins c.C B.dx (aH { B with w:=lw,h:=lh })) x=some (.ins c.C B.dx (aH { B with w:=lw,h:=lh })):=af;generalize upd (upd H2 lh (.dK (dk st.hold))) x (.ins c.C B.dx (aH { B with w:=lw,h:=lh }))=H3 at s3 w3 h3 x3 ⊢;have cl:=Ix S.cs;have kl:=jZ cl;refine⟨_,rfl,p,c.C,A0.dx,_,_,rfl,s3 _ _ S.ob,U.cl,U.nC,Bb A0,A0.c,_,rfl,s3 _ _ S.c,fun oo lc hlc=>?_⟩;have c3:=s3 _ _ S.c
  have cne:∀ b,H b=none->b≠A0.c:=fun b e z=>by rw[z,S.c]at e;cases e
  have hFz:upd H3 A0.c (.frz oo (.dK (bS A0.cs st.circ))) A0.c=some (.frz oo (.dK (bS A0.cs st.circ))):=af;have hF:∀ b,b≠A0.c->upd H3 A0.c (.frz oo (.dK (bS A0.cs st.circ))) b=H3 b:=fun b hb=>ag hb;generalize upd H3 A0.c (.frz oo (.dK (bS A0.cs st.circ)))=HF at hlc hFz hF ⊢
  have lcc:lc≠A0.c:=fun z=>by rw[z,hFz]at hlc;cases hlc
  have flc3:H3 lc=none:=by rw[<-hF lc lcc];exact hlc
  have flc:H lc=none:=s3.free flc3
  refine zR (d:=A0.c) (o:=oo) (kvs:=bS A0.cs st.circ) (fun i σ HK=>∃ (v1 v2:Option V)(cs:List Addr),σ=[v1,v2]/\aA HF HK/\HK lc=some (.dK (bS cs (st.circ.take i)))/\Paired (fun a (y:Int×List Int)=>HK a=some (.dK (qM y.2))) cs (st.circ.take i)/\(∀ b∈cs,HF b=none/\b≠lc)/\cs.Nodup)
   ⟨none,none,[],rfl,ai hlc,af,.nil,(fun b h=>nomatch h),J8⟩ (fun i σ HK _ ⟨_,_,_,_,t1,_⟩=>t1 _ _ hFz) ?_ ?_
  ·rintro i q σ HK T hq ⟨v1,v2,cs,rfl,t1,hd,pc,fr2,ndcs⟩ hT
   obtain⟨a,y,ha,hy,rfl⟩:=tw cl hq;have csl:=Ix pc;obtain⟨y',hy',hA⟩:=paired_get S.cs ha;rw[hy]at hy';cases hy';have hil:i<st.circ.length:=(List.getElem?_eq_some_iff.mp hy).1
   have aF:HF a=some (.dK (qM y.2)):=by
    rw[hF a (fun z=>?_)]
    ·exact s3 _ _ hA
    ·have:=S.nd
     simp only[HA.fp,I0,IE,not_or]at this;exact this.2.2.1.2 (by rw[<-z];exact IV ha)
   refine⟨T,_,rfl,c6.of af,rfl,_,_,rfl,_,_,rfl,rfl,?_⟩;have sT:=ai (o:=.tup [kV (Sum.inl y.1),V.ref a]) hT;refine DJ ⟨_,rfl,_,rfl,a,_,rfl,sT _ _ (t1 _ _ aF),fun l hl=>⟨_,Sum.inl y.1,by rw[ag (ak (sT _ _ hd) hl)];exact sT _ _ hd,rfl,by rw[jZ csl,Jn];exact aW (by omega),?_⟩⟩;have lF:HF l=none:=t1.free (sT.free hl);have llc:l≠lc:=(ak (sT _ _ hd) hl).symm
   have lcs:l∉cs:=fun z=>by
    obtain⟨j,hj⟩:=List.getElem?_of_mem z;obtain⟨z',_,e⟩:=paired_get pc hj;have:=sT _ _ e;rw[hl]at this;cases this
   refine⟨_,_,cs++[l],rfl,cF (t1.trans (sT.trans (ai hl))) hlc,?_,?_,fun b hb=>?_,mD ndcs lcs⟩
   ·rw[af,wD _ (vB (fun z=>?_)),IZ,hy,Jd,lb _ _ _ csl]
    have hn:(st.circ.map (·.1))[i]? = some y.1:=by rw[List.getElem?_map,hy];rfl
    rw[Kg]at z;obtain⟨j,hj⟩:=List.getElem?_of_mem z;have hj2:=(List.getElem?_eq_some_iff.mp hj).1;rw[Jn]at hj2;rw[List.getElem?_take_of_lt (by omega)]at hj;have:=(List.getElem?_inj (by rw[Ir];omega) ndc).mp (hj.trans hn.symm);omega
   ·rw[IZ,hy,Jd]
    refine bC (Wz.Paired.mapP' pc fun b z hb e=>?_) (.cons (by rw[ag llc,af]) .nil);rw[ag (fr2 b hb).2];exact (ai hl) _ _ (sT _ _ e)
   ·rcases IP.mp hb with z | z
    ·exact fr2 b z
    ·rw[IB.mp z];exact⟨lF,llc⟩
  rintro σ HK ⟨v1,v2,cs,rfl,t1,hd,pc,fr2,ndcs⟩;rw[kl,Ji]at hd pc
  have xF:HF x=some (.ins c.C B.dx (aH { B with w:=lw,h:=lh })):=by rw[hF x (cne x nx)];exact x3
  refine⟨_,rfl,x,c.C,B.dx,_,rfl,t1 _ _ xF,U.cl,U.nC,uB _,?_⟩;rw[E9]
  have nfz:∀ o' u',H A0.c≠some (.frz o' u'):=fun o' u' z=>by rw[S.c]at z;cases z
  refine⟨A0.c,oo,.dK (bS A0.cs st.circ),by rw[ag (cne x nx).symm];exact t1 _ _ hFz,nfz,?_⟩
  have lcx:lc≠x:=fun z=>by rw[z,x3]at flc3;cases flc3
  have csx:∀ b∈cs,b≠x/\b≠A0.c/\H b=none:=fun b hb=>by
   have e:=(fr2 b hb).1
   have n1:b≠A0.c:=fun z=>by rw[z,hFz]at e;cases e
   refine⟨(fun z=>by rw[z,xF]at e;cases e),n1,?_⟩;rw[hF b n1]at e;exact s3.free e
  generalize hH4:upd (upd HK x (.ins c.C B.dx (aH { B with w:=lw,h:=lh,c:=lc }))) A0.c (.dK (bS A0.cs st.circ))=H4
  have g4:∀ b,b≠x->b≠A0.c->H4 b=HK b:=fun b n1 n2=>by rw[<-hH4,ag n2,ag n1]
  have x4:H4 x=some (.ins c.C B.dx (aH { B with w:=lw,h:=lh,c:=lc })):=by rw[<-hH4,ag (cne x nx),af]
  have s4:aA H H4:=fun b o e=>by
   by_cases hb:b=A0.c
   ·rw[hb,S.c]at e
    rw[hb,<-hH4,af];exact e
   ·rw[g4 b (px b o e) hb]
    exact t1 _ _ (by rw[hF b hb];exact s3 _ _ e)
  have up4:∀ b o,H3 b=some o->b≠x->b≠A0.c->H4 b=some o:=fun b o e n1 n2=>by rw[g4 b n1 n2];exact t1 _ _ (by rw[hF b n2];exact e)
  have w4:=up4 _ _ w3 (IN xw) (cne _ fw);have h4:=up4 _ _ h3 (IN xh) (cne _ fh)
  have c4:H4 lc=some (.dK (bS cs st.circ)):=by rw[g4 lc lcx lcc];exact hd
  have pc4:Paired (fun a (y:Int×List Int)=>H4 a=some (.dK (qM y.2))) cs st.circ:=Wz.Paired.mapP' pc fun b z hb e=>by
   rw[g4 b (csx b hb).1 (csx b hb).2.1];exact e
  have flc4:lw≠lc:=fun z=>by rw[z,flc3]at w3;cases w3
  have flh4:lh≠lc:=fun z=>by rw[z,flc3]at h3;cases h3
  have wcs:lw∉cs:=fun z=>by
   have e:=(fr2 lw z).1;rw[hF lw (cne _ fw),w3]at e;cases e
  have hcs:lh∉cs:=fun z=>by
   have e:=(fr2 lh z).1;rw[hF lh (cne _ fh),h3]at e;cases e
  clear hH4 up4 g4;obtain⟨qs,hq,hqp⟩:=S.d;refine⟨_,rfl,p,c.C,A0.dx,_,_,rfl,s4 _ _ S.ob,U.cl,U.nD,zS A0,A0.d,_,rfl,.inl (bF.of (s4 _ _ hq)),fun ld hld=>?_⟩;have xd:x≠ld:=ak x4 hld;refine⟨_,rfl,x,c.C,B.dx,_,rfl,by rw[ag xd];exact x4,U.cl,U.nD,uB _,?_⟩;rw[Fa];have fd5:H ld=none:=s4.free hld
  have up:∀ b o,H4 b=some o->b≠x->upd (upd H4 ld (.lst (qs.map V.ref))) x (.ins c.C B.dx (aH { B with w:=lw,h:=lh,c:=lc,d:=ld })) b=some o:=fun b o e n=>by rw[ag n];exact (ai hld) _ _ e
  refine⟨_,rfl,k x ⟨B.dx,lw,lh,lc,ld,cs⟩ _ nx ⟨?_,?_,up _ _ w4 (IN xw),up _ _ h4 (IN xh),up _ _ c4 lcx,?_,qs,?_,?_⟩ (fun b hb=>?_) ?_⟩
  ·rw[af,<-F1 _ cs]
  ·have d1:lw≠ld:=ak w4 hld
   have d2:lh≠ld:=ak h4 hld;have d3:lc≠ld:=ak c4 hld
   have d4:ld∉cs:=fun z=>by
    obtain⟨j,hj⟩:=List.getElem?_of_mem z;obtain⟨z',_,e⟩:=paired_get pc4 hj;rw[hld]at e;cases e
   have d5:lc∉cs:=fun z=>(fr2 lc z).2 rfl;simp[HA.fp,wh,flc4,flh4,wcs,hcs,d1,d2,d3,d4,d5,ndcs]
  ·exact Wz.Paired.mapP' pc4 fun b z hb e=>up _ _ e (csx b hb).1
  ·rw[ag (IN xd),af]
  ·exact Paired.mapP hqp fun a z e=>up _ _ (s4 _ _ e) (px _ _ e)
  ·simp[HA.fp]at hb
   rcases hb with rfl | rfl | rfl | rfl | z
   ·exact fw
   ·exact fh
   ·exact flc
   ·exact fd5
   ·exact (csx b z).2.2
  ·exact cF (s4.trans (ai hld)) nx
theorem rc (F:d6 K "do_deed" "do_deed" lI f fd)(cO:ar P w K mg base (fb P w) c.C "come" 2 ["self","guest"] (oK c))(dX:ar P w K mg base (fb P w) c.C "go" 4 ["self","guest"] (Az c))(aE:ar P w K mg base (fb P w) c.C "exchange" 4 ["self","one","other"] (ja c)) : bd P w K mg base (fb P w) 5 f fd ["hall","deed"] (wQ c):=by
 refine F.okX yi (fun vs H Q E h=>?_) (fun cdv A outer s H vs Q E hr h=>?_)
 ·obtain⟨p,t,B,st,d,rfl,_⟩:=h
  rfl
 ·obtain⟨p,t,B,st,d,rfl,ht0,S,ft,hg,sm,k⟩:=h
  have ht:H t=some (.tup (bz d)):=by rw[<-iW];exact ht0
  have T0:c6 K H t (bz d):=c6.of ht;refine⟨_,aj (br (aw cQ (aX aQ (pv 1) (am) (fun _ _=>rfl)) (aO) (aI _)) (aj (a6 (c8 cO (pv 0) U.cl hr.m c5 (gK (aX aQ (pv 1) (am) (fun _ _=>rfl)))))) (aj (br (aw cQ (aX aQ (pv 1) (am) (fun _ _=>rfl)) (aO) (aI _)) (aj (a6 (c8 dX (pv 0) U.cl hr.m c5 (gK (aX aQ (pv 1) (am) (fun _ _=>rfl)))))) (aj (a6 (c8 aE (pv 0) U.cl hr.m c5 (dP (aX aQ (pv 1) (am) (fun _ _=>rfl)) (aX aQ (pv 1) (am) (fun _ _=>rfl))))))))),?_⟩;have n1:=kL B (m:="come") (by decide +kernel) (by decide +kernel) (by decide +kernel) (by decide +kernel);have n2:=kL B (m:="go") (by decide +kernel) (by decide +kernel) (by decide +kernel) (by decide +kernel);have n3:=kL B (m:="exchange") (by decide +kernel) (by decide +kernel) (by decide +kernel) (by decide +kernel)
  cases d with
  | come g =>
   refine⟨_,rfl,t,_,_,_,rfl,rfl,T0,rfl,rfl,_,rfl,?_⟩;rw[show decide (V.str (dI (.come g))=V.str "come")=true from cc];exact bI ⟨_,rfl,p,B.dx,_,rfl,S.ob,n1,_,rfl,t,_,_,_,rfl,rfl,T0,rfl,p,B,st,g,rfl,S,ft,sm g (by simp[names]),k⟩
  | go g =>
   refine⟨_,rfl,t,_,_,_,rfl,rfl,T0,rfl,rfl,_,rfl,?_⟩;rw[show decide (V.str (dI (.go g))=V.str "come")=false from gc];refine aR ⟨_,rfl,t,_,_,_,rfl,rfl,T0,rfl,rfl,_,rfl,?_⟩;rw[show decide (V.str (dI (.go g))=V.str "go")=true from gg];exact bI ⟨_,rfl,p,B.dx,_,rfl,S.ob,n2,_,rfl,t,_,_,_,rfl,rfl,T0,rfl,p,B,st,g,rfl,S,ft,sm g (by simp[names]),(fun m hm=>⟨hg.sm g m hm,fun e=>by rw[e]at hm;rw[(hg.wh g g).mp hm];rfl⟩),k⟩
  | exch a b =>
   refine⟨_,rfl,t,_,_,_,rfl,rfl,T0,rfl,rfl,_,rfl,?_⟩;rw[show decide (V.str (dI (.exch a b))=V.str "come")=false from ec];refine aR ⟨_,rfl,t,_,_,_,rfl,rfl,T0,rfl,rfl,_,rfl,?_⟩;rw[show decide (V.str (dI (.exch a b))=V.str "go")=false from eg];exact aR ⟨_,rfl,p,B.dx,_,rfl,S.ob,n3,_,rfl,t,_,_,_,rfl,rfl,T0,rfl,_,rfl,t,_,_,_,rfl,rfl,T0,rfl,p,B,st,a,b,rfl,S,ft,sm a (by simp[names]),sm b (by simp[names]),k⟩
theorem sG (F:d6 K "walk_since" "walk_since" ip f fd)(bY:ar P w K mg base c7 c.C "inside" 1 ["self","guest"] (iI c.C))(NG:iu P w K mg base c)(MH:FH P w K mg base c)(cV:ar P w K mg base c7 c.C "story" 1 ["self"] (kh c.C))(Cdo_deed:de P w K mg base "do_deed" 5 ["hall","deed"] (wQ c)){lk:bO->List (Int×Int)}{fl c1:Addr}{fdl:FuncData}{ol:Obj}{ql:Str}{vy:V}(hlk:∀ st g,d8 st->(look st.worn g).isSome=true->(look (lk st) g).isSome=true)(LA0:∀ g,vy=.int g->bd P w K mg base c7 4 fl fdl ["then"] (Cd c c1 ql lk g))(lob:base.get? fl=some ol)(lod:ol.data=.func fdl)(lbi:∀ (s:Shared)(us:List Value),us.length=(["then"]:List Str).length->BindsTo s fdl ⟨us,[]⟩ ((["then"]:List Str).zip us)):bd P w K mg base (fb P w) 7 f fd ["hall","guest","ask"] (vd c lk ql fl c1 vy):=by
 refine F.okX c9 (fun vs H Q E h=>?_) (fun cdv A outer s H vs Q E hr h=>?_)
 ·obtain⟨p,B,es,L,g,_,rfl,_⟩:=h
  rfl
 ·obtain⟨p,B,es,L,g,hvy,rfl,⟨S,hdn,hdl,hL,hnm,sg⟩,hcf,k⟩:=h
  have LA:=LA0 g hvy;have hu:=dJ hr;have nil0:(0:Nat)<=sizeLine:=IX _
  have two:(2:Nat)<=sizeLine:=by decide
  refine⟨_,ah (br (yb (oG (c8 bY (pv 0) U.cl hr.m dQ (gK (pv 1))))) (aj (ro NG U (hr.mono (by decide)) fY rfl hr.hd rfl (pv 1))) (aM)) (
   ah (bA 3 c9.nd (Bz MH U hr.m rfl)) (
   ah (bA 4 c9.nd (eG aN)) (
   ah (dL PassesOwn.leaving rfl (BO (by rfl) T.enumerate (gK (lE cV (pv 0) U.cl hr.m dQ))) (gf rfl (bf (j7 5 c9.nd) (bf (j7 6 c9.nd) dR))) (ah (a6 (uW Cdo_deed hr.m rfl c5 (dP (pv 3) (pv 6)))) (
   ah (br (aw (lz 1 (xE hr (by decide))) (pv 6) (aS (dP (aO) (pv 1))) (aI _)) (aj (bA 4 c9.nd (eG aN))) (aM)) (
   aj (br (PW.pt (gj (oG (c8 bY (pv 3) U.cl hr.m dQ (gK (pv 1)))) (fK (PW.pt (jM (aw (lz 1 (xE hr (by decide))) (pv 4) (eG aN) (aI _)) (jN (aw pf (aX aQ (aX mj (pv 4) (y4 vg (am)) (fun _ _=>rfl)) (am) (fun _ _=>rfl)) (wy (i:=2) LA hr.m rfl (Or.inl rfl) lob lod lbi dQ (gK (pv 3))) (aI _)))))))) (aj (a6 (jK Jj Jf Jg cK (pv 4) (gK (aS (dP (pv 5) (wy (i:=2) LA hr.m rfl (Or.inl rfl) lob lod lbi dQ (gK (pv 3))))))))) (aM)))))) (
   aj (ax (pv 4)))))),?_⟩
  have nS:(aH B).lookup ("story" : Str)=none:=l7 B (by decide +kernel);have nI:∀ B:HA,(aH B).lookup ("inside" : Str)=none:=fun B=>l7 B (by decide +kernel);refine⟨_,rfl,p,B.dx,_,rfl,S.ob,nI B,_,rfl,p,B,_,g,rfl,S,_,rfl,?_⟩
  cases hin:(look (aJ es).worn g).isSome with
  | false =>
   rw[hin,Ip Iw]at k;exact bI ⟨_,rfl,g,rfl,sg,fun dx hdx=>k dx _ (ai hdx) af⟩
  | true =>
  rw[hin,Iq rfl]at k;refine aR ?_;intro x dx nx ndx nex;refine⟨x,dx,rfl,af,fun B1 H1 S1 kp fr=>⟨rfl,?_⟩⟩
  have s0:aA H (upd (upd H dx (.own x)) x (.ins c.C dx [])):=fun b o e=>by rw[ag (ak e nx),ag (ak e ndx)];exact e
  have E1:Ev c H H1 x B1 ⟨[],[],[],[]⟩:=⟨fun b o e=>kp b o (s0 b o e) (ak e nx),S1,fZ,fun b hb=>s0.free (fr b hb)⟩;refine⟨nil0,fun lw0 hlw0=>?_⟩;have s1:=ai (o:=.lst []) hlw0;have hlw1:upd H1 lw0 (.lst []) lw0=some (.lst []):=af;have E2:=E1.on s1;have lwB:=E1.track hlw0;have lwH:H lw0=none:=E1.same.free hlw0;generalize upd H1 lw0 (.lst [])=H2 at s1 hlw1 E2 ⊢;have S2:=S.mono E2.same;refine⟨_,rfl,p,B.dx,_,rfl,S2.ob,nS,p,B,_,rfl,S2,fun l2 H3 hl2 s2 dl=>?_⟩;rw[gu]at dl;obtain⟨qs,hq,hqp⟩:=id dl;have E3:=E2.on s2;have l2B:l2∉B1.fp:=E2.track hl2
  have l2w:l2≠lw0:=fun z=>by rw[z,hlw1]at hl2;cases hl2
  have hql:=Ix hqp;refine⟨l2,rfl,⟨_,bF.of hq⟩,?_⟩
  refine zQ (K:=K) (a:=l2) (xs:=qs.map V.ref) (fun i σ HH=>∃ (B2:HA)(lw:Addr)(W:List (Int×Int))(v5 v6:Option V),σ=[some (.ref p),some (.int g),some (.ref fl),some (.ref x),some (.ref lw),v5,v6]/\Ev c H HH x B2 (aJ (es.take i))/\Of L (aJ (es.take i))/\Sz i (aJ (es.take i))/\lw∉B2.fp/\H lw=none/\l2≠lw/\aT HH lw W/\W.length<=i/\jY lk g 0 ⟨[],[],[],[]⟩ es []=jY lk g i (aJ (es.take i)) (es.drop i) W/\HH l2=some (.lst (qs.map V.ref))/\l2∉B2.fp/\Paired (fun a x=>HH a=some (cI x)) qs es)
   ⟨B1,lw0,[],none,none,rfl,E3,of_empty,Gp,lwB,lwH,l2w,⟨[],s2 _ _ hlw1,.nil⟩,Iv _,rfl,hq,l2B,hqp⟩ (fun i σ HH _ ⟨_,_,_,_,_,_,_,_,_,_,_,_,_,_,_,h,_⟩=>bF.of h) ?_ ?_
  ·rintro i y σ HH T hi ⟨B2,lw,W,v5,v6,rfl,E,o,z,lwB,lwH,l2w,row,wl,ew,hq,l2B,hqp⟩ hTn
   obtain⟨t,ht,rfl⟩:=bT hi;have hil:=(List.getElem?_eq_some_iff.mp ht).1;have sT:=ai (o:=.tup [.int ((i:Int)+1),.ref t]) hTn;have hTT:upd HH T (.tup [.int ((i:Int)+1),.ref t]) T=some (.tup [.int ((i:Int)+1),.ref t]):=af;have E:=E.on sT;have row:=row.mono sT;have hq:=sT _ _ hq;have hqp:Paired (fun a x=>upd HH T (.tup [.int ((i:Int)+1),.ref t]) a=some (cI x)) qs es:=Paired.mapP hqp fun b y e=>sT _ _ e;generalize upd HH T (.tup [.int ((i:Int)+1),.ref t])=HH at hTT E row hq hqp ⊢;obtain⟨d,hd,hT⟩:=paired_get hqp ht;have hj:=hdn i d hd;have ft:=l6 E.good o hL z (by omega);have nm:=hnm d (IV hd);refine⟨T,_,rfl,c6.of hTT,rfl,_,_,rfl,_,_,rfl,rfl,?_⟩;refine⟨_,rfl,_,rfl,x,t,B2,_,d,rfl,hT,E.hall,ft,E.good,fun g hg=>(nm g hg).2,?_⟩;unfold nF;rw[Iq hj];intro H4 mv
   have en:a7 (aJ (es.take i)) d=aJ (es.take (i+1)):=by unfold a7;rw[Iq hj,IZ,hd,Jd,kj]
   have g2:=fR E.good (d:=d) (fun g hg=>(nm g hg).2);have o2:=mF E.good o (fun g hg=>(nm g hg).1);have z2:=nz z d
   have mv2:eV c.C HH x B2 (a7 (aJ (es.take i)) d) H4:=by unfold a7;rw[Iq hj];exact mv
   obtain⟨B',E2,kp2,_⟩:=E.moved mv2 g2;have ew2:=yt (lk:=lk) (g:=g) (st:=aJ (es.take i)) (W:=W) hd;rw[<-ew,en]at ew2;rw[en]at E2 o2 z2;have tp:∀ b xs,HH b=some (.tup xs)->H4 b=some (.tup xs):=fun b xs e=>(kp2 b _ e (E.hall.tup e)).1;obtain⟨as,hlw,hpw⟩:=row;have wl2:=Ix hpw;obtain⟨hlw4,lwB4⟩:=kp2 lw _ hlw lwB;obtain⟨hq4,l2B4⟩:=kp2 l2 _ hq l2B
   have hqp4:Paired (fun a x=>H4 a=some (cI x)) qs es:=Paired.mapP hqp fun b y e=>by
    obtain⟨xs,ex⟩:=cz y;rw[ex]at e ⊢;exact tp _ _ e
   have row4:aT H4 lw W:=⟨as,hlw4,Paired.mapP hpw fun b e q=>tp _ _ q⟩
   have hT4:H4 t=some (.tup (bz d)):=by rw[<-iW];obtain⟨d',hd',q⟩:=paired_get hqp4 ht;rw[hd]at hd';cases hd';exact q
   clear mv mv2 kp2 tp hlw hpw hqp hq E hTT hT;refine⟨_,rfl,_,rfl,two,fun t9 ht9=>?_⟩;have s5:=ai (o:=.tup [.str "come",.int g]) ht9;have ht95:upd H4 t9 (.tup [.str "come",.int g]) t9=some (.tup [.str "come",.int g]):=af;have E5:=E2.on s5;generalize upd H4 t9 (.tup [.str "come",.int g])=H5 at s5 ht95 E5 ⊢
   have fl9:∀ z∈[V.str "come",V.int g],iz z=true:=fun z hz=>by
    rcases IE.mp hz with e | e
    ·rw[e];rfl
    ·rw[IB.mp e];rfl
   refine⟨t,t9,_,_,rfl,rfl,eJ (s5 _ _ hT4) (fQ d),eJ ht95 fl9,fun b hb=>⟨_,rfl,?_⟩⟩
   have hb2:b=decide (d=.come g):=by
    have e1:b=true↔d=.come g:=by
     rw[hb,rV];exact⟨fun z=>tz (e:=.come g) z,fun z=>by rw[z];rfl⟩
    cases b with
    | true=>exact (IG (e1.mp rfl)).symm
    | false=>exact (IM fun z=>by have:=e1.mpr z;cases this).symm
   rw[show (if false=true then !b else b)=decide (d=.come g) from hb2]
   obtain⟨W1,eW1⟩:∃ W1,W1=if d=.come g then [] else W:=⟨_,rfl⟩
   apply Fi (fun q HH=>aA H5 HH/\q∉B'.fp/\H q=none/\l2≠q/\aT HH q W1)
   ·intro rest
    by_cases hc:d=.come g
    ·rw[IG hc]
     refine bI ⟨nil0,fun lw9 hlw9=>?_⟩;have s6:=ai (o:=.lst []) hlw9
     have r6:aT (upd H5 lw9 (.lst [])) lw9 W1:=by rw[eW1,Iq hc];exact⟨[],af,.nil⟩
     have n6:l2≠lw9:=fun z=>by rw[<-z,s5 _ _ hq4]at hlw9;cases hlw9
     generalize upd H5 lw9 (.lst [])=H6 at s6 r6 ⊢;exact rest lw9 H6 ⟨s6,E5.track hlw9,E5.same.free hlw9,n6,r6⟩
    ·rw[IM hc]
     exact aR (rest lw H5 ⟨aA.refl _,lwB4,lwH,l2w,by rw[eW1,Ip hc];exact row4.mono s5⟩)
   clear row4 hlw4 lwB4 lwH l2w;rintro lw H6 ⟨s6,lwB,lwH,l2w,row⟩;have E6:=E5.on s6
   have hl1:W1.length<=W.length:=by rw[eW1];split<;>simp
   have hcf6:∀ {HH:Hp},aA H6 HH->kB HH c1 ql:=fun sm=>by
    obtain⟨oc,vs,tt,e,r⟩:=hcf;exact⟨oc,vs,tt,sm _ _ (E6.same _ _ e),r⟩
   obtain⟨as,hlw,hpw⟩:=row;have wl2:=Ix hpw
   have fin:∀ {HH:Hp}{W2:List (Int×Int)},aA H6 HH\/(∀ b o,H6 b=some o->b≠lw->HH b=some o)->aT HH lw W2->Ev c H HH x B' (aJ (es.take (i+1)))->W2.length<=i+1->jX lk g i d (aJ (es.take (i+1))) W=W2 ->
     ∃ (B2:HA)(lw':Addr)(W:List (Int×Int))(v5 v6:Option V),([some (.ref p),some (.int g),some (.ref fl),some (.ref x),some (.ref lw),some (.int ((i:Int)+1)),some (.ref t)]:St)=[some (.ref p),some (.int g),some (.ref fl),some (.ref x),some (.ref lw'),v5,v6]/\Ev c H HH x B2 (aJ (es.take (i+1)))/\Of L (aJ (es.take (i+1)))/\Sz (i+1) (aJ (es.take (i+1)))/\lw'∉B2.fp/\H lw'=none/\l2≠lw'/\aT HH lw' W/\W.length<=i+1/\jY lk g 0 ⟨[],[],[],[]⟩ es []=jY lk g (i+1) (aJ (es.take (i+1))) (es.drop (i+1)) W/\HH l2=some (.lst (qs.map V.ref))/\l2∉B2.fp/\Paired (fun a x=>HH a=some (cI x)) qs es:=fun {HH W2} hk r2 E' hl ews=>by
    have hk:∀ b o,H6 b=some o->b≠lw->HH b=some o:=fun b o e n=>hk.elim (fun z=>z b o e) (fun z=>z b o e n);have k46:=s5.trans s6;refine⟨B',lw,W2,_,_,rfl,E',o2,z2,lwB,lwH,l2w,r2,hl,by rw[ew2,ews],hk _ _ (k46 _ _ hq4) l2w,l2B4,Paired.mapP hqp4 fun b y e=>?_⟩;obtain⟨xs,ex⟩:=cz y;rw[ex]at e ⊢;exact hk _ _ (k46 _ _ e) (cJ (k46 _ _ e) hlw (by intro z;cases z))
   have ws:jX lk g i d (aJ (es.take (i+1))) W=if (look (aJ (es.take (i+1))).worn g).isSome=true/\(W1=[]\/(W1.getLast?.map (·.2))≠look (lk (aJ (es.take (i+1)))) g) then W1++[((i:Int)+1,(look (lk (aJ (es.take (i+1)))) g).getD 0)] else W1:=by rw[eW1];rfl
   refine⟨_,rfl,x,B'.dx,_,rfl,E6.hall.ob,nI B',_,rfl,x,B',_,g,rfl,E6.hall,_,rfl,?_⟩
   cases hin2:(look (aJ (es.take (i+1))).worn g).isSome with
   | false =>
    rw[hin2,Ip (fun z=>by cases z.1)]at ws;exact aR (aR (fin (.inl (aA.refl _)) ⟨as,hlw,hpw⟩ E6 (by omega) ws))
   | true =>
   obtain⟨m,hm⟩:=Jm.mp (hlk _ g E6.good hin2);rw[hin2,hm]at ws
   have app:∀ {HH:Hp}(t1:Addr),aA H6 HH->HH t1=none->(W1=[]\/(W1.getLast?.map (·.2))≠some m)->_:=fun {HH} t1 sm ht1 hcnd=>by
    have hlw7:=sm _ _ hlw;have r7:=mY (a:=(i:Int)+1) (b:=m) hlw7 (Paired.mapP hpw fun b e q=>sm _ _ q) ht1;rw[Iq ⟨rfl,hcnd⟩]at ws
    have E7:Ev c H (upd (upd HH t1 (.tup [.int ((i:Int)+1),.int m])) lw (.lst (as.map V.ref++[V.ref t1]))) x B' (aJ (es.take (i+1))):=by
     have E7:=(E6.on sm).on (ai (o:=.tup [.int ((i:Int)+1),.int m]) ht1);have q7:=(ai (o:=.tup [.int ((i:Int)+1),.int m]) ht1) _ _ hlw7;refine E7.write (ws:=[lw]) (fun b o e n=>?_) (fun y hy=>?_) (fun n=>?_) (fun y hy=>?_) (fun b xs e n=>?_)
     ·rw[ag (fun z=>n (by rw[z];exact IB.mpr rfl))];exact e
     ·rw[IB.mp hy];exact lwB
     ·have ob:=E7.hall.ob
      rw[IB.mp n,q7]at ob;cases ob
     ·rw[IB.mp hy];exact lwH
     ·rw[IB.mp n,q7]at e;cases e
    exact fin (.inr fun b o e n=>by rw[ag n];exact (ai ht1) _ _ (sm _ _ e)) r7 E7 (by rw[ID,IY];omega) ws
   refine bI ⟨_,rfl,nil0,fun l9 hl9=>?_⟩;have s7:=ai (o:=.lst []) hl9;have r9:aT (upd H6 l9 (.lst [])) l9 []:=⟨[],af,.nil⟩;generalize upd H6 l9 (.lst [])=H7 at s7 r9 ⊢;have E7:=E6.on s7;have hlw7:=s7 _ _ hlw;refine⟨lw,l9,_,_,rfl,rfl,jO ⟨as,hlw7,Paired.mapP hpw fun b e q=>s7 _ _ q⟩,jO r9,fun b hb=>⟨_,rfl,?_⟩⟩
   by_cases hW:W1=[]
   ·rw[show (if false=true then !b else b)=true from hb.mpr (by rw[hW])]
    refine bI (bI ⟨_,rfl,.inl ⟨rfl,_,bF.of hlw7⟩,_,rfl,rfl,_,rfl,x,B',_,m,rfl,E7.hall,sg,hcf6 s7,hm,two,fun t1 ht1=>⟨lw,_,_,rfl,rfl,(ai ht1) _ _ hlw7,by rw[Ir];exact aW (by omega),?_⟩⟩);exact app t1 s7 ht1 (.inl hW)
   ·have hbf:b=false:=by
     cases b with
     | true=>exact absurd (B6.mp (hb.mp rfl)) hW
     | false=>rfl
    rw[hbf];have hlen1:0<W1.length:=List.length_pos_iff.mpr hW;obtain⟨la,hla⟩:∃ la,W1[W1.length-1]? = some la:=⟨_,List.getElem?_eq_getElem (by omega)⟩;obtain⟨al,hal⟩:∃ al,as[as.length-1]? = some al:=⟨_,List.getElem?_eq_getElem (by omega)⟩
    have hgl:W1.getLast? = some la:=by rw[List.getLast?_eq_getElem?];exact hla
    obtain⟨la',hla',hA⟩:=paired_get hpw hal;rw[wl2,hla]at hla';cases hla'
    have at1:rZ (as.map V.ref) (-1)=some (V.ref al):=by
     obtain⟨a0,b0,e⟩:∃ a0 b0,as=a0++[b0]:=by
      rcases List.eq_nil_or_concat as with z | ⟨a0,b0,z⟩
      ·rw[z]at wl2;simp at wl2;omega
      ·exact⟨a0,b0,by rw[z,List.concat_eq_append]⟩
     have eb:b0=al:=by
      rw[e,ID,IY,Nat.add_sub_cancel,List.getElem?_append_right (Iv _),KR]at hal;exact Iy hal
     rw[e,Ja,eb];exact vw _ _
    refine aR ⟨_,rfl,_,rfl,lw,_,_,_,rfl,rfl,bF.of hlw7,at1,al,_,_,_,rfl,rfl,c6.of (s7 _ _ hA),(df (j:=1) rfl:rZ [V.int la.1,V.int la.2] 1=_),rfl,_,rfl,x,B',_,m,rfl,E7.hall,sg,hcf6 s7,hm,rfl,_,rfl,?_⟩;rw[hgl]at ws app
    by_cases hne:la.2=m
    ·rw[Ip (fun z=>by rcases z.2 with y | y;exact hW y;exact y (Jk some hne))]at ws
     rw[IG (Jk V.int hne)];exact aR (fin (.inl s7) ⟨as,hlw7,Paired.mapP hpw fun b e q=>s7 _ _ q⟩ E7 (by omega) ws)
    ·rw[IM (fun z=>hne (V.int.inj z))]
     refine bI ⟨_,rfl,.inl ⟨rfl,_,bF.of hlw7⟩,_,rfl,rfl,_,rfl,x,B',_,m,rfl,E7.hall,sg,hcf6 s7,hm,two,fun t1 ht1=>⟨lw,_,_,rfl,rfl,(ai ht1) _ _ hlw7,by rw[Ir];exact aW (by omega),?_⟩⟩;exact app t1 s7 ht1 (.inr fun z=>hne (Iy z))
  ·rintro σ HH ⟨B2,lw,W,v5,v6,rfl,E,o,z,lwB,lwH,l2w,row,wl,ew,hq,l2B,hqp⟩
   rw[Ir,hql,List.drop_length]at ew;rw[ew]at k;exact⟨_,rfl,k lw HH lwH E.same row⟩
theorem oE {fl c1 cy:Addr}{pm ct:Value}{g:Int}(cG:ar P w K mg base (fb P w) c.C "wearer" 3 ["self","mask"] (iJ c))(Lm:sX base bw (Dd (eY aV)) (De (eY aV)) (Df (eY aV)) "mask" (.int g) fl c1 cy pm ct) :
  bd P w K mg base c7 4 fl (PySem.W.kla_fn "<lambda>" bw (Dd (eY aV)) (De (eY aV)) (Df (eY aV)) [("mask",cy)] pm (.ref c1) ct) ["then"] (Cd c c1 bw (·.hold) g):=by
 refine EK (ps:=["then"]) (y:="mask") ⟨rfl,rfl,rfl,by decide +kernel,by decide +kernel,by decide +kernel,fun x hx=>?_,rfl⟩ Lm (fun vs H Q E h=>?_) (fun vs H Q E h=>?_) (fun A outer s H vs Q E hr h=>?_)
 ·have hm:=JM hx
  have hm:(x,NameKind.free)∈[(("then" : Str),NameKind.local),(("mask" : Str),NameKind.free)]:=hm;rcases IE.mp hm with z | z
  ·cases z
  ·exact (Prod.mk.inj (IB.mp z)).1
 ·obtain⟨p,A,st,m,rfl,_⟩:=h
  rfl
 ·obtain⟨p,A,st,m,rfl,_,_,hc,_⟩:=h
  exact hc
 ·obtain⟨p,A,st,m,rfl,S,sg,_,hm,k⟩:=h
  refine⟨_,c8 cG (pv 0) U.cl hr.m wx (gK (pv 1)),?_⟩;have nX:(aH A).lookup ("wearer" : Str)=none:=l7 A (by decide +kernel);refine⟨_,rfl,p,A.dx,_,rfl,S.ob,nX,_,rfl,p,A,st,g,rfl,S,sg,?_⟩;have hm:look st.hold g=some m:=hm;rw[hm];exact k
theorem uV (F:d6 K "mask_walk" "mask_walk" aV f fd){c0 fw:Addr}{fdw:FuncData}(hco:fd.code=.ref c0)(CK:lN K c0 P0)(BK:tZ mg base)(hmw:mg "walk_since" = some (.ref fw))(hkw:PySem.W.keepIn K (.ref fw)=true)(hbw:eU K fdw ["hall","guest","ask"] [])(WS:∀ (b:Heap)(fl c1 cy:Addr)(vy:V)(pm ct:Value),Mod K mg b->sX b bw (Dd (eY aV)) (De (eY aV)) (Df (eY aV)) "mask" vy fl c1 cy pm ct->bd P w K mg b (fb P w) 7 fw fdw ["hall","guest","ask"] (vd c (·.hold) bw fl c1 vy)):bd P w K mg base (fb P w) 8 f fd ["hall","mask"] (qe c (·.hold) P0 dG bw):=by
 refine F.okXC u6 hco (fun vs H Q E h=>?_) (fun A outer s H vs Q E hr h=>?_)
 ·obtain⟨p,B,es,L,g,rfl,_⟩:=h
  rfl
 ·obtain⟨p,B,es,L,g,rfl,⟨S,w1,w2,w3,w4,w5⟩,hT,k⟩:=h
  refine⟨_,aj (ax (x6 (iy:=1) (y:="mask") WS hr.m rfl hmw hkw hbw c5 (pv 0) (pv 1) rfl CK BK rfl rfl rfl rfl rfl rfl rfl)),?_⟩;refine⟨_,rfl,_,rfl,hT,_,rfl,fun fl c1 H3 hcf hT3 bt=>?_⟩;refine⟨p,B,es,L,g,rfl,rfl,⟨kX.hall S hT bt,w1,w2,w3,w4,w5⟩,hcf,?_⟩
  cases hin:(look (aJ es).worn g).isSome with
  | true =>
   rw[hin,Iq rfl]at k;rw[Iq rfl];exact fun l H' hl s' row=>k l H' (kX.none bt hT3 hl) (kX.same bt s') (hT3.same s') row
  | false =>
   rw[hin,Ip Iw]at k;rw[Ip Iw];exact fun dx H' s' hx=>k dx H' (kX.same bt s') (hT3.same s') hx
theorem ri (F:d6 K "_law_cell_at" "_law_cell_at" gG f fd) : bd P w K mg base c7 1 f fd ["_law_script","_law_k"] (rM K):=by
 refine F.ok rJ (fun vs H Q E h=>?_) (fun cdv A outer s H vs Q E hr h=>?_)
 ·obtain⟨a,ns,k,rfl,_⟩:=h
  rfl
 ·obtain⟨a,ns,i,rfl,hS,hi,k⟩:=h
  refine⟨_,ah (br (aw wu (pv 1) (cL dy (by rfl) T.len KS (aq (pv 0) aN)) (aI _)) (aj (ax (aX mj (pv 0) (pv 1) (fun _ _=>rfl)))) aM) (aj (ax am)),?_⟩;refine⟨_,rfl,_,rfl,a,_,rfl,.inl hS,_,_,rfl,rfl,_,rfl,?_⟩;unfold cY at k;rw[Ir]
  by_cases hc:i<(ns.length:Int)
  ·rw[Iq hc]at k
   rw[IG hc];refine bI ⟨_,rfl,_,rfl,a,_,_,_,rfl,rfl,hS,?_,k⟩;have e:i=((i.toNat:Nat):Int):=(Int.toNat_of_nonneg hi).symm
   have hl:i.toNat<ns.length:=by omega
   rw[e];refine df ?_;rw[List.getElem?_map,List.getD_eq_getElem?_getD,Int.toNat_natCast,List.getElem?_eq_getElem hl];rfl
  ·rw[Ip hc]at k
   rw[IM hc];exact aR k
theorem wq (F:d6 K "_law_size" "_law_size" jT f fd) : bd P w K mg base c7 1 f fd ["_law_cell"] oM:=by
 refine F.ok wL (fun vs H Q E h=>?_) (fun cdv A outer s H vs Q E hr h=>?_)
 ·obtain⟨c,rfl,_⟩:=h
  rfl
 ·obtain⟨c,rfl,k⟩:=h
  refine⟨_,ah (br (aw wu (pv 0) am (aI _)) (aj (ax (y4 vg (pv 0)))) aM) (aj (ax (pv 0))),?_⟩;refine⟨_,rfl,_,_,rfl,rfl,_,rfl,?_⟩;unfold dw at k
  by_cases hc:c<0
  ·rw[Iq hc]at k
   rw[IG hc];exact bI ⟨_,rfl,_,rfl,k⟩
  ·rw[Ip hc]at k
   rw[IM hc];exact aR ⟨_,rfl,k⟩
theorem uS (F:d6 K "_law_draws" "_law_draws" ji f fd)(cR:aG P w K mg base "_law_size" 1 ["_law_cell"] oM) : bd P w K mg base c7 2 f fd ["_law_cell","_law_many","_law_base"] qd:=by
 refine F.ok bL (fun vs H Q E h=>?_) (fun cdv A outer s H vs Q E hr h=>?_)
 ·obtain⟨c,m,b,rfl,_⟩:=h
  rfl
 ·obtain⟨c,m,b,rfl,⟨m0,m1⟩,⟨b0,b1⟩,k⟩:=h
  refine⟨_,ah (dM (i:=3) bL.nd rfl (Or.inl rfl) (bJ cR hr rfl (aq (pv 0) aN)))
   (ah (dM (i:=4) bL.nd rfl (Or.inl rfl) (eG aN))
   (ah (br (aw Gg (pv 3) (aL Bx am am) (aI _))
    (ah (dM (i:=3) bL.nd rfl (Or.inl rfl) (aL ES (pv 3) (aL Bx am am)))
    (ah (dM (i:=5) bL.nd rfl (Or.inl rfl) (aL bN (pv 3) (aL eE (pv 1) am)))
    (ah (dM (i:=3) bL.nd rfl (Or.inl rfl) (aL dC (pv 3) (aL eE (pv 1) am)))
    (ah (dL Jw rfl (oF rfl T.range (aq (pv 5) aN)) (mL (i:=6) bL.nd rfl (Or.inl rfl))
     (ah (a6 (jK Jj Jf Jg cK (pv 4) (aq (aL bN (pv 3) (pv 2)) aN)))
     (aj (dM (i:=3) bL.nd rfl (Or.inl rfl) (aL dC (pv 3) (pv 2))))))
    (aj (ax (pv 4)))))))
    aM)
   (ah (dM (i:=7) bL.nd rfl (Or.inl rfl) (aL eE (aL bN (pv 3) am) am))
   (ah (dL Jw rfl (oF rfl T.range (aq (aL bN (pv 3) (aL eE (pv 1) am)) aN)) (mL (i:=6) bL.nd rfl (Or.inl rfl))
     (ah (dM (i:=7) bL.nd rfl (Or.inl rfl) (aL bN (aL rm (pv 7) am) am))
     (aj (a6 (jK Jj Jf Jg cK (pv 4) (aq (aL bN (aL dC (aL bN (aL rm (pv 7) am) am) am) (pv 2)) aN))))))
   (aj (ax (pv 4))))))),?_⟩
  refine⟨_,rfl,_,rfl,by show 0<=sizeLine;exact IX _,fun l hl=>?_⟩
  have big:(10:Int) ^ (18:Int).toNat=1000000000000000000:=by decide
  have room:∀ ds:List Int,(ds.length:Int)<=1000->(ds.map V.int).length<sizeLine:=fun ds h=>by rw[Ir];exact aW (by omega)
  have app:∀ (ds:List Int)(z:Int),upd (upd H l (.lst (ds.map V.int))) l (.lst (ds.map V.int++[V.int z]))=upd H l (.lst ((ds++[z]).map V.int)):=fun ds z=>by rw[zq,Ja];rfl
  have inb:∀ (ds:List Int)(z:Int),(∀ d∈ds,0<=d/\d<b)->∀ d∈ds++[z%b],0<=d/\d<b:=fun ds z h d hd=>by
   rcases IP.mp hd with hd | hd
   ·exact h d hd
   ·rw[IB.mp hd];exact⟨JB _ (by omega),Js _ b0⟩
  refine⟨_,rfl,_,_,rfl,rfl,⟨by decide,by decide,by decide⟩,_,_,rfl,rfl,_,rfl,?_⟩;refine uz (fun _=>?_) (fun _=>?_)
  ·refine⟨_,rfl,_,_,rfl,rfl,⟨by decide,by decide,by decide⟩,_,_,rfl,rfl,?_⟩
   refine⟨_,rfl,_,rfl,_,_,rfl,rfl,_,_,rfl,rfl,by show (0:Int)<m+1;omega,?_⟩;refine⟨_,rfl,_,rfl,_,_,rfl,rfl,_,_,rfl,rfl,⟨by show (0:Int)<m+1;omega,by show m+1<1073741824;omega⟩,?_⟩;have cb:=Js (dw c-(10:Int) ^ (18:Int).toNat) (show 0<m+1 by omega);have cn:=JB (dw c-(10:Int) ^ (18:Int).toNat) (show m+1≠0 by omega)
   refine⟨_,rfl,_,rfl,by omega,by omega,nZ (n:=((dw c-(10:Int) ^ (18:Int).toNat)%(m+1)).toNat) (fun i σ H2=>∃ (z:Int)(v:Option V)(ds:List Int),σ=[some (.int c),some (.int m),some (.int b),some (.int z),some (.ref l),some (.int ((dw c-(10:Int) ^ (18:Int).toNat)%(m+1))),v,none]/\H2=upd H l (.lst (ds.map V.int))/\ds.length=i/\∀ d∈ds,0<=d/\d<b)
    ⟨_,none,[],rfl,rfl,rfl,fun _ z=>nomatch z⟩ ?_ ?_⟩
   ·rintro i σ H2 hi ⟨z,v,ds,rfl,rfl,hlen,hds⟩
    refine⟨_,rfl,.inl ⟨rfl,_,bF.of af⟩,_,rfl,_,rfl,_,_,rfl,rfl,b0,l,_,_,rfl,rfl,af,room ds (by omega),?_⟩;refine⟨_,rfl,_,rfl,_,_,rfl,rfl,⟨b0,b1⟩,?_⟩;exact⟨_,_,ds++[z%b],rfl,app ds _,by rw[ID,hlen];rfl,inb ds z hds⟩
   ·rintro σ H2 ⟨z,v,ds,rfl,rfl,hlen,hds⟩
    exact⟨_,rfl,k l ds hl hds (by omega)⟩
  ·refine⟨_,rfl,_,_,rfl,rfl,by show (0:Int)<2147483629;decide,_,_,rfl,rfl,?_⟩
   have cb:=Js (dw c) (show 0<m+1 by omega);have cn:=JB (dw c) (show m+1≠0 by omega);refine⟨_,rfl,_,rfl,_,_,rfl,rfl,_,_,rfl,rfl,by show (0:Int)<m+1;omega,?_⟩
   refine⟨_,rfl,by omega,by omega,nZ (n:=(dw c%(m+1)).toNat) (fun i σ H2=>∃ (z:Int)(v:Option V)(ds:List Int),σ=[some (.int c),some (.int m),some (.int b),some (.int (dw c)),some (.ref l),none,v,some (.int z)]/\H2=upd H l (.lst (ds.map V.int))/\ds.length=i/\∀ d∈ds,0<=d/\d<b)
    ⟨_,none,[],rfl,rfl,rfl,fun _ z=>nomatch z⟩ ?_ ?_⟩
   ·rintro i σ H2 hi ⟨z,v,ds,rfl,rfl,hlen,hds⟩
    refine⟨_,rfl,_,_,rfl,rfl,.inr ⟨by decide,by decide⟩,_,_,rfl,rfl,by show (0:Int)<2147483647;decide,?_⟩;refine⟨_,rfl,.inl ⟨rfl,_,bF.of af⟩,_,rfl,_,_,rfl,rfl,.inr ⟨by decide,by decide⟩,_,_,rfl,rfl,by show (0:Int)<998244353;decide,_,_,rfl,rfl,⟨by decide,by decide⟩,_,rfl,_,_,rfl,rfl,b0,l,_,_,rfl,rfl,af,room ds (by omega),?_⟩;exact⟨_,_,ds++[_],rfl,app ds _,by rw[ID,hlen];rfl,inb ds _ hds⟩
   ·rintro σ H2 ⟨z,v,ds,rfl,rfl,hlen,hds⟩
    exact⟨_,rfl,k l ds hl hds (by omega)⟩
theorem mI (F:d6 K "_law_draws_from" "_law_draws_from" eR f fd)(jv:aG P w K mg base "_law_draws" 2 ["_law_cell","_law_many","_law_base"] qd) : bd P w K mg base c7 3 f fd ["_law_script","_law_start","_law_most","_law_base"] (rN K):=by
 refine F.ok dm (fun vs H Q E h=>?_) (fun cdv A outer s H vs Q E hr h=>?_)
 ·obtain⟨a,ns,st,m,b,rfl,_⟩:=h
  rfl
 ·obtain⟨a,ns,st,m,b,rfl,hS,⟨s0,s1⟩,⟨m0,m1⟩,⟨b0,b1⟩,k⟩:=h
  refine⟨_,ah (dM (i:=4) dm.nd rfl (Or.inl rfl) (eG aN))
   (ah (dL Jw rfl (dj (gd ka (pv 0) (gQ (pv 1)) (gQ am))) (mL (i:=5) dm.nd rfl (Or.inl rfl))
    (aj (dL Jw rfl (dj (bJ jv hr rfl (aq (pv 5) (aq am (aq (pv 3) aN))))) (mL (i:=6) dm.nd rfl (Or.inl rfl))
     (aj (br (aw wu (cL dy (by rfl) T.len KS (aq (pv 4) aN)) (pv 2) (aI _))
      (aj (a6 (jK Jj Jf Jg cK (pv 4) (aq (pv 6) aN)))) aM)))))
   (aj (ax (pv 4)))),?_⟩
  refine⟨by show 0<=sizeLine;exact IX _,fun l hl=>?_⟩;have hS':bF K (upd H l (.lst [])) a (ns.map V.int):=(ai hl).seq hS;refine⟨_,rfl,_,rfl,_,rfl,_,rfl,a,_,rfl,hS',fun q hq=>?_⟩
  have hlq:l≠q:=fun e=>by rw[<-e,af]at hq;cases hq
  have hHq:H q=none:=by rw[ag (IN hlq)]at hq;exact hq
  obtain⟨zs,hzs⟩:∃ zs:List Int,kr (ns.map V.int) (some st) (some 63)=zs.map V.int:=⟨(ns.drop (HT.sIx ns.length 0 (some st))).take (HT.sIx ns.length ns.length (some 63)-HT.sIx ns.length 0 (some st)),by unfold kr;rw[Ir,Kg,List.map_drop]⟩;rw[hzs]
  refine⟨q,rfl,⟨_,bF.of af⟩,cC (K:=K) (a:=q) (xs:=zs.map V.int) (fun i σ H2=>∃ (v u:Option V)(ds:List Int),σ=[some (.ref a),some (.int st),some (.int m),some (.int b),some (.ref l),v,u]/\aA H H2/\H2 q=some (.lst (zs.map V.int))/\H2 l=some (.lst (ds.map V.int))/\(∀ d∈ds,0<=d/\d<b)/\(ds.length:Int)<=m)
   ⟨none,none,[],rfl,cF (ai hl) hHq,af,by rw[ag hlq,af];rfl,(fun _ z=>nomatch z),by simpa using m0⟩ (fun i σ H2 _ ⟨_,_,_,_,_,h,_⟩=>bF.of h) ?_ ?_⟩
  ·rintro i y σ H2 hi ⟨v,u,ds,rfl,s2,hq2,hl2,hds,hlen⟩
   obtain⟨z,_,rfl⟩:=bT hi;refine⟨_,rfl,_,rfl,z,24,b,rfl,⟨by decide,by decide⟩,⟨b0,b1⟩,fun r es hr2 hes hel=>?_⟩;have hrq:q≠r:=ak hq2 hr2;have hrl:l≠r:=ak hl2 hr2
   refine⟨r,rfl,⟨_,bF.of af⟩,cC (K:=K) (a:=r) (xs:=es.map V.int) (fun i σ H3=>∃ (u:Option V)(ds:List Int),σ=[some (.ref a),some (.int st),some (.int m),some (.int b),some (.ref l),some (.int z),u]/\aA H H3/\H3 q=some (.lst (zs.map V.int))/\H3 r=some (.lst (es.map V.int))/\H3 l=some (.lst (ds.map V.int))/\(∀ d∈ds,0<=d/\d<b)/\(ds.length:Int)<=m)
    ⟨u,ds,rfl,cF s2 (s2.free hr2),by rw[ag hrq];exact hq2,af,by rw[ag hrl];exact hl2,hds,hlen⟩ (fun i σ H2 _ ⟨_,_,_,_,_,h,_⟩=>bF.of h) ?_ ?_⟩
   ·rintro i y σ H3 hi ⟨u,ds,rfl,s3,hq3,hr3,hl3,hds,hlen⟩
    obtain⟨d,hd,rfl⟩:=bT hi;refine⟨_,rfl,l,_,rfl,.inl (bF.of hl3),_,rfl,_,_,rfl,rfl,_,rfl,?_⟩;rw[Ir];refine uz (fun hc=>?_) (fun _=>?_)
    ·have hc:=JK hc
     refine⟨_,rfl,.inl ⟨rfl,_,bF.of hl3⟩,_,rfl,l,_,_,rfl,rfl,hl3,by rw[Ir];exact aW (by omega),?_⟩;refine⟨_,ds++[d],rfl,cF s3 hl,by rw[ag (IN hlq)];exact hq3,by rw[ag (IN hrl)];exact hr3,by rw[af,Ja];rfl,fun x hx=>?_,by rw[ID];show ((ds.length+1:Nat):Int)<=m;omega⟩;rcases IP.mp hx with hx | hx
     ·exact hds x hx
     ·rw[IB.mp hx];exact hes d (IV hd)
    ·exact⟨_,ds,rfl,s3,hq3,hr3,hl3,hds,hlen⟩
   ·rintro σ H3 ⟨u,ds,rfl,s3,hq3,hr3,hl3,hds,hlen⟩
    exact⟨_,_,ds,rfl,s3,hq3,hl3,hds,hlen⟩
  ·rintro σ H2 ⟨v,u,ds,rfl,s2,hq2,hl2,hds,hlen⟩
   exact⟨_,rfl,k l H2 ds hl s2 hl2 hds hlen⟩
theorem uU (F:d6 K "_law_guest" "_law_guest" jk f fd)(cR:aG P w K mg base "_law_size" 1 ["_law_cell"] oM) : bd P w K mg base c7 2 f fd ["_law_k","_law_cell"] jb:=by
 refine F.ok fL (fun vs H Q E h=>?_) (fun cdv A outer s H vs Q E hr h=>?_)
 ·obtain⟨k,c,rfl,_⟩:=h
  rfl
 ·obtain⟨i,c,rfl,⟨i0,i1⟩,k⟩:=h
  refine⟨_,ah (dM (i:=2) fL.nd rfl (Or.inl rfl) (bJ cR hr rfl (aq (pv 1) aN)))
   (ah (dM (i:=3) fL.nd rfl (Or.inl rfl) (aL eE am (aL bN (aL rm (pv 2) am) am)))
   (ah (dM (i:=4) fL.nd rfl (Or.inl rfl) (aL bN (aL eE (aL rm (pv 0) (pv 3)) (aL Bw (pv 2) am)) am))
   (ah (br (aw cQ (aL bN (pv 2) am) am (aI _)) (aj (ax (aL eE (pv 4) am))) aM)
   (aj (ax (pv 4)))))),?_⟩
  refine⟨_,rfl,_,rfl,?_⟩;refine⟨_,rfl,_,_,rfl,rfl,.inr ⟨by decide,by decide⟩,_,_,rfl,rfl,by show (0:Int)<2147483646;decide,_,_,rfl,rfl,?_⟩;refine⟨_,rfl,_,rfl,_,_,rfl,rfl,.inl ⟨by show (-(2 ^ 64):Int)<i;omega,by show i<(2 ^ 64:Int);omega⟩,_,rfl,_,_,rfl,rfl,⟨by decide,by decide⟩,_,_,rfl,rfl,_,_,rfl,rfl,by show (0:Int)<2147483647;decide,?_⟩;refine⟨_,rfl,_,_,rfl,rfl,by show (0:Int)<5;decide,rfl,_,rfl,?_⟩;unfold gM at k;dsimp only at k
  by_cases hc:dw c%5=4
  ·rw[Iq hc]at k
   rw[IG (show V.int (dw c%5)=V.int 4 by rw[hc])];exact bI ⟨_,rfl,_,_,rfl,rfl,k⟩
  ·rw[Ip hc]at k
   rw[IM (show ¬ V.int (dw c%5)=V.int 4 from fun z=>hc (by injection z))];exact aR ⟨_,rfl,k⟩
theorem x0 (F:d6 K "_law_key" "_law_key" lK f fd) : bd P w K mg base c7 1 f fd ["_law_one","_law_other"] tU:=by
 refine F.ok yj (fun vs H Q E h=>?_) (fun cdv A outer s H vs Q E hr h=>?_)
 ·obtain⟨a,b,rfl,_⟩:=h
  rfl
 ·obtain⟨a,b,rfl,k⟩:=h
  refine⟨_,ah (br (aw wu (pv 1) (pv 0) (aI _)) (aj (ax (aS (dP (pv 1) (pv 0))))) (aM)) (
   aj (ax (aS (dP (pv 0) (pv 1))))),?_⟩
  refine⟨_,rfl,_,rfl,_,_,rfl,rfl,_,rfl,?_⟩;unfold cZ at k
  by_cases hc:b<a
  ·rw[Iq hc]at k
   rw[IG hc];exact bI ⟨_,rfl,_,rfl,by show 2<=sizeLine;decide,k⟩
  ·rw[Ip hc]at k
   rw[IM hc];exact aR ⟨_,rfl,_,rfl,by show 2<=sizeLine;decide,k⟩
theorem xZ (F:d6 K "_law_due" "_law_due" lJ f fd)(dv:aG P w K mg base "_law_key" 1 ["_law_one","_law_other"] tU) : bd P w K mg base c7 2 f fd ["_law_worn","_law_met","_law_deed_here"] wT:=by
 refine F.ok rK (fun vs H Q E h=>?_) (fun cdv A outer s H vs Q E hr h=>?_)
 ·obtain⟨w,m,t,wl,ml,d,rfl,_⟩:=h
  rfl
 ·obtain⟨w,m,t,wl,ml,d,rfl,hw,hm,ht0,k⟩:=h
  have hu:=dJ hr
  have ht:H t=some (.tup (bz d)):=by rw[<-iW];exact ht0
  have gw:∀ (H2:Hp)(x:Int),aA H H2->da H2 w (.int x) ((look wl x).map V.int):=fun H2 x s2=>by rw[<-dH];exact da.k (k:=Sum.inl x) (s2 _ _ hw)
  have two:(2:Nat)<=sizeLine:=by decide
  refine⟨_,ah (dL Jw rfl (EX (gd Fk (pv 2) (gQ (am)) j8)) (j7 3 rK.nd) (aj (br (PW.pt (gj (aw pf (aX aQ (pv 2) (am) (fun _ _=>rfl)) (aO) (aI _)) (fK (gi (iE hu (pv 3) (pv 0)))))) (aj (ax (aS (dP (aO) (pv 3))))) (aM)))) (
   ah (br (PW.pt (gj (aw cQ (aX aQ (pv 2) (am) (fun _ _=>rfl)) (aO) (aI _)) (fK (gi (lC hu (aX aQ (pv 2) (am) (fun _ _=>rfl)) (pv 0)))))) (aj (ax (aS (dP (aO) (eX))))) (aM)) (
   ah (br (PW.pt (gj (aw cQ (aX aQ (pv 2) (am) (fun _ _=>rfl)) (aO) (aI _)) (fK (aw pf (i6 hu (pv 0) (aX aQ (pv 2) (am) (fun _ _=>rfl)) (fun _ _=>rfl)) (aX aQ (pv 2) (am) (fun _ _=>rfl)) (aI _))))) (aj (ax (aS (dP (aO) (eX))))) (aM)) (
   ah (br (PW.pt (gj (aw cQ (aX aQ (pv 2) (am) (fun _ _=>rfl)) (aO) (aI _)) (fK (aw cQ (aX aQ (pv 2) (am) (fun _ _=>rfl)) (aX aQ (pv 2) (am) (fun _ _=>rfl)) (aI _))))) (aj (ax (aS (dP (aO) (eX))))) (aM)) (
   ah (br (PW.pt (gj (aw cQ (aX aQ (pv 2) (am) (fun _ _=>rfl)) (aO) (aI _)) (fK (gi (lC hu (bJ dv hr.m rfl (dP (aX aQ (pv 2) (am) (fun _ _=>rfl)) (aX aQ (pv 2) (am) (fun _ _=>rfl)))) (pv 1)))))) (aj (ax (aS (dP (aO) (eX))))) (aM)) (
   aj (ax (aS (dP (aO) (eX))))))))),?_⟩
  refine⟨_,rfl,_,rfl,t,_,rfl,c6.of ht,CM d,fun q hq=>?_⟩;have s1:aA H (upd H q (.tup (kr (bz d) (some 1) none))):=ai hq
  have hq1:upd H q (.tup (kr (bz d) (some 1) none)) q=some (.tup ((names d).map V.int)):=by rw[af,AR]
  generalize upd H q (.tup (kr (bz d) (some 1) none))=H1 at s1 hq1
  refine⟨q,rfl,⟨_,c6.of hq1⟩,CZ (K:=K) (a:=q) (xs:=(names d).map V.int) (fun i σ H2=>∃ v:Option V,σ=[some (.ref w),some (.ref m),some (.ref t),v]/\H2=H1/\(dI d≠"come"->∀ y∈(names d).take i,(look wl y).isSome=true))
   ⟨none,rfl,rfl,fun _ y hy=>by simp at hy⟩ (fun i σ H2 _ ⟨_,_,e,_⟩=>by rw[e];exact c6.of hq1) ?_ ?_⟩
  ·rintro i y σ H2 hi ⟨v,rfl,rfl,hp⟩
   obtain⟨x,hx,rfl⟩:=bT hi;refine⟨_,rfl,t,_,_,_,rfl,rfl,c6.of (s1 _ _ ht),df (j:=0) rfl,rfl,_,rfl,?_⟩
   have nxt:(dI d≠"come"->(look wl x).isSome=true)->(dI d≠"come"->∀ y∈(names d).take (i+1),(look wl y).isSome=true):=fun h hc y hy=>by
    rw[AA hx]at hy;rcases IP.mp hy with z | z
    ·exact hp hc y z
    ·rw[IB.mp z];exact h hc
   by_cases hc:dI d="come"
   ·rw[IG (by rw[hc])]
    exact aR (aR ⟨_,rfl,rfl,nxt fun z=>absurd hc z⟩)
   ·rw[IM (fun z=>hc (V.str.inj z))]
    refine bI ⟨_,rfl,_,rfl,w,_,rfl,gw _ x s1,_,rfl,?_⟩
    cases e:look wl x with
    | none =>
     refine bI ⟨_,rfl,two,fun r hr2=>?_⟩;refine k r _ (s1.free hr2) (s1.trans (ai hr2)) ?_;rw[af,Bh hc (hp hc) hx e];rfl
    | some z=>exact aR ⟨_,rfl,rfl,nxt fun _=>by rw[e];rfl⟩
  ·rintro σ H2 ⟨v,rfl,rfl,hp⟩
   have fin:∀ (o:rY)(H3:Hp)(r:Addr),cm wl (ou ml) d=o->aA H H3->H3 r=none->Q (.ref r) (upd H3 r (.tup (ky o))):=fun o H3 r e s3 h3=>k r _ (s3.free h3) (s3.trans (ai h3)) (by rw[af,e]);rw[Ir,Ji]at hp;have T0:c6 K H2 t (bz d):=c6.of (s1 _ _ ht)
   cases d with
   | come g =>
    refine⟨_,rfl,t,_,_,_,rfl,rfl,T0,rfl,rfl,_,rfl,?_⟩;rw[show decide (V.str (dI (.come g))=V.str "come")=true from cc];refine bI ⟨_,rfl,t,_,_,_,rfl,rfl,T0,rfl,_,rfl,w,_,rfl,gw _ g s1,_,rfl,?_⟩
    cases e:look wl g with
    | some z=>exact bI ⟨two,fun r h3=>fin .already _ r (by simp[cm,e]) s1 h3⟩
    | none =>
     refine aR ⟨_,rfl,t,_,_,_,rfl,rfl,T0,rfl,rfl,_,rfl,?_⟩;rw[show decide (V.str (dI (.come g))=V.str "go")=false from cg];refine aR (aR ⟨_,rfl,t,_,_,_,rfl,rfl,T0,rfl,rfl,_,rfl,?_⟩);rw[show decide (V.str (dI (.come g))=V.str "exchange")=false from ce];refine aR (aR ⟨_,rfl,t,_,_,_,rfl,rfl,T0,rfl,rfl,_,rfl,?_⟩);rw[show decide (V.str (dI (.come g))=V.str "exchange")=false from ce];exact aR (aR ⟨two,fun r h3=>fin .done _ r (by simp[cm,e]) s1 h3⟩)
   | go g =>
    have hg:=hp (by show ("go" : Str)≠"come";decide +kernel) g (by simp[names]);obtain⟨z,e⟩:=Jm.mp hg;refine⟨_,rfl,t,_,_,_,rfl,rfl,T0,rfl,rfl,_,rfl,?_⟩;rw[show decide (V.str (dI (.go g))=V.str "come")=false from gc];refine aR (aR ⟨_,rfl,t,_,_,_,rfl,rfl,T0,rfl,rfl,_,rfl,?_⟩);rw[show decide (V.str (dI (.go g))=V.str "go")=true from gg];refine bI ⟨_,rfl,_,rfl,t,_,_,_,rfl,rfl,T0,rfl,w,_,rfl,(by have:=gw H2 g s1;rw[e]at this;exact this),_,rfl,t,_,_,_,rfl,rfl,T0,rfl,rfl,_,rfl,?_⟩
    by_cases hz:z=g
    ·rw[IG (by rw[hz])]
     refine aR ⟨_,rfl,t,_,_,_,rfl,rfl,T0,rfl,rfl,_,rfl,?_⟩;rw[show decide (V.str (dI (.go g))=V.str "exchange")=false from ge];refine aR (aR ⟨_,rfl,t,_,_,_,rfl,rfl,T0,rfl,rfl,_,rfl,?_⟩);rw[show decide (V.str (dI (.go g))=V.str "exchange")=false from ge];exact aR (aR ⟨two,fun r h3=>fin .done _ r (by simp[cm,e,hz]) s1 h3⟩)
    ·rw[IM (fun q=>hz (V.int.inj q))]
     exact bI ⟨two,fun r h3=>fin .masked _ r (by simp[cm,e,hz]) s1 h3⟩
   | exch a b =>
    have ha:=hp (by show ("exchange" : Str)≠"come";decide +kernel) a (by simp[names]);have hb:=hp (by show ("exchange" : Str)≠"come";decide +kernel) b (by simp[names]);obtain⟨za,ea⟩:=Jm.mp ha;obtain⟨zb,eb⟩:=Jm.mp hb;refine⟨_,rfl,t,_,_,_,rfl,rfl,T0,rfl,rfl,_,rfl,?_⟩;rw[show decide (V.str (dI (.exch a b))=V.str "come")=false from ec];refine aR (aR ⟨_,rfl,t,_,_,_,rfl,rfl,T0,rfl,rfl,_,rfl,?_⟩);rw[show decide (V.str (dI (.exch a b))=V.str "go")=false from eg];refine aR (aR ⟨_,rfl,t,_,_,_,rfl,rfl,T0,rfl,rfl,_,rfl,?_⟩);rw[show decide (V.str (dI (.exch a b))=V.str "exchange")=true from ee];refine bI ⟨_,rfl,t,_,_,_,rfl,rfl,T0,rfl,_,rfl,t,_,_,_,rfl,rfl,T0,rfl,rfl,_,rfl,?_⟩
    by_cases hab:a=b
    ·rw[IG (by rw[hab])]
     exact bI ⟨two,fun r h3=>fin .same _ r (by simp[cm,ea,eb,hab]) s1 h3⟩
    ·rw[IM (fun q=>hab (V.int.inj q))]
     refine aR ⟨_,rfl,t,_,_,_,rfl,rfl,T0,rfl,rfl,_,rfl,?_⟩;rw[show decide (V.str (dI (.exch a b))=V.str "exchange")=true from ee];refine bI ⟨_,rfl,t,_,_,_,rfl,rfl,T0,rfl,_,rfl,t,_,_,_,rfl,rfl,T0,rfl,a,b,rfl,fun kt hk=>?_⟩;have s2:=s1.trans (ai (o:=.tup [.int (cZ a b).1,.int (cZ a b).2]) hk);refine⟨_,rfl,m,_,rfl,da.t (k:=[Sum.inl (cZ a b).1,Sum.inl (cZ a b).2]) (s2 _ _ hm) af,_,rfl,?_⟩;rw[uH]
     by_cases hmt:cZ a b∈ml
     ·rw[IG hmt]
      exact bI ⟨two,fun r h3=>fin .met _ r (by simp[cm,ea,eb,hab,ou,hmt]) s2 h3⟩
     ·rw[IM hmt]
      exact aR ⟨two,fun r h3=>fin .done _ r (by simp[cm,ea,eb,hab,ou,hmt]) s2 h3⟩
theorem uP (F:d6 K "_law_after" "_law_after" jg f fd)(dv:aG P w K mg base "_law_key" 1 ["_law_one","_law_other"] tU) : bd P w K mg base c7 2 f fd ["_law_worn","_law_met","_law_deed_here"] m6:=by
 refine F.ok m5 (fun vs H Q E h=>?_) (fun cdv A outer s H vs Q E hr h=>?_)
 ·obtain⟨w,m,t,wl,ml,d,rfl,_⟩:=h
  rfl
 ·obtain⟨w,m,t,wl,ml,d,rfl,hw,hm,ht0,l1,l2,hj,k⟩:=h
  have hu:=dJ hr
  have ht:H t=some (.tup (bz d)):=by rw[<-iW];exact ht0
  have T0:c6 K H t (bz d):=c6.of ht;have nwt:t≠w:=cJ ht hw (by intro z;cases z);have nwm:m≠w:=cJ hm hw (by intro z;cases z);have ntm:t≠m:=cJ ht hm (by intro z;cases z)
  have sz:∀ v:List (Int×Int),v.length<=2000->(dk v).length<sizeLine:=fun v h=>by rw[xM];exact KC h (by decide)
  refine⟨_,aj (br (aw cQ (aX aQ (pv 2) (am) (fun _ _=>rfl)) (aO) (aI _)) (aj (gR hu (pv 0) (aX aQ (pv 2) (am) (fun _ _=>rfl)) (aX aQ (pv 2) (am) (fun _ _=>rfl)) rfl)) (aj (br (aw cQ (aX aQ (pv 2) (am) (fun _ _=>rfl)) (aO) (aI _)) (aj (a6 (rp (pv 0) (aX aQ (pv 2) (am) (fun _ _=>rfl)) ⟨rfl,rfl,rfl,rfl⟩))) (ah (bA 3 m5.nd (i6 hu (pv 0) (aX aQ (pv 2) (am) (fun _ _=>rfl)) (fun _ _=>rfl))) (
   ah (gR hu (pv 0) (aX aQ (pv 2) (am) (fun _ _=>rfl)) (i6 hu (pv 0) (aX aQ (pv 2) (am) (fun _ _=>rfl)) (fun _ _=>rfl)) rfl) (
   ah (gR hu (pv 0) (aX aQ (pv 2) (am) (fun _ _=>rfl)) (pv 3) rfl) (
   aj (gR hu (pv 1) (bJ dv hr.m rfl (dP (aX aQ (pv 2) (am) (fun _ _=>rfl)) (aX aQ (pv 2) (am) (fun _ _=>rfl)))) (iF) rfl)))))))),?_⟩
  cases d with
  | come g =>
   refine⟨_,rfl,t,_,_,_,rfl,rfl,T0,rfl,rfl,_,rfl,?_⟩;rw[show decide (V.str (dI (.come g))=V.str "come")=true from cc];refine bI ⟨_,rfl,t,_,_,_,rfl,rfl,T0,rfl,_,rfl,_,rfl,t,_,_,_,rfl,rfl,T0,rfl,w,_,rfl,k7.k (k:=Sum.inl g) hw (sz _ (by omega)),?_⟩;rw[mQ]
   exact k _ af (by rw[ag nwm];exact hm) fun b o e h1 _=>by rw[ag h1];exact e
  | go g =>
   refine⟨_,rfl,t,_,_,_,rfl,rfl,T0,rfl,rfl,_,rfl,?_⟩;rw[show decide (V.str (dI (.go g))=V.str "come")=false from gc];refine aR ⟨_,rfl,t,_,_,_,rfl,rfl,T0,rfl,rfl,_,rfl,?_⟩;rw[show decide (V.str (dI (.go g))=V.str "go")=true from gg]
   obtain⟨z,e⟩:∃ z,look wl g=some z:=by
    cases e:look wl g with
    | none=>simp[cm,e]at hj
    | some z=>exact⟨z,rfl⟩
   refine bI ⟨_,rfl,w,rfl,.inl ⟨_,.inl hw⟩,_,rfl,t,_,_,_,rfl,rfl,T0,rfl,_,Sum.inl g,_,hw,rfl,by rw[dH,e];rfl,?_⟩;rw[qB]
   exact k _ af (by rw[ag nwm];exact hm) fun b o e h1 _=>by rw[ag h1];exact e
  | exch a b =>
   refine⟨_,rfl,t,_,_,_,rfl,rfl,T0,rfl,rfl,_,rfl,?_⟩;rw[show decide (V.str (dI (.exch a b))=V.str "come")=false from ec];refine aR ⟨_,rfl,t,_,_,_,rfl,rfl,T0,rfl,rfl,_,rfl,?_⟩;rw[show decide (V.str (dI (.exch a b))=V.str "go")=false from eg]
   obtain⟨za,ea⟩:∃ z,look wl a=some z:=by
    cases e:look wl a with
    | none=>simp[cm,e]at hj
    | some z=>exact⟨z,rfl⟩
   obtain⟨zb,eb⟩:∃ z,look wl b=some z:=by
    cases e:look wl b with
    | none=>simp[cm,ea,e]at hj
    | some z=>exact⟨z,rfl⟩
   have ga:da H w (.int a) (some (V.int za)):=by have:=da.k (k:=Sum.inl a) hw;rw[dH,ea]at this;exact this
   have gb:da H w (.int b) (some (V.int zb)):=by have:=da.k (k:=Sum.inl b) hw;rw[dH,eb]at this;exact this
   refine aR ⟨_,rfl,_,rfl,t,_,_,_,rfl,rfl,T0,rfl,w,_,rfl,ga,?_⟩;refine⟨_,rfl,_,rfl,t,_,_,_,rfl,rfl,T0,rfl,w,_,rfl,gb,_,rfl,_,rfl,t,_,_,_,rfl,rfl,T0,rfl,w,_,rfl,k7.k (k:=Sum.inl a) hw (sz _ (by omega)),?_⟩;rw[mQ];have lp:=uC wl a zb;have T1:c6 K (upd H w (.dK (dk (put wl a zb)))) t (bz (.exch a b)):=c6.of (by rw[ag nwt];exact ht);refine⟨_,rfl,_,rfl,_,rfl,t,_,_,_,rfl,rfl,T1,rfl,w,_,rfl,k7.k (k:=Sum.inl b) af (sz _ (by omega)),?_⟩;rw[mQ,zq];have T2:c6 K (upd H w (.dK (dk (put (put wl a zb) b za)))) t (bz (.exch a b)):=c6.of (by rw[ag nwt];exact ht);refine⟨_,rfl,_,rfl,t,_,_,_,rfl,rfl,T2,rfl,_,rfl,t,_,_,_,rfl,rfl,T2,rfl,a,b,rfl,fun kt hk=>?_⟩;have hkm:m≠kt:=ak (by rw[ag nwm];exact hm) hk;have hkw:w≠kt:=ak af hk;refine⟨m,_,rfl,k7.t (k:=[Sum.inl (cZ a b).1,Sum.inl (cZ a b).2]) (by rw[ag hkm,ag nwm];exact hm) af (by unfold js;rw[Ir];exact KC l2 (by decide)),?_⟩;rw[yY]
   have wa:wr wl a=za:=by unfold wr;rw[ea];rfl
   have wb:wr wl b=zb:=by unfold wr;rw[eb];rfl
   refine k _ ?_ af fun x o e h1 h2=>?_
   ·rw[ag (IN nwm),ag hkw,af]
    show some (HO.dK (dk (put (put wl a zb) b za)))=some (HO.dK (dk (put (put wl a (wr wl b)) b (wr wl a))))
    rw[wa,wb]
   ·have e':upd H w (.dK (dk (put (put wl a zb) b za))) x=some o:=by rw[ag h1];exact e
    rw[ag h2,ag (ak e' hk)];exact e'
theorem wj (F:d6 K "_law_deed" "_law_deed" jQ f fd)(bp:aG P w K mg base "_law_guest" 2 ["_law_k","_law_cell"] jb) : bd P w K mg base c7 3 f fd ["_law_drawn","_law_many","_law_cell"] qc:=by
 refine F.ok py (fun vs H Q E h=>?_) (fun cdv A outer s H vs Q E hr h=>?_)
 ·obtain⟨dr,m,n,rfl,_⟩:=h
  rfl
 ·obtain⟨dr,m,n,rfl,⟨d0,d1⟩,⟨m0,m1⟩,k⟩:=h
  refine⟨_,ah (bA 3 py.nd (bJ bp hr.m rfl (dP (aL bN (aL dC (pv 0) (am)) (pv 1)) (pv 2)))) (
   ah (br (aw cQ (aL bN (pv 0) (am)) (am) (aI _)) (aj (ax (aS (dP (aO) (pv 3))))) (aM)) (
   ah (br (aw cQ (aL bN (pv 0) (am)) (am) (aI _)) (aj (ax (aS (dP (aO) (pv 3))))) (aM)) (
   aj (ax (aS (AI (aO) (pv 3) (bJ bp hr.m rfl (dP (aL bN (aL dC (pv 0) (aL rm (am) (pv 1))) (pv 1)) (pv 2))))))))),?_⟩
  have em:∀ z:Int,0<=z%m/\z%m<m:=fun z=>⟨JB _ (by omega),Js _ (by omega)⟩;have a0:=em (dr/8);refine⟨_,rfl,_,_,rfl,rfl,⟨by decide,by decide⟩,_,rfl,_,_,rfl,rfl,by show (0:Int)<m;omega,_,rfl,_,_,rfl,⟨a0.1,by omega⟩,?_⟩;have g0:gM (dr/8%m) n∈aZ 40 n:=xC ⟨a0.1,by omega⟩;refine⟨_,rfl,_,_,rfl,rfl,by show (0:Int)<8;decide,rfl,_,rfl,?_⟩;refine uz (fun _=>⟨_,rfl,by show 2<=sizeLine;decide,fun t ht=>k t (.come (gM (dr/8%m) n)) ht fun g hg=>by simp[names]at hg;rw[hg];exact g0⟩) (fun _=>?_);refine⟨_,rfl,_,_,rfl,rfl,by show (0:Int)<8;decide,rfl,_,rfl,?_⟩;refine uz (fun _=>⟨_,rfl,by show 2<=sizeLine;decide,fun t ht=>k t (.go (gM (dr/8%m) n)) ht fun g hg=>by simp[names]at hg;rw[hg];exact g0⟩) (fun _=>?_);have a1:=em (dr/(8*m));have g1:gM (dr/(8*m)%m) n∈aZ 40 n:=xC ⟨a1.1,by omega⟩;refine⟨_,rfl,_,rfl,_,rfl,_,_,rfl,rfl,.inl ⟨by decide,by decide⟩,_,_,rfl,rfl,⟨by show (0:Int)<8*m;omega,by show 8*m<1073741824;omega⟩,_,rfl,_,_,rfl,rfl,by show (0:Int)<m;omega,_,rfl,_,_,rfl,⟨a1.1,by omega⟩,by show 3<=sizeLine;decide,fun t ht=>?_⟩
  exact k t (.exch (gM (dr/8%m) n) (gM (dr/(8*m)%m) n)) ht fun g hg=>by
   simp[names]at hg;rcases hg with rfl | rfl
   ·exact g0
   ·exact g1
theorem uQ (F:d6 K "_law_crowd" "_law_crowd" jh f fd) : bd P w K mg base c7 1 f fd ["_law_cell"] p8:=by
 refine F.ok u4 (fun vs H Q E h=>?_) (fun cdv A outer s H vs Q E hr h=>?_)
 ·obtain⟨n,rfl,_⟩:=h
  rfl
 ·obtain⟨n,rfl,k⟩:=h
  refine⟨_,ah (br (aw cQ (aL bN (aL dC (pv 0) (am)) (am)) (am) (aI _)) (aj (ax (aL eE (am) (aL bN (aL dC (pv 0) (am)) (am))))) (aM)) (
   aj (ax (aL eE (am) (aL bN (pv 0) (am))))),?_⟩
  refine⟨_,rfl,_,_,rfl,rfl,⟨by decide,by decide⟩,_,_,rfl,rfl,by show (0:Int)<8;decide,rfl,_,rfl,?_⟩;refine uz (fun _=>?_) (fun _=>?_)
  ·refine⟨_,rfl,_,_,rfl,rfl,⟨by decide,by decide⟩,_,_,rfl,rfl,by show (0:Int)<28;decide,_,_,rfl,rfl,k _ ?_⟩
   have:=Js (n/1408) (show (0:Int)<28 by decide);have:=JB (n/1408) (show (28:Int)≠0 by decide);omega
  ·refine⟨_,rfl,_,_,rfl,rfl,by show (0:Int)<11;decide,_,_,rfl,rfl,k _ ?_⟩
   have:=Js n (show (0:Int)<11 by decide);have:=JB n (show (11:Int)≠0 by decide);omega
theorem uR (F:d6 K "_law_deeds" "_law_deeds" eQ f fd)(bP:aG P w K mg base "_law_cell_at" 1 ["_law_script","_law_k"] (rM K))(jt:aG P w K mg base "_law_crowd" 1 ["_law_cell"] p8)(bp:aG P w K mg base "_law_guest" 2 ["_law_k","_law_cell"] jb)(kY:aG P w K mg base "_law_deed" 3 ["_law_drawn","_law_many","_law_cell"] qc)(b8:aG P w K mg base "_law_draws_from" 3 ["_law_script","_law_start","_law_most","_law_base"] (rN K)) : bd P w K mg base c7 4 f fd ["_law_script"] (nh K):=by
 refine F.ok eL (fun vs H Q E h=>?_) (fun cdv A outer s H vs Q E hr h=>?_)
 ·obtain⟨a,ns,rfl,_⟩:=h
  rfl
 ·obtain⟨a,ns,rfl,hS,k⟩:=h
  refine⟨_,ah (bA 1 eL.nd (bJ bP hr.m rfl (dP (pv 0) (am)))) (
   ah (bA 2 eL.nd (bJ jt hr.m rfl (gK (bJ bP hr.m rfl (dP (pv 0) (am)))))) (
   ah (bA 3 eL.nd (aL bN (aL dC (bJ bP hr.m rfl (dP (pv 0) (am))) (am)) (am))) (
   ah (Dw (ix:=4) (so:=ao eQ) (N:=jG) (N':=["_law_k","_law_first","_law_cell"]) (src:=[none,some 3,some 1]) rfl rfl Et rfl (oF (by rfl) T.range (gK (pv 2))) (fun cl C s2 H2 ex=>⟨j7 0 (show (["_law_k","_law_first","_law_cell"]:List Str).Nodup by decide +kernel),zd (PW.pt (jM (aw D7 (pv 1) (am) (aI _)) (jN (aw cQ (aL bN (pv 0) (am)) (am) (aI _))))),aS (dP (aO) (bJ bp hr.m rfl (dP (pv 0) (pv 2))))⟩) eL.nd rfl rfl) (
   aj (ax (aL lv (pv 4) (p6 (so:=ao eQ) (N:=jG) (N':=["_law_drawn","_law_many","_law_cell"]) (src:=[none,some 2,some 1]) rfl rfl Et rfl (dj (bJ b8 hr.m rfl (aq (pv 0) (aq (am) (aq (am) (aq (am) aN)))))) (fun cl C s2 H2 ex=>⟨j7 0 (show (["_law_drawn","_law_many","_law_cell"]:List Str).Nodup by decide +kernel),j9,bJ kY hr.m rfl (AI (pv 0) (pv 1) (pv 2))⟩)))))))),?_⟩
  refine⟨_,rfl,a,ns,1,rfl,hS,by decide,?_⟩;generalize hcn:cY ns 1=cn at k ⊢;refine⟨_,rfl,a,ns,0,rfl,hS,by decide,_,rfl,fun m ⟨m0,m1⟩=>?_⟩;refine⟨_,rfl,a,ns,0,rfl,hS,by decide,_,_,rfl,rfl,⟨by decide,by decide⟩,_,_,rfl,rfl,by show (0:Int)<16;decide,?_⟩;refine⟨_,rfl,m,rfl,by omega,by omega,fun l hl=>?_⟩
  refine nZ (n:=m.toNat) (fun i σ H2=>∃ (v:Option V)(ds:List aD),σ=[v,some (.int (cY ns 0/11%16)),some (.int cn)]/\aA H H2/\aU H2 l ds/\(∀ d∈ds,∀ g∈names d,g∈aZ 40 cn)/\ds.length<=i/\ds.filter pJ=[])
   ⟨none,[],rfl,ai hl,⟨[],af,.nil⟩,(fun d hd=>nomatch hd),Iv _,rfl⟩ ?_ ?_
  ·rintro i σ H2 hi ⟨v,ds,rfl,s2,⟨as,hl2,hp2⟩,hn,hlen,hex⟩
   have hal:=Ix hp2
   have app:∀ t,H2 t=none->∃ (v:Option V)(ds:List aD),([some (.int (0+(i:Int))),some (.int (cY ns 0/11%16)),some (.int cn)]:St)=[v,some (.int (cY ns 0/11%16)),some (.int cn)]/\aA H (upd (upd H2 t (cI (.come (gM (0+(i:Int)) cn)))) l (.lst (as.map V.ref++[.ref t])))/\aU (upd (upd H2 t (cI (.come (gM (0+(i:Int)) cn)))) l (.lst (as.map V.ref++[.ref t]))) l ds/\(∀ d∈ds,∀ g∈names d,g∈aZ 40 cn)/\ds.length<=i+1/\ds.filter pJ=[]:=fun t ht=>by
    refine⟨_,ds++[.come (gM (0+(i:Int)) cn)],rfl,cF (s2.trans (ai ht)) hl,lg hl2 hp2 ht _,fun d hd g hg=>?_,by rw[ID];show ds.length+1<=i+1;omega,by rw[KG,hex];rfl⟩;rcases IP.mp hd with z | z
    ·exact hn d z g hg
    ·rw[IB.mp z]at hg
     simp[names]at hg;rw[hg];exact xC ⟨by omega,by omega⟩
   refine Cm ⟨_,rfl,_,_,rfl,rfl,_,rfl,uz (fun _=>bI ?_) (fun _=>⟨_,rfl,_,_,rfl,rfl,by show (0:Int)<2;decide,rfl,_,rfl,uz (fun _=>?_) (fun _=>?_)⟩)⟩
   ·refine⟨_,rfl,_,rfl,_,_,rfl,⟨by omega,by omega⟩,by show 2<=sizeLine;decide,fun t ht=>⟨_,by rw[ag (ak hl2 ht)];exact hl2,by rw[Ir];exact aW (by omega),?_⟩⟩
    exact app t ht
   ·refine⟨_,rfl,_,rfl,_,_,rfl,⟨by omega,by omega⟩,by show 2<=sizeLine;decide,fun t ht=>⟨_,by rw[ag (ak hl2 ht)];exact hl2,by rw[Ir];exact aW (by omega),?_⟩⟩
    exact app t ht
   ·exact⟨_,ds,rfl,s2,⟨as,hl2,hp2⟩,hn,by omega,hex⟩
  ·rintro σ H2 ⟨v,ds,rfl,s2,d2,hn,hlen,hex⟩
   refine⟨_,rfl,_,rfl,a,ns,2,48,12800,rfl,s2.seq hS,⟨by decide,by decide⟩,⟨by decide,by decide⟩,⟨by decide,by decide⟩,fun q H3 es hq s3 hq3 hes hel=>?_⟩;refine⟨q,rfl,⟨_,bF.of hq3⟩,fun l2 hl2=>?_⟩;have d3:=bq (bq d2 s3) (ai (o:=.lst []) hl2);have nq:q≠l2:=ak hq3 hl2
   refine cC (K:=K) (a:=q) (xs:=es.map V.int) (fun i σ H4=>∃ (v:Option V)(fs:List aD),σ=[v,some (.int m),some (.int cn)]/\aA H3 H4/\aU H4 l2 fs/\(∀ d∈fs,∀ g∈names d,g∈aZ 40 cn)/\fs.length=i)
    ⟨none,[],rfl,ai hl2,⟨[],af,.nil⟩,(fun d hd=>nomatch hd),rfl⟩ (fun i σ H4 _ ⟨_,_,_,s4,_⟩=>bF.of (s4 _ _ hq3)) ?_ ?_
   ·rintro i y σ H4 hi ⟨v,fs,rfl,s4,⟨as,hl4,hp4⟩,hn4,hlen4⟩
    obtain⟨dr,hdr,rfl⟩:=bT hi;have hil:i<es.length:=(List.getElem?_eq_some_iff.mp hdr).1;have hb:=hes dr (IV hdr);have hal:=Ix hp4;refine qf ⟨_,rfl,_,rfl,_,rfl,dr,m,cn,rfl,⟨hb.1,by omega⟩,⟨m0,m1⟩,fun t d ht hnd=>⟨_,by rw[ag (ak hl4 ht)];exact hl4,by rw[Ir];exact aW (by omega),?_⟩⟩;refine⟨_,fs++[d],rfl,cF (s4.trans (ai ht)) hl2,lg hl4 hp4 ht d,fun d' hd' g hg=>?_,by rw[ID];show fs.length+1=i+1;omega⟩;rcases IP.mp hd' with z | z
    ·exact hn4 d' z g hg
    ·rw[IB.mp z]at hg;exact hnd g hg
   ·rintro σ H4 ⟨v,fs,rfl,s4,⟨as4,hl4,hp4⟩,hn4,hlen4⟩
    rw[Ir]at hlen4;obtain⟨as2,hl2',hp2⟩:=bq (bq d2 s3) s4;have l1:=Ix hp2;have l3:=Ix hp4;refine⟨l,l2,_,_,rfl,rfl,hl2',hl4,by rw[Ir,Ir];exact Kn (aW (by omega)),fun p hp=>?_⟩;have s24:=(s2.trans s3).trans s4;refine k p _ (ds++fs) (s24.free hp) (s24.trans (ai hp)) ⟨as2++as4,by rw[af,Ja],?_⟩ (fun d hd g hg=>?_) (by rw[ID];omega) (by rw[KG,hex,List.nil_append];exact Jb (JU _ _) (by omega))
    ·exact bC (Paired.mapP hp2 fun b y e=>(ai hp) _ _ e) (Paired.mapP hp4 fun b y e=>(ai hp) _ _ e)
    ·rcases IP.mp hd with z | z
     ·exact hn d z g hg
     ·exact hn4 d z g hg
theorem rj (F:d6 K "_law_evening" "_law_evening" gH f fd)(ju:aG P w K mg base "_law_deeds" 4 ["_law_script"] (nh K))(fO:aG P w K mg base "_law_due" 2 ["_law_worn","_law_met","_law_deed_here"] wT)(dW:aG P w K mg base "_law_after" 2 ["_law_worn","_law_met","_law_deed_here"] m6) : bd P w K mg base c7 6 f fd ["_law_script"] (i9 K):=by
 refine F.ok dq (fun vs H Q E h=>?_) (fun cdv A outer s H vs Q E hr h=>?_)
 ·obtain⟨a,ns,rfl,_⟩:=h
  rfl
 ·obtain⟨a,ns,rfl,hS,k⟩:=h
  have hu:=dJ hr;have nil0:(0:Nat)<=sizeLine:=IX _
  have three:(3:Nat)<=sizeLine:=by decide
  refine⟨_,ah (bA 1 dq.nd f7) (
   ah (bA 2 dq.nd wA) (
   ah (bA 3 dq.nd (eG aN)) (
   ah (dL Jw rfl (dj (bJ ju hr.m rfl (gK (pv 0)))) (j7 4 dq.nd) (aj (br (aw cQ (aX aQ (bJ fO hr.m rfl (AI (pv 1) (pv 2) (pv 4))) (am) (fun _ _=>rfl)) (aO) (aI _)) (ah (a6 (bJ dW hr.m rfl (AI (pv 1) (pv 2) (pv 4)))) (
   aj (a6 (jK Jj Jf Jg cK (pv 3) (gK (pv 4)))))) (aM)))) (
   aj (ax (aS (AI (pv 1) (pv 2) (pv 3)))))))),?_⟩
  intro w hw;have sA:=ai (o:=.dK []) hw;have hw2:upd H w (.dK []) w=some (.dK (dk [])):=af;generalize upd H w (.dK [])=H2 at hw2 sA ⊢;intro m hm;have sB:=ai (o:=.dT []) hm;have hm0:H m=none:=sA.free hm;have hm3:upd H2 m (.dT []) m=some (.dT (js [])):=af;have hw3:=sB _ _ hw2;generalize upd H2 m (.dT [])=H3 at hm3 hw3 sB ⊢;refine⟨nil0,fun ls hls=>?_⟩;have sC:=ai (o:=.lst []) hls;have s4:=(sA.trans sB).trans sC;have hs0:H ls=none:=(sA.trans sB).free hls;have M4:zB H (upd H3 ls (.lst [])) w m ls ⟨[],[],[],[]⟩ []:=⟨sC _ _ hw3,sC _ _ hm3,⟨[],af,.nil⟩,hw,hm0,hs0⟩;generalize upd H3 ls (.lst [])=H4 at M4 s4 ⊢;refine⟨_,rfl,a,ns,rfl,s4.seq hS,fun lq H6 ds hlq s6 dlq hds hdl hxl=>?_⟩;have M6:=M4.on s6;have S6:=s4.trans s6;generalize hcn:cY ns 1=cn at hds k;have L40:(aZ 40 cn).length=40:=tL 40 cn;obtain⟨qs,hq6,hqp6⟩:=id dlq;have hql:=Ix hqp6
  refine⟨lq,rfl,⟨_,bF.of hq6⟩,cC (K:=K) (a:=lq) (xs:=qs.map V.ref) (fun i σ HH=>∃ (es:List aD)(v4:Option V),σ=[some (.ref a),some (.ref w),some (.ref m),some (.ref ls),v4]/\aA H HH/\zB H HH w m ls (aJ es) (ku es)/\cU es/\es.Sublist (ds.take i) /\
    HH lq=some (.lst (qs.map V.ref))/\Paired (fun a x=>HH a=some (cI x)) qs ds/\lq≠ls)
   ⟨[],none,rfl,S6,M6,vD,List.nil_sublist _,hq6,hqp6,?_⟩ (fun i σ HH _ ⟨_,_,_,_,_,_,_,h,_⟩=>bF.of h) ?_ ?_⟩
  ·intro z;obtain⟨as,h,_⟩:=M4.hs;rw[z,h]at hlq;cases hlq
  ·rintro i y σ HH hi ⟨es,v4,rfl,S,M,dn,sub,hq,hqp,lqs⟩
   obtain⟨t,ht,rfl⟩:=bT hi;have hil:i<qs.length:=(List.getElem?_eq_some_iff.mp ht).1;obtain⟨d,hd,hT⟩:=paired_get hqp ht;have nmD:=hds d (IV hd);have smD:∀ g∈names d,g∈aZ 40 cn/\bK g:=fun g hg=>⟨nmD g hg,fo (nmD g hg)⟩
   have nmE:∀ e∈es,∀ g∈names e,g∈aZ 40 cn/\bK g:=fun e he g hg=>by have:=hds e (List.mem_of_mem_take (sub.mem he)) g hg;exact⟨this,fo this⟩
   have ev:=lG dn nmE es.length;rw[Ji]at ev;have esl:=sub.length_le;rw[Jn]at esl;have ln:=qX ev.good ev.of;have lm:=ev.ml;have lf:=JU pJ es;refine⟨_,rfl,_,rfl,_,rfl,w,m,t,(aJ es).worn,ku es,d,rfl,M.hw,M.hm,hT,fun r H1 hr1 s1 hrt=>?_⟩;rw[vL ev.al]at hrt;refine⟨r,_,_,_,rfl,rfl,c6.of hrt,df (j:=0) (ET _),rfl,_,rfl,?_⟩;rw[Aj];have M1:=M.on s1;have hT1:=s1 _ _ hT;have hq1:=s1 _ _ hq;have hqp1:Paired (fun a x=>H1 a=some (cI x)) qs ds:=Paired.mapP hqp fun b y e=>s1 _ _ e
   have sub1:(es++[d]).Sublist (ds.take (i+1)):=by rw[IZ,hd,Jd];exact sub.append (List.Sublist.refl _)
   have sub0:es.Sublist (ds.take (i+1)):=by rw[IZ];exact sub.trans (List.sublist_append_left _ _)
   by_cases hj:aK (aJ es) d=.done
   ·rw[IG hj]
    obtain⟨as,hl,hp⟩:=id M1.hs;have hal:=Ix hp;rw[gu]at hal;refine bI ⟨_,rfl,_,rfl,_,rfl,w,m,t,(aJ es).worn,ku es,d,rfl,M1.hw,M1.hm,hT1,by omega,by omega,(vL ev.al d).trans hj,fun H3 h1 h2 k3=>?_⟩;obtain⟨M4,hl1⟩:=M1.done hj h1 h2 k3 hl hp hT1;rw[eW hj,qU hj]at M4;refine⟨_,rfl,.inl ⟨rfl,_,bF.of hl1⟩,_,rfl,ls,_,_,rfl,rfl,hl1,by rw[Ir];exact aW (by omega),?_⟩
    have kp:∀ b o,H1 b=some o->b≠w->b≠m->b≠ls->(upd H3 ls (.lst (as.map V.ref++[.ref t]))) b=some o:=fun b o e n1 n2 n3=>by rw[ag n3];exact k3 b o e n1 n2
    refine⟨_,_,rfl,fun b o e=>kp b o (s1 _ _ (S b o e)) (ak e M.w0) (ak e M.m0) (ak e M.s0),M4,iX dn hj,sub1,kp lq _ hq1 (cJ hq1 M1.hw (by intro z;cases z)) (cJ hq1 M1.hm (by intro z;cases z)) lqs,Paired.mapP hqp1 fun b y e=>?_,lqs⟩;obtain⟨xs,ex⟩:=cz y;rw[ex]at e ⊢;exact kp b _ e (cJ e M1.hw (by intro z;cases z)) (cJ e M1.hm (by intro z;cases z)) (cJ e hl (by intro z;cases z))
   ·rw[IM hj]
    exact aR ⟨_,_,rfl,S.trans s1,M1,dn,sub0,hq1,hqp1,lqs⟩
  ·rintro σ HH ⟨es,v4,rfl,S,M,dn,sub,hq,hqp,lqs⟩
   have sub2:=sub.trans (List.take_sublist _ _);refine⟨_,rfl,_,rfl,_,rfl,three,fun t ht=>k t w m ls _ es (S.trans (ai ht)) af (M.on (ai ht)) dn (fun e he g hg=>hds e (sub2.mem he) g hg) (Jb sub2.length_le hdl) (Jb (sub2.filter pJ).length_le hxl)⟩
theorem Ag (F:d6 K "_law_do" "_law_do" oN f fd)(cO:ar P w K mg base (fb P w) c.C "come" 2 ["self","guest"] (oK c))(dX:ar P w K mg base (fb P w) c.C "go" 4 ["self","guest"] (Az c))(aE:ar P w K mg base (fb P w) c.C "exchange" 4 ["self","one","other"] (ja c)) : bd P w K mg base (fb P w) 5 f fd ["_law_hall","_law_deed_here"] (wQ c):=by
 refine F.okX Aw (fun vs H Q E h=>?_) (fun cdv A outer s H vs Q E hr h=>?_)
 ·obtain⟨p,t,B,st,d,rfl,_⟩:=h
  rfl
 ·obtain⟨p,t,B,st,d,rfl,ht0,S,ft,hg,sm,k⟩:=h
  have ht:H t=some (.tup (bz d)):=by rw[<-iW];exact ht0
  have T0:c6 K H t (bz d):=c6.of ht
  refine⟨_,ah (br (aw cQ (aX aQ (pv 1) (am) (fun _ _=>rfl)) (aO) (aI _)) (aj (ax (c8 cO (pv 0) U.cl hr.m c5 (gK (aX aQ (pv 1) (am) (fun _ _=>rfl)))))) (aM)) (
   ah (br (aw cQ (aX aQ (pv 1) (am) (fun _ _=>rfl)) (aO) (aI _)) (aj (ax (c8 dX (pv 0) U.cl hr.m c5 (gK (aX aQ (pv 1) (am) (fun _ _=>rfl)))))) (aM)) (
   aj (ax (c8 aE (pv 0) U.cl hr.m c5 (dP (aX aQ (pv 1) (am) (fun _ _=>rfl)) (aX aQ (pv 1) (am) (fun _ _=>rfl))))))),?_⟩
  have n1:=kL B (m:="come") (by decide +kernel) (by decide +kernel) (by decide +kernel) (by decide +kernel);have n2:=kL B (m:="go") (by decide +kernel) (by decide +kernel) (by decide +kernel) (by decide +kernel);have n3:=kL B (m:="exchange") (by decide +kernel) (by decide +kernel) (by decide +kernel) (by decide +kernel)
  cases d with
  | come g =>
   refine⟨_,rfl,t,_,_,_,rfl,rfl,T0,rfl,rfl,_,rfl,?_⟩;rw[show decide (V.str (dI (.come g))=V.str "come")=true from cc];exact bI ⟨_,rfl,p,B.dx,_,rfl,S.ob,n1,_,rfl,t,_,_,_,rfl,rfl,T0,rfl,p,B,st,g,rfl,S,ft,sm g (by simp[names]),k⟩
  | go g =>
   refine⟨_,rfl,t,_,_,_,rfl,rfl,T0,rfl,rfl,_,rfl,?_⟩;rw[show decide (V.str (dI (.go g))=V.str "come")=false from gc];refine aR ⟨_,rfl,t,_,_,_,rfl,rfl,T0,rfl,rfl,_,rfl,?_⟩;rw[show decide (V.str (dI (.go g))=V.str "go")=true from gg];exact bI ⟨_,rfl,p,B.dx,_,rfl,S.ob,n2,_,rfl,t,_,_,_,rfl,rfl,T0,rfl,p,B,st,g,rfl,S,ft,sm g (by simp[names]),(fun m hm=>⟨hg.sm g m hm,fun e=>by rw[e]at hm;rw[(hg.wh g g).mp hm];rfl⟩),k⟩
  | exch a b =>
   refine⟨_,rfl,t,_,_,_,rfl,rfl,T0,rfl,rfl,_,rfl,?_⟩;rw[show decide (V.str (dI (.exch a b))=V.str "come")=false from ec];refine aR ⟨_,rfl,t,_,_,_,rfl,rfl,T0,rfl,rfl,_,rfl,?_⟩;rw[show decide (V.str (dI (.exch a b))=V.str "go")=false from eg];exact aR ⟨_,rfl,p,B.dx,_,rfl,S.ob,n3,_,rfl,t,_,_,_,rfl,rfl,T0,rfl,_,rfl,t,_,_,_,rfl,rfl,T0,rfl,p,B,st,a,b,rfl,S,ft,sm a (by simp[names]),sm b (by simp[names]),k⟩
theorem rl (F:d6 K "_law_hall_of" "_law_hall_of" gI f fd)(MH:FH P w K mg base c)(qi:de P w K mg base "_law_do" 5 ["_law_hall","_law_deed_here"] (wQ c)) : bd P w K mg base c7 7 f fd ["_law_story"] (nu c):=by
 refine F.ok gq (fun vs H Q E h=>?_) (fun cdv A outer s H vs Q E hr h=>?_)
 ·obtain⟨l,ds,L,rfl,_⟩:=h
  rfl
 ·obtain⟨l,ds,L,rfl,dl,hdn,hdl,hL,hnm,k⟩:=h
  have hu:=dJ hr
  refine⟨_,ah (bA 1 gq.nd (Bz MH U hr.m rfl)) (
   ah (dL Jw rfl (dj (pv 0)) (j7 2 gq.nd) (aj (a6 (uW qi hr.m rfl wx (dP (pv 1) (pv 2)))))) (
   aj (ax (pv 1)))),?_⟩
  intro x dx nx ndx nex;refine⟨x,dx,rfl,af,fun B H1 S1 kp fr=>⟨rfl,?_⟩⟩
  have s0:aA H (upd (upd H dx (.own x)) x (.ins c.C dx [])):=fun b o e=>by rw[ag (ak e nx),ag (ak e ndx)];exact e
  have E1:Ev c H H1 x B ⟨[],[],[],[]⟩:=⟨fun b o e=>kp b o (s0 b o e) (ak e nx),S1,fZ,fun b hb=>s0.free (fr b hb)⟩;obtain⟨qs,hq,hqp⟩:=id dl
  refine⟨_,rfl,l,rfl,⟨_,bF.of (E1.same _ _ hq)⟩,cC (K:=K) (a:=l) (xs:=qs.map V.ref) (fun i σ HH=>∃ (B:HA)(v:Option V),σ=[some (.ref l),some (.ref x),v]/\Ev c H HH x B (aJ (ds.take i))/\Of L (aJ (ds.take i))/\Sz i (aJ (ds.take i)))
   ⟨B,none,rfl,E1,of_empty,Gp⟩ (fun i σ HH _ ⟨_,_,_,E,_⟩=>bF.of (E.same _ _ hq)) ?_ ?_⟩
  ·rintro i y σ HH hi ⟨B,v,rfl,E,o,z⟩
   obtain⟨t,ht,rfl⟩:=bT hi;obtain⟨d,hd,hT0⟩:=paired_get hqp ht;have hT:=E.same _ _ hT0;have hj:=hdn i d hd;have hil:=(List.getElem?_eq_some_iff.mp hd).1;have ft:=l6 E.good o hL z (by omega);have nm:=hnm d (IV hd);refine⟨_,rfl,_,rfl,x,t,B,_,d,rfl,hT,E.hall,ft,E.good,fun g hg=>(nm g hg).2,?_⟩;unfold nF;rw[Iq hj];intro H2 mv
   have en:a7 (aJ (ds.take i)) d=aJ (ds.take (i+1)):=by unfold a7;rw[Iq hj,IZ,hd,Jd,kj]
   have g2:=fR E.good (d:=d) (fun g hg=>(nm g hg).2);have o2:=mF E.good o (fun g hg=>(nm g hg).1);have z2:=nz z d
   have mv2:eV c.C HH x B (a7 (aJ (ds.take i)) d) H2:=by unfold a7;rw[Iq hj];exact mv
   obtain⟨B',E2,_⟩:=E.moved mv2 g2;rw[en]at E2 o2 z2;exact⟨B',_,rfl,E2,o2,z2⟩
  ·rintro σ HH ⟨B,v,rfl,E,o,z⟩
   have el:=Ix hqp;rw[Ir,el,Ji]at E;exact⟨_,rfl,k x B HH nx E⟩
theorem uT (F:d6 K "_law_fresh" "_law_fresh" jj f fd)(dv:aG P w K mg base "_law_key" 1 ["_law_one","_law_other"] tU) : bd P w K mg base c7 2 f fd ["_law_row","_law_worn","_law_met"] ni:=by
 refine F.ok eO (fun vs H Q E h=>?_) (fun cdv A outer s H vs Q E hr h=>?_)
 ·obtain⟨l,w,m,W,ml,ps,rfl,_⟩:=h
  rfl
 ·obtain⟨l,w,m,W,ml,ps,rfl,row,hw,hm,hlen,k⟩:=h
  have hu:=dJ hr
  refine⟨_,ah (bA 3 eO.nd wA) (
   ah (dL Jw rfl (dj (pv 0)) (gf rfl (bf (j7 4 eO.nd) (bf (j7 5 eO.nd) dR))) (ah (bA 6 eO.nd (bJ dv hr.m rfl (dP (pv 4) (pv 5)))) (
   ah (br (PW.pt (jM (aw cQ (pv 4) (pv 5) (aI _)) (jM (gi (iE hu (pv 4) (pv 1))) (jM (gi (iE hu (pv 5) (pv 1))) (jM (gi (lC hu (pv 6) (pv 2))) (jN (gi (lC hu (pv 6) (pv 3))))))))) (aj (ax (iF))) (aM)) (
   aj (gR hu (pv 3) (pv 6) (iF) rfl))))) (
   aj (ax (iF)))),?_⟩
  obtain⟨as,hl,hp⟩:=id row;have hpl:=Ix hp;intro sn hsn;have sA:=ai (o:=.dT []) hsn;have hs1:upd H sn (.dT []) sn=some (.dT (js [])):=af;generalize upd H sn (.dT [])=H1 at sA hs1 ⊢
  have bad:∀ HH,aA H HH->Q (.bl false) HH:=fun HH s=>k false HH s fun z=>by cases z
  refine⟨_,rfl,l,rfl,⟨_,bF.of (sA _ _ hl)⟩,cC (K:=K) (a:=l) (xs:=as.map V.ref) (fun i σ HH=>∃ v1 v2 v3:Option V,σ=[some (.ref l),some (.ref w),some (.ref m),some (.ref sn),v1,v2,v3]/\aA H HH/\HH sn=some (.dT (js ((ps.map xH).take i)))/\DQ W ml (ps.take i))
   ⟨none,none,none,rfl,sA,hs1,⟨fun p hp=>(by simp at hp),(by simp)⟩⟩ (fun i σ HH _ ⟨_,_,_,_,s2,_⟩=>bF.of (s2 _ _ hl)) ?_ ?_⟩
  ·rintro i y σ HH hi ⟨v1,v2,v3,rfl,t1,hs2,fr⟩
   obtain⟨b,hb,rfl⟩:=bT hi;have hil:i<as.length:=(List.getElem?_eq_some_iff.mp hb).1;obtain⟨p,hp0,hB⟩:=paired_get hp hb
   have hkr:(ps.map xH)[i]? = some (xH p):=by rw[List.getElem?_map,hp0];rfl
   have lk:((ps.map xH).take i).length<=1000:=by rw[Jn,Ir];omega
   refine⟨b,_,rfl,c6.of (t1 _ _ hB),rfl,_,_,rfl,_,_,rfl,rfl,?_⟩;refine⟨_,rfl,_,rfl,p.1,p.2,rfl,fun kt hkt=>?_⟩;have sk:=ai (o:=.tup [.int (cZ p.1 p.2).1,.int (cZ p.1 p.2).2]) hkt;have hkt2:upd HH kt (.tup [.int (cZ p.1 p.2).1,.int (cZ p.1 p.2).2]) kt=some (.tup (([Sum.inl (cZ p.1 p.2).1,Sum.inl (cZ p.1 p.2).2]:List bV).map kV)):=af;have hs3:=sk _ _ hs2;generalize upd HH kt (.tup [.int (cZ p.1 p.2).1,.int (cZ p.1 p.2).2])=H3 at sk hkt2 hs3 ⊢;have t3:=t1.trans sk
   have gD:∀ g,da H3 w (.int g) ((look W g).map V.int):=fun g=>by have:=da.k (k:=Sum.inl g) (t3 _ _ hw);rw[dH]at this;exact this
   refine⟨_,rfl,_,rfl,rfl,_,rfl,?_⟩
   by_cases f1:p.1=p.2
   ·rw[IG (Jk V.int f1)]
    exact bI (bad _ t3)
   rw[IM (fun z=>f1 (V.int.inj z))];refine aR ⟨_,rfl,_,rfl,w,_,rfl,gD p.1,_,rfl,?_⟩;rw[Ki]
   cases f2:(look W p.1).isSome with
   | false=>exact bI (bad _ t3)
   | true =>
   refine aR ⟨_,rfl,_,rfl,w,_,rfl,gD p.2,_,rfl,?_⟩;rw[Ki]
   cases f3:(look W p.2).isSome with
   | false=>exact bI (bad _ t3)
   | true =>
   refine aR ⟨_,rfl,_,rfl,m,_,rfl,da.t (t3 _ _ hm) hkt2,_,rfl,?_⟩;rw[uH ml (cZ p.1 p.2)]
   by_cases f4:cZ p.1 p.2∈ml
   ·rw[IG f4]
    exact bI (bad _ t3)
   rw[IM f4];refine aR ⟨_,rfl,_,rfl,sn,_,rfl,da.t hs3 hkt2,_,rfl,?_⟩;rw[uH _ (cZ p.1 p.2)]
   by_cases nin:cZ p.1 p.2∈(ps.map xH).take i
   ·rw[IG nin]
    exact bI (bad _ t3)
   rw[IM nin];refine aR ⟨_,rfl,_,rfl,sn,_,rfl,k7.t hs3 hkt2 (by unfold js;rw[Ir];exact aW lk),?_⟩;refine⟨_,_,_,rfl,cF t3 hsn,?_,?_⟩
   ·rw[af,yY,IZ,hkr,Jd]
    unfold pE;rw[Ip nin];rfl
   ·refine⟨fun q hq=>?_,?_⟩
    ·rw[IZ,hp0,Jd]at hq
     rcases IP.mp hq with z | z
     ·exact fr.1 q z
     ·rw[IB.mp z]
      exact⟨f1,cE.mp f2,cE.mp f3,f4⟩
    ·rw[Kg,IZ,hkr,Jd]
     have:=fr.2;rw[Kg]at this;refine List.nodup_append.mpr ⟨this,by simp,fun a ha b hb e=>?_⟩;rw[IB.mp hb]at e;exact nin (by rw[<-show a=cZ p.1 p.2 from e];exact ha)
  ·rintro σ HH ⟨v1,v2,v3,rfl,t1,hs2,fr⟩
   rw[Ir,hpl,Ji]at fr;exact k true HH t1 fun _=>fr
theorem sF (F:d6 K "_law_stands" "_law_stands" io f fd)(hZ:ar P w K mg base c7 c.C "guests" 1 ["self"] (nj c.C))(cV:ar P w K mg base c7 c.C "story" 1 ["self"] (kh c.C))(h8:ar P w K mg base c7 c.C "moment" 1 ["self"] (nv c.C))(iR:ar P w K mg base c7 c.C "pairs" 2 ["self"] (nk c.C))(bY:ar P w K mg base c7 c.C "inside" 1 ["self","guest"] (iI c.C))(bj:ar P w K mg base (fb P w) c.C "wears" 3 ["self","guest"] (jd c))(cG:ar P w K mg base (fb P w) c.C "wearer" 3 ["self","mask"] (iJ c)) : bd P w K mg base c7 4 f fd ["_law_hall","_law_worn","_law_met","_law_story"] (kg c):=by
 refine F.ok kS (fun vs H Q E h=>?_) (fun cdv A outer s H vs Q E hr h=>?_)
 ·obtain⟨p,w,m,ls,B,st,ml,L,rfl,_⟩:=h
  rfl
 ·obtain⟨p,w,m,ls,B,st,ml,L,rfl,S,wB,hw,hm,hs,G,al,ci,mo,hL,hml,hwl,sm,k⟩:=h
  have hu:=dJ hr
  refine⟨_,ah (br (PW.pt (jM (aw (rn 1 (xE hr (by decide))) (lE hZ (pv 0) U.cl hr.m dQ) (cL (fF rfl) (by rfl) T.sorted J0 (gK (pv 1))) (aI _)) (jN (aw (rn 1 (xE hr (by decide))) (lE cV (pv 0) U.cl hr.m dQ) (pv 3) (aI _))))) (aj (ax (iF))) (aM)) (
   ah (br (PW.pt (jM (aw pf (lE h8 (pv 0) U.cl hr.m dQ) (cL dy (by rfl) T.len KS (gK (pv 3))) (aI _)) (jN (aw (rn 1 (xE hr (by decide))) (lE iR (pv 0) U.cl hr.m dQ) (cL (ui rfl) (by rfl) T.sorted J0 (gK (pv 2))) (aI _))))) (aj (ax (iF))) (aM)) (
   ah (zc (dL Jw rfl (y7 (pv 1)) (j7 4 kS.nd) (ah (br (aw Ah (c8 bY (pv 0) U.cl hr.m dQ (gK (pv 4))) (iF) (aI _)) (aj (ax (iF))) (aM)) (
   aj (br (PW.pt (jM (aw pf (c8 bj (pv 0) U.cl hr.m wx (gK (pv 4))) (i6 hu (pv 1) (pv 4) (fun _ _=>rfl)) (aI _)) (jN (aw pf (c8 cG (pv 0) U.cl hr.m wx (gK (i6 hu (pv 1) (pv 4) (fun _ _=>rfl)))) (pv 4) (aI _))))) (aj (ax (iF))) (aM)))))) (
   aj (ax (iF))))),?_⟩
  have nos:∀ (B:HA)(m:Str),¬ m="worn"->¬ m="holders"->¬ m="circles"->¬ m="deeds"->(aH B).lookup m=none:=fun B m h1 h2 h3 h4=>kL B h1 h2 h3 h4;have nG:∀ B:HA,(aH B).lookup ("guests" : Str)=none:=fun B=>l7 B (by decide +kernel);have nM:∀ B:HA,(aH B).lookup ("moment" : Str)=none:=fun B=>l7 B (by decide +kernel);have nI:∀ B:HA,(aH B).lookup ("inside" : Str)=none:=fun B=>l7 B (by decide +kernel);have nS:∀ B:HA,(aH B).lookup ("story" : Str)=none:=fun B=>l7 B (by decide +kernel);have nW:∀ B:HA,(aH B).lookup ("wears" : Str)=none:=fun B=>l7 B (by decide +kernel);have nR:∀ B:HA,(aH B).lookup ("wearer" : Str)=none:=fun B=>l7 B (by decide +kernel);have nT:∀ B:HA,(aH B).lookup ("met" : Str)=none:=fun B=>l7 B (by decide +kernel);have nP:∀ B:HA,(aH B).lookup ("pairs" : Str)=none:=fun B=>l7 B (by decide +kernel);have nQ:∀ B:HA,(aH B).lookup ("partners" : Str)=none:=fun B=>l7 B (by decide +kernel)
  have two:(2:Nat)<=sizeLine:=by decide
  have nil0:(0:Nat)<=sizeLine:=IX _
  have dkk:∀ wl:List (Int×Int),(dk wl).map (·.1)=(ay wl).map Sum.inl:=fun wl=>by unfold dk ay;rw[Jx,Jx];rfl
  have szl:(ay st.worn).length<64:=by unfold ay;rw[Ir];omega
  refine⟨_,rfl,p,B.dx,_,rfl,S.ob,nG B,p,B,_,rfl,S,hwl,fun l1 hl1=>?_⟩;have s1:=ai (o:=.lst ((b7 (ay st.worn)).map V.int)) hl1;have h1:upd H l1 (.lst ((b7 (ay st.worn)).map V.int)) l1=some (.lst ((b7 (ay st.worn)).map V.int)):=af;generalize upd H l1 (.lst ((b7 (ay st.worn)).map V.int))=H1 at s1 h1 ⊢;refine⟨_,rfl,w,_,ay st.worn,rfl,s1 _ _ hw,dkk _,szl,fun l2 hl2=>?_⟩;have s2:=ai (o:=.lst ((b7 (ay st.worn)).map V.int)) hl2;refine⟨l1,l2,_,_,rfl,rfl,zf (bF.of (s2 _ _ h1)),zf (bF.of af),fun b hb=>⟨_,rfl,?_⟩⟩;rw[show (if true=true then !b else b)=false by rw[hb.mpr rfl];rfl];have S02:=s1.trans s2;generalize upd H1 l2 (.lst ((b7 (ay st.worn)).map V.int))=H2 at S02 ⊢;have hS2:=S.mono S02;refine aR ⟨_,rfl,p,B.dx,_,rfl,hS2.ob,nS B,p,B,_,rfl,hS2,fun l3 H3 hl3 s3 d3=>⟨_,rfl,l3,ls,_,_,rfl,rfl,wF d3,wF (bq hs (S02.trans s3)),fun b hb=>⟨_,rfl,?_⟩⟩⟩;rw[show (if true=true then !b else b)=false by rw[hb.mpr rfl];rfl];have S03:=S02.trans s3;have hS3:=S.mono S03;obtain⟨as,hls3,hp3⟩:=bq hs S03;refine aR ⟨_,rfl,p,B.dx,_,rfl,hS3.ob,nM B,p,B,_,rfl,hS3,_,rfl,ls,_,rfl,.inl (bF.of hls3),rfl,_,rfl,?_⟩;rw[Ir,Ix hp3,IG rfl]
  have pl:(eF st.circ).length<=1000:=by
   have nd1:(eF st.circ).Nodup:=(mJ ci).imp fun {a b} z e=>by rw[e,Qs.ltP_irr]at z;cases z
   have:=((List.perm_ext_iff_of_nodup nd1 mo.nd).mpr fun x=>tT ci al mo x).length_eq;omega
  refine aR ⟨_,rfl,p,B.dx,_,rfl,hS3.ob,nP B,p,B,st,L,rfl,hS3,ci,hL,pl,fun l4 H4 hl4 s4 r4=>⟨_,rfl,m,ml,rfl,(S03.trans s4) _ _ hm,mo.nd,hml,fun l5 qs H5 hl5 s5 r5 pm so=>⟨l4,l5,_,_,rfl,rfl,jO (r4.mono s5),jO r5,fun b hb=>⟨_,rfl,?_⟩⟩⟩⟩;rw[show (if true=true then !b else b)=false by rw[hb.mpr (by rw[BB ci al mo pm so])];rfl];have S05:=(S03.trans s4).trans s5;refine aR ⟨_,rfl,w,_,rfl,S05 _ _ hw,fun o=>?_⟩
  have kp:∀ x u,H5 x=some u->x≠w->(upd H5 w (.frz o (.dK (dk st.worn)))) x=some u:=fun x u e n=>by rw[ag n];exact e
  have hw6:(upd H5 w (.frz o (.dK (dk st.worn)))) w=some (.frz o (.dK (dk st.worn))):=af;have S6:az c.C (upd H5 w (.frz o (.dK (dk st.worn)))) p B st:=(S.mono S05).kept (fp:=[w]) (fun b u e n=>kp b u e (fun z=>n (by rw[z];exact IJ))) (fun z=>by have ob:=(S.mono S05).ob;rw[IB.mp z,S05 _ _ hw]at ob;cases ob) (fun b hb z=>wB (by rw[<-IB.mp z];exact hb)) (fun b xs e z=>by rw[IB.mp z,S05 _ _ hw]at e;cases e);generalize upd H5 w (.frz o (.dK (dk st.worn)))=H6 at kp hw6 S6 ⊢
  refine vH (d:=w) (o:=o) (kvs:=dk st.worn) (fun i σ HH=>HH=H6/\∃ v:Option V,σ=[some (.ref p),some (.ref w),some (.ref m),some (.ref ls),v])
   ⟨rfl,none,rfl⟩ (fun i σ HH _ ⟨e,_⟩=>by rw[e];exact hw6) ?_ ?_
  ·rintro i y σ HH hi ⟨rfl,v,rfl⟩
   obtain⟨q,hq,rfl⟩:=bT hi;have hmem:=IV hq;have lk:look st.worn q.1=some q.2:=jE G.wn hmem;have lh:=(G.wh q.1 q.2).mp lk;have sg:bK q.1:=sm _ (Ku (f:=(·.1)) hmem);have sq:bK q.2:=sm _ (G.ow _ _ lk);have dg:da HH w (.int q.1) (some (.int q.2)):=.inl ⟨dk st.worn,Sum.inl q.1,.inr ⟨o,hw6⟩,rfl,by rw[dH,lk];rfl⟩;refine⟨_,rfl,p,B.dx,_,rfl,S6.ob,nI B,_,rfl,p,B,st,q.1,rfl,S6,_,_,rfl,rfl,_,rfl,?_⟩;rw[lk];refine aR ⟨_,rfl,p,B.dx,_,rfl,S6.ob,nW B,_,rfl,p,B,st,q.1,rfl,S6,sg,?_⟩;rw[lk];refine⟨_,rfl,_,rfl,w,_,rfl,dg,rfl,_,rfl,?_⟩;rw[IG rfl];refine aR ⟨_,rfl,p,B.dx,_,rfl,S6.ob,nR B,_,rfl,_,rfl,w,_,rfl,dg,p,B,st,q.2,rfl,S6,sq,?_⟩;rw[lh];refine⟨_,rfl,rfl,_,rfl,?_⟩;rw[show (!decide (V.int q.1=kV (Sum.inl q.1,V.int q.2).1))=false by show (!decide (V.int q.1=V.int q.1))=false;simp];exact aR ⟨rfl,_,rfl⟩
  ·rintro σ HH ⟨rfl,v,rfl⟩
   refine⟨w,o,_,hw6,fun o' u' z=>?_,k _ fun x u e=>?_⟩
   ·have z:H w=some (.frz o' u'):=z
    rw[hw]at z;cases z
   ·by_cases hx:x=w
    ·rw[hx,af]
     rw[hx,hw]at e;exact e
    ·rw[ag hx]
     exact kp x u (S05 _ _ e) hx
theorem rg (F:d6 K "_law_any_row" "_law_any_row" eP f fd)(bp:aG P w K mg base "_law_guest" 2 ["_law_k","_law_cell"] jb) : bd P w K mg base c7 3 f fd ["_law_draws_here","_law_cell"] m7:=by
 refine F.ok rH (fun vs H Q E h=>?_) (fun cdv A outer s H vs Q E hr h=>?_)
 ·obtain⟨l,ds,c0,rfl,_⟩:=h
  rfl
 ·obtain⟨l,ds,c0,rfl,hl,hd,h100,k⟩:=h
  have two:(2:Nat)<=sizeLine:=by decide
  refine⟨_,aj (ax (p6 (so:=ao eP) (N:=kM) (N':=["_law_drawn","_law_cell"]) (src:=[none,some 1]) rfl rfl Et rfl (dj (pv 0)) (fun cl C s2 H2 ex=>⟨j7 0 (show (["_law_drawn","_law_cell"]:List Str).Nodup by decide +kernel),j9,aS (dP (bJ bp hr.m rfl (dP (aL bN (pv 0) (am)) (pv 1))) (bJ bp hr.m rfl (dP (aL bN (aL dC (pv 0) (am)) (am)) (pv 1))))⟩))),?_⟩;refine⟨_,rfl,l,rfl,⟨_,bF.of hl⟩,fun q hq=>?_⟩;refine An (rest:=[some (.int c0)]) (f:=V.int) (pr:=Ep c0) (zs:=ds) hq hl (by omega) (fun i z HK Q' hz sK k'=>?_) (fun H1 s1 row1=>k q H1 hq s1 row1);have z0:=hd z (IV hz);have b1:=JB z (show (14:Int)≠0 by decide);have b2:=Js z (show (0:Int)<14 by decide);have b3:=JB (z/14) (show (14:Int)≠0 by decide);have b4:=Js (z/14) (show (0:Int)<14 by decide);refine⟨_,rfl,_,_,rfl,rfl,by show (0:Int)<14;decide,_,rfl,_,_,rfl,⟨b1,by omega⟩,?_⟩;exact⟨_,rfl,_,_,rfl,rfl,⟨by decide,by decide⟩,_,_,rfl,rfl,by show (0:Int)<14;decide,_,rfl,_,_,rfl,⟨b3,by omega⟩,two,fun t ht=>k' t ht⟩
theorem wo (F:d6 K "_law_sift" "_law_sift" jS f fd)(jw:aG P w K mg base "_law_fresh" 2 ["_law_row","_law_worn","_law_met"] ni) : bd P w K mg base c7 3 f fd ["_law_row","_law_worn","_law_met"] vc:=by
 refine F.ok gS (fun vs H Q E h=>?_) (fun cdv A outer s H vs Q E hr h=>?_)
 ·obtain⟨l,w,m,W,ml,ps,rfl,_⟩:=h
  rfl
 ·obtain⟨l,w,m,W,ml,ps,rfl,row,hw,hm,h100,k⟩:=h
  have nil0:(0:Nat)<=sizeLine:=IX _
  have two:(2:Nat)<=sizeLine:=by decide
  have one:(1:Nat)<=sizeLine:=by decide
  refine⟨_,ah (bA 3 gS.nd (eG aN)) (
   ah (dL Jw rfl (dj (pv 0)) (gf rfl (bf (j7 4 gS.nd) (bf (j7 5 gS.nd) dR))) (aj (br (oG (bJ jw hr.m rfl (AI (aL lv (pv 3) (eG (gK (aS (dP (pv 4) (pv 5)))))) (pv 1) (pv 2)))) (aj (a6 (jK Jj Jf Jg cK (pv 3) (gK (aS (dP (pv 4) (pv 5))))))) (aM)))) (
   aj (ax (pv 3)))),?_⟩
  obtain⟨as,hl,hp⟩:=id row;have hpl:=Ix hp;refine⟨nil0,fun q hq=>?_⟩;have s1:=ai (o:=.lst []) hq
  refine⟨_,rfl,l,rfl,⟨_,bF.of (s1 _ _ hl)⟩,cC (K:=K) (a:=l) (xs:=as.map V.ref) (fun i σ HH=>∃ (v1 v2:Option V)(qs:List (Int×Int)),σ=[some (.ref l),some (.ref w),some (.ref m),some (.ref q),v1,v2]/\aA H HH/\aT HH q qs/\(∀ p∈qs,p∈ps)/\qs.length<=i)
   ⟨none,none,[],rfl,s1,⟨[],af,.nil⟩,(fun p hp=>by cases hp),Iv _⟩ (fun i σ HH _ ⟨_,_,_,_,s2,_⟩=>bF.of (s2 _ _ hl)) ?_ ?_⟩
  ·rintro i y σ HH hi ⟨v1,v2,qs,rfl,t1,⟨bs,hb,pb⟩,on,pl⟩
   obtain⟨b,hb0,rfl⟩:=bT hi;obtain⟨p,hp0,hB⟩:=paired_get hp hb0;have il:=(List.getElem?_eq_some_iff.mp hp0).1;refine⟨b,_,rfl,c6.of (t1 _ _ hB),rfl,_,_,rfl,_,_,rfl,rfl,?_⟩;refine⟨_,rfl,_,rfl,_,rfl,two,fun t2 ht2=>⟨one,fun l2 hl2=>?_⟩⟩;have g1:=ai (o:=.tup [.int p.1,.int p.2]) ht2;have g2:=ai (o:=.lst [.ref t2]) hl2;have r1:aT (upd (upd HH t2 (.tup [.int p.1,.int p.2])) l2 (.lst [.ref t2])) l2 [p]:=⟨[t2],af,.cons (g2 _ _ af) .nil⟩;have g12:=g1.trans g2;have r0:aT (upd (upd HH t2 (.tup [.int p.1,.int p.2])) l2 (.lst [.ref t2])) q qs:=aT.mono ⟨bs,hb,pb⟩ g12;generalize upd (upd HH t2 (.tup [.int p.1,.int p.2])) l2 (.lst [.ref t2])=H2 at r1 r0 g12 ⊢;refine mX r0 r1 (by rw[IY];omega) fun l3 H3 hl3 s3 row3=>?_;have t3:=(t1.trans g12).trans s3;refine⟨_,rfl,_,rfl,l3,w,m,W,ml,_,rfl,row3,t3 _ _ hw,t3 _ _ hm,by rw[ID,IY];omega,fun bb H4 s4 _=>?_⟩;obtain⟨cs,hc,pc⟩:=r0.mono (s3.trans s4);have cl:=Ix pc;have t4:=t3.trans s4
   cases bb with
   | false=>exact⟨_,rfl,aR ⟨_,_,qs,rfl,t4,⟨cs,hc,pc⟩,on,by omega⟩⟩
   | true =>
    refine⟨_,rfl,bI ⟨_,rfl,.inl ⟨rfl,_,bF.of hc⟩,_,rfl,_,rfl,two,fun t ht=>⟨q,_,_,rfl,rfl,(ai ht) _ _ hc,by rw[Ir];exact aW (by omega),?_⟩⟩⟩;refine⟨_,_,qs++[p],rfl,cF (t4.trans (ai ht)) hq,mY hc pc ht,fun z hz=>?_,by rw[ID,IY];omega⟩;rcases IP.mp hz with u | u
    ·exact on z u
    ·rw[IB.mp u];exact IV hp0
  ·rintro σ HH ⟨v1,v2,qs,rfl,t1,row2,on,pl⟩
   rw[Ir,hpl]at pl;exact⟨_,rfl,k q HH qs hq t1 row2 on pl⟩
theorem rh (F:d6 K "_law_bad_row" "_law_bad_row" gF f fd)(bP:aG P w K mg base "_law_cell_at" 1 ["_law_script","_law_k"] (rM K))(cR:aG P w K mg base "_law_size" 1 ["_law_cell"] oM)(gT:aG P w K mg base "_law_any_row" 3 ["_law_draws_here","_law_cell"] m7)(b8:aG P w K mg base "_law_draws_from" 3 ["_law_script","_law_start","_law_most","_law_base"] (rN K))(k6:aG P w K mg base "_law_sift" 3 ["_law_row","_law_worn","_law_met"] vc)(bp:aG P w K mg base "_law_guest" 2 ["_law_k","_law_cell"] jb) : bd P w K mg base c7 4 f fd ["_law_script","_law_start","_law_worn","_law_met"] (m8 K):=by
 refine F.ok bE (fun vs H Q E h=>?_) (fun cdv A outer s H vs Q E hr h=>?_)
 ·obtain⟨a,w,m,ns,st,W,ml,rfl,_⟩:=h
  rfl
 ·obtain⟨a,w,m,ns,st,W,ml,rfl,hS,h60,hw,hm,k⟩:=h
  have two:(2:Nat)<=sizeLine:=by decide
  have one:(1:Nat)<=sizeLine:=by decide
  refine⟨_,ah (bA 4 bE.nd (bJ bP hr.m rfl (dP (pv 0) (am)))) (
   ah (bA 5 bE.nd (bJ cR hr.m rfl (gK (bJ bP hr.m rfl (dP (pv 0) (pv 1)))))) (
   ah (bA 6 bE.nd (bJ gT hr.m rfl (dP (bJ b8 hr.m rfl (aq (pv 0) (aq (aL eE (pv 1) (am)) (aq (am) (aq (am) aN))))) (pv 4)))) (
   ah (br (aw D7 (aL bN (pv 5) (am)) (am) (aI _)) (aj (bA 6 bE.nd (bJ k6 hr.m rfl (AI (pv 6) (pv 2) (pv 3))))) (aM)) (
   ah (bA 7 bE.nd (aL bN (aL dC (pv 5) (am)) (aL eE (cL dy (by rfl) T.len KS (gK (pv 6))) (am)))) (
   ah (bA 8 bE.nd (aS (dP (bJ bp hr.m rfl (dP (aL bN (aL dC (pv 5) (am)) (am)) (pv 4))) (bJ bp hr.m rfl (dP (aL bN (aL dC (pv 5) (am)) (am)) (pv 4)))))) (
   ah (br (aw cQ (aL bN (pv 5) (am)) (am) (aI _)) (aj (bA 6 bE.nd (aL lv (aL lv (gd ka (pv 6) j8 (gQ (pv 7))) (eG (gK (pv 8)))) (gd ka (pv 6) (gQ (pv 7)) j8)))) (aM)) (
   ah (br (PW.pt (gj (aw cQ (aL bN (pv 5) (am)) (am) (aI _)) (fK (rA (pv 6) (fun _=>rfl))))) (ah (bA 9 bE.nd (aX mj (pv 6) (aL bN (aL dC (pv 5) (am)) (cL dy (by rfl) T.len KS (gK (pv 6)))) (fun _ _=>rfl))) (
   aj (bA 6 bE.nd (aL lv (aL lv (gd ka (pv 6) j8 (gQ (pv 7))) (eG (gK (aS (dP (aX aQ (pv 9) (am) (fun _ _=>rfl)) (aX aQ (pv 9) (am) (fun _ _=>rfl))))))) (gd ka (pv 6) (gQ (pv 7)) j8))))) (aM)) (
   aj (ax (pv 6)))))))))),?_⟩
  refine⟨_,rfl,a,ns,1,rfl,hS,by decide,?_⟩;generalize cY ns 1=cn at k ⊢;refine⟨_,rfl,_,rfl,a,ns,(st:Nat),rfl,hS,by omega,_,rfl,?_⟩
  have be0:0<=dw (cY ns (st:Nat)):=by unfold dw;split<;>omega
  generalize dw (cY ns (st:Nat))=be at be0 ⊢;refine⟨_,rfl,_,rfl,_,_,rfl,rfl,a,ns,_,24,196,rfl,hS,⟨by omega,by omega⟩,⟨by decide,by decide⟩,⟨by decide,by decide⟩,fun l H1 ds hl s1 hl1 hds hdl=>?_⟩;refine⟨_,rfl,l,ds,cn,rfl,hl1,fun d hd=>(hds d hd).1,by omega,fun q0 H2 hq0 s2 row2=>?_⟩;have s02:=s1.trans s2;have g14:∀ z:Int,0<=z%14/\z%14<14:=fun z=>⟨JB z (by decide),Js z (by decide)⟩
  have on2:∀ p∈ds.map (Ep cn),Gs cn p:=fun p hp=>by
   obtain⟨d,_,rfl⟩:=Je.mp hp;exact⟨_,_,g14 d,g14 (d/14),rfl⟩
  refine⟨_,rfl,_,_,rfl,rfl,by show (0:Int)<4;decide,_,_,rfl,rfl,_,rfl,?_⟩
  apply wM (Hx:=H) (pr:=Gs cn) (n:=24)
  ·intro rest
   refine uz (fun _=>?_) (fun _=>?_)
   ·refine⟨_,rfl,_,rfl,_,rfl,q0,w,m,W,ml,_,rfl,row2,s02 _ _ hw,s02 _ _ hm,by rw[Ir];omega,fun q H3 rs hq s3 row3 on3 len3=>?_⟩
    exact rest q H3 rs (s02.free hq) (s02.trans s3) row3 (fun p hp=>on2 p (on3 p hp)) (by rw[Ir]at len3;omega)
   ·exact rest q0 H2 _ (s1.free hq0) s02 row2 on2 (by rw[Ir];omega)
  intro q HH rs hq sH row on len;obtain⟨as,hl2,hp2⟩:=id row;have asl:=Ix hp2;refine⟨_,rfl,_,_,rfl,rfl,⟨by decide,by decide⟩,_,rfl,q,_,rfl,.inl (bF.of hl2),_,_,rfl,rfl,_,_,rfl,rfl,by show (0:Int)<((as.map V.ref).length:Int)+1;omega,?_⟩;generalize be/12%((((as.map V.ref).length:Nat):Int)+1)=pl;refine⟨_,rfl,_,_,rfl,rfl,⟨by decide,by decide⟩,_,_,rfl,rfl,by show (0:Int)<14;decide,_,rfl,_,_,rfl,⟨(g14 _).1,by have:=(g14 (be/7)).2;omega⟩,?_⟩;refine⟨_,rfl,_,_,rfl,rfl,⟨by decide,by decide⟩,_,_,rfl,rfl,by show (0:Int)<14;decide,_,rfl,_,_,rfl,⟨(g14 _).1,by have:=(g14 (be/97)).2;omega⟩,two,fun t ht=>?_⟩;have sT:=ai (o:=.tup [.int (gM (be/7%14) cn),.int (gM (be/97%14) cn)]) ht;have hTT:upd HH t (.tup [.int (gM (be/7%14) cn),.int (gM (be/97%14) cn)]) t=some (.tup [.int (gM (be/7%14) cn),.int (gM (be/97%14) cn)]):=af;have row:=row.mono sT;have sH:=sH.trans sT;have gsp:Gs cn (gM (be/7%14) cn,gM (be/97%14) cn):=⟨_,_,g14 _,g14 _,rfl⟩;generalize upd HH t (.tup [.int (gM (be/7%14) cn),.int (gM (be/97%14) cn)])=H4 at sT hTT row sH ⊢;refine⟨_,rfl,_,_,rfl,rfl,by show (0:Int)<4;decide,rfl,_,rfl,?_⟩
  have mm:∀ {rs r1 r4:List (Int×Int)}{u v:Int},(∀ p∈rs,Gs cn p)->(∀ p∈r1,p∈rs)->(∀ p∈r4,p∈rs)->Gs cn (u,v)->∀ p∈(r1++[(u,v)])++r4,Gs cn p:=fun {rs r1 r4 u v} o o1 o4 g p hp=>by
   rcases IP.mp hp with z | z
   ·rcases IP.mp z with z | z
    ·exact o p (o1 p z)
    ·rw[IB.mp z];exact g
   ·exact o p (o4 p z)
  have hqH:H q=none:=hq
  apply wM (Hx:=H) (pr:=Gs cn) (n:=49)
  ·intro rest
   refine uz (fun _=>?_) (fun _=>?_)
   ·refine⟨_,rfl,_,rfl,_,rfl,p7 row fun p1 G1 r1 n1 g1 w1 o1 l1=>⟨_,rfl,one,fun l5 hl5=>?_⟩⟩
    have g2:=ai (o:=.lst [.ref t]) hl5;have w2:aT (upd G1 l5 (.lst [.ref t])) l5 [(gM (be/7%14) cn,gM (be/97%14) cn)]:=⟨[t],af,.cons (g2 _ _ (g1 _ _ hTT)) .nil⟩;refine mX (w1.mono g2) w2 (by rw[IY];omega) fun p3 G3 n3 g3 w3=>?_;have g13:=(g1.trans g2).trans g3;refine⟨_,rfl,_,rfl,_,rfl,Bu <| p7 (row.mono g13) fun p4 G4 r4 n4 g4 w4 o4 l4=>?_⟩;refine mX (w3.mono g4) w4 (by rw[ID,IY];omega) fun p5 G5 n5 g5 w5=>?_;exact rest p5 G5 _ ((sH.trans (g13.trans g4)).free n5) ((sH.trans (g13.trans g4)).trans g5) w5 (mm on o1 o4 gsp) (by rw[ID,ID,IY];omega)
   ·exact rest q H4 rs hqH sH row on (by omega)
  clear row on sH hTT sT hp2 hl2 hq;intro q HH rs hq sH row on len;obtain⟨as,hl2,hp2⟩:=id row;have asl:=Ix hp2;refine⟨_,rfl,_,_,rfl,rfl,by show (0:Int)<4;decide,rfl,_,rfl,?_⟩;refine CL ⟨_,rfl,k q HH rs hq sH row on (by omega)⟩ (fun rest _=>?_)
  by_cases ae:as=[]
  ·subst ae
   exact⟨_,rfl,false,.inl ⟨_,bF.of hl2,by simp⟩,aR rest⟩
  have ap:0<as.length:=List.length_pos_iff.mpr ae;have m0:=JB (be/5) (show ((as.length:Nat):Int)≠0 by omega);have m1:=Js (be/5) (show (0:Int)<((as.length:Nat):Int) by omega);obtain⟨j,hj⟩:=Int.eq_ofNat_of_zero_le m0
  have jl:j<as.length:=by omega
  obtain⟨b,hb⟩:∃ b,as[j]? = some b:=⟨as[j],List.getElem?_eq_getElem jl⟩;obtain⟨e,he,hB⟩:=paired_get hp2 hb
  have at1:rZ (as.map V.ref) (be/5%(((as.map V.ref).length:Nat):Int))=some (V.ref b):=by rw[Ir,hj];exact df (by rw[List.getElem?_map,hb];rfl)
  refine⟨_,rfl,true,.inl ⟨_,bF.of hl2,by simp[ae]⟩,bI ?_⟩;refine⟨_,rfl,_,rfl,_,_,rfl,rfl,⟨by decide,by decide⟩,_,rfl,q,_,rfl,.inl (bF.of hl2),_,_,rfl,rfl,by show (0:Int)<(((as.map V.ref).length:Nat):Int);rw[Ir];omega,q,_,_,_,rfl,rfl,bF.of hl2,at1,?_⟩;refine⟨_,rfl,_,rfl,_,rfl,p7 row fun p1 G1 r1 n1 g1 w1 o1 l1=>?_⟩;have hB1:=g1 _ _ hB;refine⟨_,rfl,b,_,_,_,rfl,rfl,c6.of hB1,(df (j:=1) rfl:rZ [V.int e.1,V.int e.2] 1=_),_,rfl,b,_,_,_,rfl,rfl,c6.of hB1,(df (j:=0) rfl:rZ [V.int e.1,V.int e.2] 0=_),two,fun t5 ht5=>⟨one,fun l5 hl5=>?_⟩⟩;have g2:=(ai (o:=.tup [.int e.2,.int e.1]) ht5).trans (ai (o:=.lst [.ref t5]) hl5);have w2:aT (upd (upd G1 t5 (.tup [.int e.2,.int e.1])) l5 (.lst [.ref t5])) l5 [(e.2,e.1)]:=⟨[t5],af,.cons ((ai hl5) _ _ af) .nil⟩;refine mX (w1.mono g2) w2 (by rw[IY];omega) fun p3 G3 n3 g3 w3=>?_;have g13:=(g1.trans g2).trans g3;refine⟨_,rfl,_,rfl,_,rfl,Bu <| p7 (row.mono g13) fun p4 G4 r4 n4 g4 w4 o4 l4=>?_⟩;refine mX (w3.mono g4) w4 (by rw[ID,IY];omega) fun p5 G5 n5 g5 w5=>?_
  have gE:Gs cn (e.2,e.1):=by
   obtain⟨i1,j1,h1,h2,h3⟩:=on e (IV he);exact⟨j1,i1,h2,h1,by rw[h3]⟩
  exact⟨_,rfl,k p5 G5 _ ((sH.trans (g13.trans g4)).free n5) ((sH.trans (g13.trans g4)).trans g5) w5 (mm on o1 o4 gE) (by rw[ID,ID,IY];omega)⟩
theorem sE (F:d6 K "_law_danced" "_law_danced" im f fd)(Cdance:de P w K mg base "dance" 6 ["hall","row"] (p9 c)) : bd P w K mg base c7 7 f fd ["_law_hall","_law_row"] (m9 c):=by
 refine F.ok bZ (fun vs H Q E h=>?_) (fun cdv A outer s H vs Q E hr h=>?_)
 ·obtain⟨p,l,B,es,ps,L,rfl,_⟩:=h
  rfl
 ·obtain⟨p,l,B,es,ps,L,rfl,S,row,ok,lB,k⟩:=h
  have two:(2:Nat)<=sizeLine:=by decide
  refine⟨_,ah (bA 2 bZ.nd (aS (dP (aO) (eX)))) (
   ah (bA 3 bZ.nd (eX)) (
   ah (Hc (i:=3) Cdance hr.m rfl (dP (pv 0) (pv 1)) rfl rfl bZ.nd rfl (Or.inl rfl) (mO rfl U.mS (fun ea oe=>aj (bA 2 bZ.nd (aS (dP (aO) (eX))))) (mO rfl U.mT (fun ea oe=>aj (bA 2 bZ.nd (aS (dP (aO) (eX))))) (Gh (i:=4) rfl U.mN bZ.nd rfl rfl (fun ea oe CC od us hc ho hd=>aj (bA 2 bZ.nd (aS (dP (aO) (Ds K (ea:=ea) (oe:=oe) IJ hc ho hd (pv 4) rfl))))) BN)))) (
   ah (br (gi (Dq (pv 3))) (aj (ax (aS (dP (aO) (eX))))) (aM)) (
   aj (ax (pv 2)))))),?_⟩
  refine⟨two,fun t0 ht0=>?_⟩;have s0:=ai (o:=.tup [.str "done",.non]) ht0;have hT0:upd H t0 (.tup [.str "done",.non]) t0=some (.tup [.str "done",.non]):=af;generalize upd H t0 (.tup [.str "done",.non])=H0 at s0 hT0 ⊢;refine⟨_,rfl,_,rfl,p,l,B,es,ps,L,rfl,S.mono s0,row.mono s0,ok,lB,?_⟩
  by_cases hb:d7 (aJ es) ps=.done
  ·rw[Iq hb]
   intro H1 mv;obtain⟨B',S',kp,f',tr⟩:=id mv;refine⟨_,rfl,_,rfl,aR ⟨_,rfl,k t0 H1 ht0 (by rw[hb];exact kp _ _ hT0 ((S.mono s0).tup hT0)) ?_⟩⟩;unfold nO;rw[Iq hb];exact eV.pre s0 mv
  ·rw[Ip hb]
   have fin:∀ (o:rY)(H2:Hp),d7 (aJ es) ps=o->aA H0 H2->∀ r,H2 r=none->Q (.ref r) (upd H2 r (.tup (ky o))):=fun o H2 e s2 r hr2=>by
    have s3:=s0.trans s2;refine k r _ (s3.free hr2) (by rw[af,e]) ?_;unfold nO;rw[Ip hb];exact xQ S (s3.trans (ai hr2))
   cases ej:d7 (aJ es) ps with
   | done=>exact absurd ej hb
   | already=>exact absurd ej (uf ps _).1
   | masked=>exact absurd ej (uf ps _).2
   | same =>
    intro H2 s2;exact⟨_,VM.ss,bI ⟨two,fun r hr2=>⟨_,rfl,_,rfl,aR ⟨_,rfl,fin .same H2 ej s2 r hr2⟩⟩⟩⟩
   | met =>
    intro H2 s2;exact⟨_,VM.ts,aR ⟨_,VM.tt,bI ⟨two,fun r hr2=>⟨_,rfl,_,rfl,aR ⟨_,rfl,fin .met H2 ej s2 r hr2⟩⟩⟩⟩⟩
   | noguest g =>
    intro dx H2 s2 hx;refine⟨_,VM.ns,aR ⟨_,VM.nt,aR ⟨_,VM.nn,bI ⟨_,rfl,fun ea=>?_⟩⟩⟩⟩;refine⟨_,rfl,rfl,U.gN,dx,_,_,rfl,hx,rfl,?_⟩;exact⟨two,fun r hr2=>⟨_,rfl,_,rfl,aR ⟨_,rfl,fin (.noguest g) H2 ej s2 r hr2⟩⟩⟩
theorem wm (F:d6 K "_law_says" "_law_says" jR f fd) : bd P w K mg base c7 1 f fd ["_law_found","_law_due_here"] vb:=by
 refine F.ok wK (fun vs H Q E h=>?_) (fun cdv A outer s H vs Q E hr h=>?_)
 ·obtain⟨x,y,rfl,_⟩:=h
  rfl
 ·obtain⟨x,y,rfl,k⟩:=h
  refine⟨_,aj (ax (BC (cL AM (by rfl) T.isinstance PyProof.Rows.boot_isinstance (aq (pv 0) (aq (Dr (v:=.ty "bool") (by rfl) T.bool PyProof.Rows.boot_bool rfl) aN))) (BJ (p0 cQ (pv 0) (pv 1) (aI _))))),?_⟩;refine⟨_,rfl,_,_,_,true,rfl,lU.bl x,rfl,_,rfl,bI ?_⟩;exact⟨_,rfl,_,rfl,rfl,k⟩
theorem pO (F:d6 K "_law_walk_due" "_law_walk_due" fC f fd) : bd P w K mg base c7 1 f fd ["_law_story","_law_mask"] va:=by
 refine F.ok cx (fun vs H Q E h=>?_) (fun cdv A outer s H vs Q E hr h=>?_)
 ·obtain⟨ls,es,g,rfl,_⟩:=h
  rfl
 ·obtain⟨ls,es,g,rfl,hds,hl2,k⟩:=h
  have hu:=dJ hr;have nil0:(0:Nat)<=sizeLine:=IX _
  have two:(2:Nat)<=sizeLine:=by decide
  have one:(1:Nat)<=sizeLine:=by decide
  refine⟨_,ah (bA 2 cx.nd (eG aN)) (
   ah (dL Jw rfl (y9 (by rfl) T.enumerate (gK (pv 0))) (gf rfl (bf (j7 3 cx.nd) (bf (j7 4 cx.nd) dR))) (aj (br (aw (lz 1 (xE hr (by decide))) (pv 4) (aS (dP (aO) (pv 1))) (aI _)) (aj (bA 2 cx.nd (eG (gK (aS (dP (aL eE (pv 3) (am)) (pv 1))))))) (aj (br (aw (lz 1 (xE hr (by decide))) (pv 4) (aS (dP (aO) (pv 1))) (aI _)) (aj (bA 2 cx.nd (eG aN))) (aj (br (PW.pt (gj (rA (pv 2) (fun _=>rfl)) (gj (aw cQ (aX aQ (pv 4) (am) (fun _ _=>rfl)) (aO) (aI _)) (fK (aw cQ (aX aQ (aX mj (pv 2) (y4 vg (am)) (fun _ _=>rfl)) (am) (fun _ _=>rfl)) (aX aQ (pv 4) (am) (fun _ _=>rfl)) (aI _)))))) (aj (a6 (jK Jj Jf Jg cK (pv 2) (gK (aS (dP (aL eE (pv 3) (am)) (aX aQ (pv 4) (am) (fun _ _=>rfl)))))))) (aj (br (PW.pt (gj (rA (pv 2) (fun _=>rfl)) (gj (aw cQ (aX aQ (pv 4) (am) (fun _ _=>rfl)) (aO) (aI _)) (fK (aw cQ (aX aQ (aX mj (pv 2) (y4 vg (am)) (fun _ _=>rfl)) (am) (fun _ _=>rfl)) (aX aQ (pv 4) (am) (fun _ _=>rfl)) (aI _)))))) (aj (a6 (jK Jj Jf Jg cK (pv 2) (gK (aS (dP (aL eE (pv 3) (am)) (aX aQ (pv 4) (am) (fun _ _=>rfl)))))))) (aM)))))))))) (
   aj (ax (pv 2)))),?_⟩
  obtain⟨qs,hq,hqp⟩:=id hds;have hql:=Ix hqp;refine⟨nil0,fun lw0 hlw0=>?_⟩;have s1:=ai (o:=.lst []) hlw0;have r1:aT (upd H lw0 (.lst [])) lw0 []:=⟨[],af,.nil⟩;generalize upd H lw0 (.lst [])=H1 at s1 r1 ⊢;refine⟨_,rfl,ls,rfl,⟨_,bF.of (s1 _ _ hq)⟩,?_⟩
  refine vI (K:=K) (a:=ls) (xs:=qs.map V.ref) (fun i σ HH=>∃ (lw:Addr)(W:List (Int×Int))(v3 v4:Option V),σ=[some (.ref ls),some (.int g),some (.ref lw),v3,v4]/\aA H HH/\H lw=none/\aT HH lw W/\W.length<=i/\pH g 0 es []=pH g i (es.drop i) W)
   ⟨lw0,[],none,none,rfl,s1,hlw0,r1,Iv _,rfl⟩ (fun i σ HH _ ⟨_,_,_,_,_,s2,_⟩=>bF.of (s2 _ _ hq)) ?_ ?_
  ·rintro i y σ HH T hi ⟨lw,W,v3,v4,rfl,sH,lwH,row,wl,ew⟩ hTn
   obtain⟨t,ht,rfl⟩:=bT hi;have hil:=(List.getElem?_eq_some_iff.mp ht).1;have sT:=ai (o:=.tup [.int (i:Int),.ref t]) hTn;have hTT:upd HH T (.tup [.int (i:Int),.ref t]) T=some (.tup [.int (i:Int),.ref t]):=af;have sH:=sH.trans sT;have row:=row.mono sT;generalize upd HH T (.tup [.int (i:Int),.ref t])=HH at hTT sH row ⊢;obtain⟨d,hd,hT0⟩:=paired_get hqp ht
   have hT:HH t=some (.tup (bz d)):=by rw[<-iW];exact sH _ _ hT0
   have ew2:=zM (g:=g) (W:=W) hd;rw[<-ew]at ew2;refine⟨T,_,rfl,c6.of hTT,rfl,_,_,rfl,_,_,rfl,rfl,?_⟩;refine⟨_,rfl,_,rfl,two,fun t1 ht1=>?_⟩;have s2:=ai (o:=.tup (bz (.come g))) ht1;have ht12:upd HH t1 (.tup (bz (.come g))) t1=some (.tup (bz (.come g))):=af;generalize hH2:upd HH t1 (.tup (bz (.come g)))=H2 at s2 ht12;rw[show upd HH t1 (.tup [.str "come",.int g])=H2 from hH2];refine⟨t,t1,_,_,rfl,rfl,eJ (s2 _ _ hT) (fQ d),eJ ht12 (fQ (.come g)),fun b hb=>⟨_,rfl,?_⟩⟩;rw[show (if false=true then !b else b)=decide (d=.come g) from vE hb]
   by_cases dc:d=.come g
   ·rw[IG dc]
    refine bI ⟨_,rfl,_,_,rfl,rfl,_,rfl,two,fun t3 ht3=>⟨one,fun l3 hl3=>?_⟩⟩;have sm:=(s2.trans (ai (o:=.tup [.int ((i:Int)+1),.int g]) ht3)).trans (ai (o:=.lst [.ref t3]) hl3);refine⟨l3,_,_,_,rfl,sH.trans sm,(sH.trans (s2.trans (ai ht3))).free hl3,DC ht3 hl3,by show 1<=i+1;omega,?_⟩;rw[ew2];unfold dh;rw[Iq dc]
   rw[IM dc];refine aR ⟨_,rfl,_,rfl,two,fun t4 ht4=>?_⟩;have s4:=ai (o:=.tup (bz (.go g))) ht4;have ht14:upd H2 t4 (.tup (bz (.go g))) t4=some (.tup (bz (.go g))):=af;generalize hH4:upd H2 t4 (.tup (bz (.go g)))=H4 at s4 ht14;rw[show upd H2 t4 (.tup [.str "go",.int g])=H4 from hH4];have s24:=s2.trans s4;have hT4:=s24 _ _ hT;refine⟨t,t4,_,_,rfl,rfl,eJ hT4 (fQ d),eJ ht14 (fQ (.go g)),fun b hb=>⟨_,rfl,?_⟩⟩;rw[show (if false=true then !b else b)=decide (d=.go g) from vE hb]
   by_cases dg:d=.go g
   ·rw[IG dg]
    refine bI ⟨nil0,fun l3 hl3=>?_⟩;refine⟨l3,[],_,_,rfl,(sH.trans s24).trans (ai hl3),(sH.trans s24).free hl3,⟨[],af,.nil⟩,IX _,?_⟩;rw[ew2];unfold dh;rw[Ip dc,Iq dg]
   rw[IM dg];have row4:=row.mono s24;have sH4:=sH.trans s24;have keep:dh g i d W=W->∃ (lw':Addr)(W:List (Int×Int))(v3 v4:Option V),([some (.ref ls),some (.int g),some (.ref lw),some (.int (i:Int)),some (.ref t)]:St)=[some (.ref ls),some (.int g),some (.ref lw'),v3,v4]/\aA H H4/\H lw'=none/\aT H4 lw' W/\W.length<=i+1/\pH g 0 es []=pH g (i+1) (es.drop (i+1)) W:=fun e=>⟨lw,W,_,_,rfl,sH4,lwH,row4,by omega,by rw[ew2,e]⟩;refine aR ?_
   by_cases hW:W=[]
   ·obtain⟨as,hlw,hpw⟩:=id row4
    have as0:as=[]:=List.length_eq_zero_iff.mp (by rw[Ix hpw,hW];rfl);rw[as0]at hlw
    have e0:dh g i d W=W:=by
     unfold dh;rw[Ip dc,Ip dg,hW];cases d<;>rfl
    exact⟨_,rfl,false,.inl ⟨_,bF.of hlw,by simp⟩,aR (aR ⟨_,rfl,false,.inl ⟨_,bF.of hlw,by simp⟩,aR (aR (keep e0))⟩)⟩
   obtain⟨xs,al,la,hlw,xl,at1,hal,lst⟩:=B9 row4 hW;have xne:xs≠[]:=fun z=>hW (List.length_eq_zero_iff.mp (by rw[<-xl,z];rfl))
   have tru:(true:Bool) = !xs.isEmpty:=by cases xs with | nil=>exact absurd rfl xne | cons a r=>rfl
   refine⟨_,rfl,true,.inl ⟨_,bF.of hlw,by first | exact tru | (simp[xne]) ⟩,bI ?_⟩
   cases d with
   | come h =>
    have a0:rZ (bz (.come h)) 0=some (V.str "come"):=df (j:=0) rfl
    have e0:dh g i (.come h) W=W:=by unfold dh;rw[Ip dc,Ip dg]
    exact⟨_,rfl,t,_,_,_,rfl,rfl,c6.of hT4,a0,rfl,_,rfl,yP D5 (aR ⟨_,rfl,true,.inl ⟨_,bF.of hlw,by first | exact tru | (simp[xne])⟩,bI ⟨_,rfl,t,_,_,_,rfl,rfl,c6.of hT4,a0,rfl,_,rfl,yP D5 (aR (keep e0))⟩⟩)⟩
   | go h =>
    have a0:rZ (bz (.go h)) 0=some (V.str "go"):=df (j:=0) rfl
    have e0:dh g i (.go h) W=W:=by unfold dh;rw[Ip dc,Ip dg]
    exact⟨_,rfl,t,_,_,_,rfl,rfl,c6.of hT4,a0,rfl,_,rfl,yP D6 (aR ⟨_,rfl,true,.inl ⟨_,bF.of hlw,by first | exact tru | (simp[xne])⟩,bI ⟨_,rfl,t,_,_,_,rfl,rfl,c6.of hT4,a0,rfl,_,rfl,yP D6 (aR (keep e0))⟩⟩)⟩
   | exch a b =>
    have a0:rZ (bz (.exch a b)) 0=some (V.str "exchange"):=df (j:=0) rfl;have a1:rZ (bz (.exch a b)) 1=some (V.int a):=df (j:=1) rfl;have a2:rZ (bz (.exch a b)) 2=some (V.int b):=df (j:=2) rfl;have l1:rZ [V.int la.1,V.int la.2] 1=some (V.int la.2):=df (j:=1) rfl
    have eD:dh g i (.exch a b) W=if jo W=some a then W++[((i:Int)+1,b)] else if jo W=some b then W++[((i:Int)+1,a)] else W:=by unfold dh;rw[Ip dc,Ip dg]
    rw[lst]at eD;obtain⟨as,hlw',hpw⟩:=id row4;rw[hlw]at hlw';cases hlw';have asl:=Ix hpw
    have add:∀ (z:Int)(t5:Addr),H4 t5=none->dh g i (.exch a b) W=W++[((i:Int)+1,z)]->∃ (lw':Addr)(W:List (Int×Int))(v3 v4:Option V),([some (.ref ls),some (.int g),some (.ref lw),some (.int (i:Int)),some (.ref t)]:St)=[some (.ref ls),some (.int g),some (.ref lw'),v3,v4]/\aA H (upd (upd H4 t5 (.tup [.int ((i:Int)+1),.int z])) lw (.lst (as.map V.ref++[V.ref t5])))/\H lw'=none/\aT (upd (upd H4 t5 (.tup [.int ((i:Int)+1),.int z])) lw (.lst (as.map V.ref++[V.ref t5]))) lw' W/\W.length<=i+1/\pH g 0 es []=pH g (i+1) (es.drop (i+1)) W:=fun z t5 ht5 e =>
     ⟨lw,_,_,_,rfl,cF (sH4.trans (ai ht5)) lwH,lwH,mY hlw hpw ht5,by rw[ID,IY];omega,by rw[ew2,e]⟩
    refine⟨_,rfl,t,_,_,_,rfl,rfl,c6.of hT4,a0,rfl,_,rfl,?_⟩;rw[IG rfl];refine bI ⟨_,rfl,_,rfl,lw,_,_,_,rfl,rfl,bF.of hlw,at1,al,_,_,_,rfl,rfl,c6.of hal,l1,_,rfl,t,_,_,_,rfl,rfl,c6.of hT4,a1,rfl,_,rfl,?_⟩
    by_cases ha:la.2=a
    ·rw[IG (Jk V.int ha)]
     rw[Iq (Jk some ha)]at eD;exact bI ⟨_,rfl,.inl ⟨rfl,_,bF.of hlw⟩,_,rfl,_,_,rfl,rfl,_,rfl,t,_,_,_,rfl,rfl,c6.of hT4,a2,two,fun t5 ht5=>⟨lw,_,_,rfl,rfl,(ai ht5) _ _ hlw,by rw[Ir];exact aW (by omega),add b t5 ht5 eD⟩⟩
    rw[IM (fun z=>ha (V.int.inj z))];rw[Ip (fun z=>ha (Iy z))]at eD;refine aR ⟨_,rfl,true,.inl ⟨_,bF.of hlw,by first | exact tru | (simp[xne])⟩,bI ⟨_,rfl,t,_,_,_,rfl,rfl,c6.of hT4,a0,rfl,_,rfl,?_⟩⟩;rw[IG rfl];refine bI ⟨_,rfl,_,rfl,lw,_,_,_,rfl,rfl,bF.of hlw,at1,al,_,_,_,rfl,rfl,c6.of hal,l1,_,rfl,t,_,_,_,rfl,rfl,c6.of hT4,a2,rfl,_,rfl,?_⟩
    by_cases hb:la.2=b
    ·rw[IG (Jk V.int hb)]
     rw[Iq (Jk some hb)]at eD;exact bI ⟨_,rfl,.inl ⟨rfl,_,bF.of hlw⟩,_,rfl,_,_,rfl,rfl,_,rfl,t,_,_,_,rfl,rfl,c6.of hT4,a1,two,fun t5 ht5=>⟨lw,_,_,rfl,rfl,(ai ht5) _ _ hlw,by rw[Ir];exact aW (by omega),add a t5 ht5 eD⟩⟩
    rw[IM (fun z=>hb (V.int.inj z))];rw[Ip (fun z=>hb (Iy z))]at eD;exact aR (keep eD)
  ·rintro σ HH ⟨lw,W,v3,v4,rfl,sH,lwH,row,wl,ew⟩
   rw[Ir,hql,List.drop_length]at ew;rw[ew]at k;exact⟨_,rfl,k lw HH lwH sH row⟩
theorem EQ (F:d6 K "law" "law" rS f fd)(gW:aG P w K mg base "_law_evening" 6 ["_law_script"] (i9 K))(gZ:aG P w K mg base "_law_hall_of" 7 ["_law_story"] (nu c))(gU:aG P w K mg base "_law_bad_row" 4 ["_law_script","_law_start","_law_worn","_law_met"] (m8 K))(Ctrouble:aG P w K mg base "trouble" 5 ["hall","row"] (ki c))(iM:aG P w K mg base "_law_danced" 7 ["_law_hall","_law_row"] (m9 c))(kZ:aG P w K mg base "_law_says" 1 ["_law_found","_law_due_here"] vb)(fO:aG P w K mg base "_law_due" 2 ["_law_worn","_law_met","_law_deed_here"] wT)(dW:aG P w K mg base "_law_after" 2 ["_law_worn","_law_met","_law_deed_here"] m6)(fD:aG P w K mg base "_law_stands" 4 ["_law_hall","_law_worn","_law_met","_law_story"] (kg c))(Cmask_walk:de P w K mg base "mask_walk" 8 ["hall","mask"] (qe c (·.hold) P0 dG bw))(fS:aG P w K mg base "_law_walk_due" 1 ["_law_story","_law_mask"] va) : bd P w K mg base c7 10 f fd ["_law_script"] (rO K P0):=by
 refine F.ok dU (fun vs H Q E h=>?_) (fun cdv A outer s H vs Q E hr h=>?_)
 ·obtain⟨a,ns,rfl,_⟩:=h
  rfl
 ·obtain⟨a,ns,rfl,hS,hlen,hTb,k⟩:=h
  have hu:=dJ hr
  refine⟨_,ah (E4 (bJ gW hr.m rfl (gK (gd ka (pv 0) j8 (gQ (am))))) (gf rfl (bf (j7 1 dU.nd) (bf (j7 2 dU.nd) (bf (j7 3 dU.nd) dR))))) (
   ah (bA 4 dU.nd (bJ gZ hr.m rfl (gK (pv 3)))) (
   ah (bA 5 dU.nd (bJ gU hr.m rfl (aq (pv 0) (aq (am) (aq (pv 1) (aq (pv 2) aN)))))) (
   ah (bA 6 dU.nd (dD fE (by rfl) T.list PyProof.Rows.boot_list (gK (pv 5)))) (
   ah (bA 7 dU.nd (bJ Ctrouble hr.m rfl (dP (pv 4) (dD fE (by rfl) T.list PyProof.Rows.boot_list (gK (pv 5)))))) (
   ah (bA 8 dU.nd (bJ iM hr.m rfl (dP (pv 4) (pv 6)))) (
   ah (br (PW.pt (jM (aw (rn 1 (xE hr (by decide))) (pv 6) (pv 5) (aI _)) (jN (yb (oG (bJ kZ hr.m rfl (dP (x8 (EV (pv 7))) (p0 (lz 1 (xE hr (by decide))) (pv 8) (aS (dP (aO) (eX))) (aI _))))))))) (aj (ax (iF))) (aM)) (
   ah (bA 9 dU.nd (dD iS (by rfl) T.dict Kc (gK (pv 1)))) (
   ah (bA 10 dU.nd (dD xr (by rfl) T.dict Kc (gK (pv 2)))) (
   ah (dL Jw rfl (dj (pv 5)) (gf rfl (bf (j7 11 dU.nd) (bf (j7 12 dU.nd) dR))) (ah (bA 13 dU.nd (bJ fO hr.m rfl (AI (pv 9) (pv 10) (aS (AI (aO) (pv 11) (pv 12)))))) (
   ah (br (aw pf (aX aQ (pv 13) (am) (fun _ _=>rfl)) (aO) (aI _)) (aj (ax ((BC (p0 (lz 1 (xE hr (by decide))) (pv 8) (pv 13) (aI _)) (BJ (bJ fD hr.m rfl (aq (pv 4) (aq (pv 1) (aq (pv 2) (aq (pv 3) aN)))))))))) (aM)) (
   aj (a6 (bJ dW hr.m rfl (AI (pv 9) (pv 10) (aS (AI (aO) (pv 11) (pv 12)))))))))) (
   ah (bA 3 dU.nd (aL lv (pv 3) (p6 (so:=ao rS) (N:=Br) (N':=["_law_one","_law_other"]) (src:=[none,none]) rfl rfl Et rfl (dj (pv 5)) (fun cl C s2 H2 ex=>⟨y6 (n:=2) K rfl (bf (j7 0 (show (["_law_one","_law_other"]:List Str).Nodup by decide +kernel)) (bf (j7 1 (show (["_law_one","_law_other"]:List Str).Nodup by decide +kernel)) dR)),j9,aS (AI (aO) (pv 0) (pv 1))⟩)))) (
   ah (br (PW.pt (jM (aw (rn 1 (xE hr (by decide))) (pv 8) (aS (dP (aO) (eX))) (aI _)) (jN (yb (oG (bJ fD hr.m rfl (aq (pv 4) (aq (pv 9) (aq (pv 10) (aq (pv 3) aN)))))))))) (aj (ax (iF))) (aM)) (
   aj (ax (cL (zD rfl) (by rfl) T.all PyProof.Rows.boot_all (gK (p6 (so:=ao rS) (N:=Br) (N':=["_law_guest_here","_law_hall","_law_story"]) (src:=[none,some 4,some 3]) rfl rfl Et rfl (y7 (pv 9)) (fun cl C s2 H2 ex=>⟨j7 0 (show (["_law_guest_here","_law_hall","_law_story"]:List Str).Nodup by decide +kernel),j9,p0 (Do K 1 (xE hr (by decide))) (uW Cmask_walk hr.m rfl wx (dP (pv 1) (pv 0))) (bJ fS hr.m rfl (dP (pv 2) (pv 0))) (aI _)⟩))))))))))))))))),?_⟩
  have nos:∀ (B:HA)(m:Str),¬ m="worn"->¬ m="holders"->¬ m="circles"->¬ m="deeds"->(aH B).lookup m=none:=fun B m h1 h2 h3 h4=>kL B h1 h2 h3 h4;have nG:∀ B:HA,(aH B).lookup ("guests" : Str)=none:=fun B=>l7 B (by decide +kernel);have nM:∀ B:HA,(aH B).lookup ("moment" : Str)=none:=fun B=>l7 B (by decide +kernel);have nI:∀ B:HA,(aH B).lookup ("inside" : Str)=none:=fun B=>l7 B (by decide +kernel);have nS:∀ B:HA,(aH B).lookup ("story" : Str)=none:=fun B=>l7 B (by decide +kernel);have nW:∀ B:HA,(aH B).lookup ("wears" : Str)=none:=fun B=>l7 B (by decide +kernel);have nR:∀ B:HA,(aH B).lookup ("wearer" : Str)=none:=fun B=>l7 B (by decide +kernel);have nT:∀ B:HA,(aH B).lookup ("met" : Str)=none:=fun B=>l7 B (by decide +kernel);have nP:∀ B:HA,(aH B).lookup ("pairs" : Str)=none:=fun B=>l7 B (by decide +kernel);have nQ:∀ B:HA,(aH B).lookup ("partners" : Str)=none:=fun B=>l7 B (by decide +kernel)
  have two:(2:Nat)<=sizeLine:=by decide
  have nil0:(0:Nat)<=sizeLine:=IX _
  have dkk:∀ wl:List (Int×Int),(dk wl).map (·.1)=(ay wl).map Sum.inl:=fun wl=>by unfold dk ay;rw[Jx,Jx];rfl
  refine⟨_,rfl,_,rfl,a,_,rfl,hS,fun l0 hl0=>?_⟩;rw[show kr (ns.map V.int) none (some 12)=(ns.take 12).map V.int by rw[show (12:Int)=((12:Nat):Int) from rfl,AS,Kg]];have g0:=ai (o:=.lst ((ns.take 12).map V.int)) hl0;have hS0:bF K (upd H l0 (.lst ((ns.take 12).map V.int))) l0 ((ns.take 12).map V.int):=bF.of af;have hS:=g0.seq hS;generalize upd H l0 (.lst ((ns.take 12).map V.int))=H0 at g0 hS0 hS ⊢;refine⟨l0,ns.take 12,rfl,hS0,fun t w m ls H1 es s1 ht M dn nm el ex=>?_⟩;refine⟨t,_,rfl,c6.of ht,rfl,_,_,rfl,_,_,rfl,_,_,rfl,rfl,?_⟩;have ce:cY (ns.take 12) 1=cY ns 1:=zE (by decide) (by decide);rw[ce]at nm;generalize hcn:cY ns 1=cn at nm;have L40:(aZ 40 cn).length=40:=tL 40 cn;have nmS:∀ d∈es,∀ g∈names d,g∈aZ 40 cn/\bK g:=fun d hd g hg=>⟨nm d hd g hg,fo (nm d hd g hg)⟩;have P:=lG dn nmS es.length;rw[Ji]at P;have pm:=P.ml;have lno:=qX P.good P.of
  have hls:aU H1 ls es:=by have:=M.hs;rw[gu]at this;exact this
  refine⟨_,rfl,ls,es,aZ 40 cn,rfl,hls,dn,el,by omega,nmS,fun x B H2 hx E2=>?_⟩
  have nB:∀ b o,H1 b=some o->b∉B.fp:=fun b o e z=>by rw[E2.nfp b z]at e;cases e
  have wB:=nB _ _ M.hw;have hw2:=E2.same _ _ M.hw;have hm2:=E2.same _ _ M.hm;have hs2:=bq hls E2.same;have hS2:=(s1.trans E2.same).seq hS;have hall:=E2.hall;have G:=P.good;have PW:=wC G;have smk:∀ g∈ay (aJ es).worn,bK g:=fun g hg=>fo (P.of.1 g hg);obtain⟨rs1,rs2⟩:=wH PW;have al:=P.al;have ci:=P.ci;obtain⟨st,est⟩:∃ st,st=aJ es:=⟨_,rfl⟩;rw[<-est]at hw2 hall G PW smk rs1 rs2 lno al ci
  have h64:st.worn.length<64:=by omega
  have wl64:(bX st.worn).length<=64:=by have:=tY st.worn;omega
  have oz:=P.of;have zz:=P.sz;have mo:=P.mo;generalize eml:ku es=ml at *;refine⟨_,rfl,_,rfl,_,rfl,a,w,m,ns,12,_,_,rfl,hS2,by decide,hw2,hm2,fun l3 H3 ps hl3 s3 row3 on3 len3=>?_⟩;rw[hcn]at on3;obtain⟨as,hl4,hp4⟩:=id row3;have asl:=Ix hp4;refine⟨_,rfl,l3,_,rfl,.inl (bF.of hl4),fun l4 hl4n=>?_⟩;have g4:=ai (o:=.lst (as.map V.ref)) hl4n;have row4:aT (upd H3 l4 (.lst (as.map V.ref))) l4 ps:=⟨as,af,Paired.mapP hp4 fun b e z=>g4 _ _ z⟩;have s4:=s3.trans g4;have row3:=row3.mono g4;have l3B:l3∉B.fp:=E2.track hl3;have l4B:l4∉B.fp:=(E2.on s3).track hl4n;generalize upd H3 l4 (.lst (as.map V.ref))=H4 at row4 s4 row3 g4 ⊢;refine⟨_,rfl,_,rfl,l3,_,rfl,.inl (bF.of (g4 _ _ hl4)),fun l5 hl5n=>?_⟩;have g5:=ai (o:=.lst (as.map V.ref)) hl5n;have row5:aT (upd H4 l5 (.lst (as.map V.ref))) l5 ps:=⟨as,af,Paired.mapP hp4 fun b e z=>g5 _ _ (g4 _ _ z)⟩;have s5:=s4.trans g5;have row3:=row3.mono g5;have row4:=row4.mono g5;generalize upd H4 l5 (.lst (as.map V.ref))=H5 at row5 s5 row3 row4 g5 ⊢
  have inN:∀ p∈ps,(p.1∈aZ 40 cn/\bK p.1)/\p.2∈aZ 40 cn/\bK p.2:=fun p hp=>by
   obtain⟨i,j,hi,hj,e⟩:=on3 p hp;rw[e];exact⟨⟨uq ⟨hi.1,by omega⟩,n8 _ _⟩,uq ⟨hj.1,by omega⟩,n8 _ _⟩
  have hfree:jA ((js ml).map (·.1)):=C0 (c:=cn) fun p hp=>by
   obtain⟨h1,h2⟩:=Bq ci al mo p hp;exact⟨qT h1 (by decide),qT h2 (by decide)⟩
  have nmA:∀ d∈es++ps.map b9,∀ g∈names d,g∈aZ 40 cn/\bK g:=fun d hd g hg=>by
   rcases IP.mp hd with z | z
   ·exact nmS d z g hg
   ·obtain⟨p,hp,rfl⟩:=Je.mp z
    simp only[b9,names,IE,List.not_mem_nil,or_false]at hg;rcases hg with z | z<;>rw[z]
    ·exact (inN p hp).1
    ·exact (inN p hp).2
  have rok:yB es ps (aZ 40 cn):=⟨dn,by rw[ID,Ir];omega,by omega,nmA⟩;refine⟨x,l5,B,_,ps,aZ 40 cn,es.length,rfl,E2.hall.mono s5,P.good,oz,zz,P.ci.kn,row5,by omega,by omega,inN,DN fun v H6 s6 hv=>?_⟩
  have hv2:decide (v=V.non)=decide (d7 (aJ es) ps=.done):=by rw[hv];exact decide_eq_decide.mpr (yE ps 0 (aJ es))
  have s26:=s5.trans s6;have E6:=E2.on s26;refine⟨_,rfl,_,rfl,x,l4,B,es,ps,aZ 40 cn,rfl,E6.hall,row4.mono s6,rok,l4B,fun r H7 hr7 hrt mv=>?_⟩
  have hdn':cU (nO es ps):=by
   unfold nO;split
   ·rename_i hb;exact pR ps es dn hb
   ·exact dn
  have nm':∀ d∈nO es ps,∀ g∈names d,g∈aZ 40 cn/\bK g:=fun d hd=>by
   unfold nO at hd;split at hd
   ·exact nmA d hd
   ·exact nmS d hd
  have P':=lG hdn' nm' (nO es ps).length;rw[Ji]at P';obtain⟨B7,E7,kp7,tr7⟩:=E6.moved mv P'.good;have kp:∀ b o,H6 b=some o->b∉B.fp->H7 b=some o:=fun b o e n=>(kp7 b o e n).1;have row37:=(row3.mono s6).kept E6.hall kp l3B;have row47:=(row4.mono s6).kept E6.hall kp l4B;have hw7:H7 w=some (.dK (dk st.worn)):=kp _ _ (s26 _ _ hw2) wB;have mB:=nB _ _ M.hm;have hm7:H7 m=some (.dT (js ml)):=kp _ _ (s26 _ _ hm2) mB;have hs27:=bq hs2 s26
  have lsB:ls∉B.fp:=by
   obtain⟨qs,q1,q2⟩:=id hls;exact nB _ _ q1
  have hs7:aU H7 ls es:=hs27.kept E6.hall kp lsB;have w7:w∉B7.fp:=(kp7 _ _ (s26 _ _ hw2) wB).2;refine⟨_,rfl,_,rfl,l4,l3,_,_,rfl,rfl,jO row47,jO row37,fun b hb=>?_⟩;rw[show (if true=true then !b else b)=false by rw[hb.mpr rfl];rfl];have flo:∀ o:rY,∀ z∈ky o,iz z=true:=ww;refine⟨_,rfl,aR ⟨_,rfl,_,rfl,two,fun t9 ht9=>?_⟩⟩;have s8:=ai (o:=.tup [.str "done",.non]) ht9;have h98:upd H7 t9 (.tup [.str "done",.non]) t9=some (.tup (ky .done)):=af;have hrt8:=s8 _ _ hrt;have E8:=E7.on s8;have row38:=row37.mono s8;have hw8:=s8 _ _ hw7;have hm8:=s8 _ _ hm7;have hs8:=bq hs7 s8;have f8:∀ {b:Addr}{H8:Hp},aA (upd H7 t9 (.tup [.str "done",.non])) H8->H8 b=none->H6 b=none:=fun sm hb=>tr7.free (s8.free (sm.free hb));generalize upd H7 t9 (.tup [.str "done",.non])=H8 at s8 h98 hrt8 E8 row38 hw8 hm8 hs8 f8 ⊢;refine⟨r,t9,_,_,rfl,rfl,eJ hrt8 (flo _),eJ h98 (flo _),fun b2 hb2=>?_⟩
  have eb2:b2=decide (d7 (aJ es) ps=.done):=by
   have q:b2=true↔d7 (aJ es) ps=.done:=by
    rw[hb2,rV];exact⟨fun z=>Ai z,fun z=>by rw[z]⟩
   cases b2 with
   | true=>exact (IG (q.mp rfl)).symm
   | false=>exact (IM fun z=>by have:=q.mpr z;cases this).symm
  refine⟨_,_,rfl,?_⟩;rw[show (if false=true then !b2 else b2)=b2 from rfl,eb2,hv2,IG rfl];refine⟨_,rfl,aR ?_⟩;refine⟨_,rfl,w,_,rfl,hw8,fun w2 hw2n=>?_⟩;have g9:=ai (o:=.dK (dk st.worn)) hw2n;have hw9:upd H8 w2 (.dK (dk st.worn)) w2=some (.dK (dk st.worn)):=af;have w2B:w2∉B7.fp:=E8.track hw2n;generalize upd H8 w2 (.dK (dk st.worn))=H9 at g9 hw9 ⊢;refine⟨_,rfl,m,_,rfl,g9 _ _ hm8,hfree,fun m2 hm2n=>?_⟩;have g10:=ai (o:=.dT (js ml)) hm2n;have hm10:upd H9 m2 (.dT (js ml)) m2=some (.dT (js ml)):=af;have m2B:m2∉B7.fp:=(E8.on g9).track hm2n
  have wm2:w2≠m2:=fun z=>by rw[<-z,hw9]at hm2n;cases hm2n
  have hw10:=g10 _ _ hw9;have g810:=g9.trans g10;generalize upd H9 m2 (.dT (js ml))=H10 at g10 hm10 hw10 g810 ⊢;have E10:=E8.on g810;have row310:=row38.mono g810;have hrt10:=g810 _ _ hrt8;have hw1:=g810 _ _ hw8;have hm1:=g810 _ _ hm8;have hs10:=bq hs8 g810;have w2n:H1 w2=none:=E8.same.free hw2n;have m2n:H1 m2=none:=(E8.on g9).same.free hm2n;obtain⟨as,hl310,hp310⟩:=id row310;have asl:=Ix hp310
  have three:(3:Nat)<=sizeLine:=by decide
  have kpT:∀ {HH:Hp},(∀ b o,H10 b=some o->b≠w2->b≠m2->HH b=some o)->Ev c H1 HH x B7 (aJ (nO es ps)):=fun {HH} kk=>by
   refine E10.write (ws:=[w2,m2]) (fun b o e n=>kk b o e (fun z=>n (by rw[z];simp)) (fun z=>n (by rw[z];simp))) (fun y hy=>?_) (fun n=>?_) (fun y hy=>?_) (fun b xs e n=>?_)
   ·rcases IE.mp hy with z | z
    ·rw[z];exact w2B
    ·rw[IB.mp z];exact m2B
   ·have ob:=E10.hall.ob
    rcases IE.mp n with z | z
    ·rw[z,hw10]at ob;cases ob
    ·rw[IB.mp z,hm10]at ob;cases ob
   ·rcases IE.mp hy with z | z
    ·rw[z];exact w2n
    ·rw[IB.mp z];exact m2n
   ·rcases IE.mp n with z | z
    ·rw[z,hw10]at e;cases e
    ·rw[IB.mp z,hm10]at e;cases e
  have nw:∀ {b:Addr}{o:HO},H10 b=some o->(∀ kv,o≠.dK kv)->b≠w2:=fun e n z=>by rw[z,hw10]at e;exact n _ (Iy e).symm
  have nmm:∀ {b:Addr}{o:HO},H10 b=some o->(∀ kv,o≠.dT kv)->b≠m2:=fun e n z=>by rw[z,hm10]at e;exact n _ (Iy e).symm
  refine⟨_,rfl,l3,rfl,⟨_,bF.of hl310⟩,cC (K:=K) (a:=l3) (xs:=as.map V.ref) (fun i σ HH=>∃ (v1 v2 v3:Option V),σ=[some (.ref a),some (.ref w),some (.ref m),some (.ref ls),some (.ref x),some (.ref l3),some (.ref l4),some v,some (.ref r),some (.ref w2),some (.ref m2),v1,v2,v3]/\cU (es++(ps.take i).map b9)/\d7 (aJ es) ps=d7 (aJ (es++(ps.take i).map b9)) (ps.drop i)/\HH w2=some (.dK (dk (aJ (es++(ps.take i).map b9)).worn))/\HH m2=some (.dT (js (ku (es++(ps.take i).map b9))))/\∀ b o,H10 b=some o->b≠w2->b≠m2->HH b=some o)
   ⟨none,none,none,rfl,by simpa using dn,by simp,by rw[est]at hw10;simpa using hw10,by rw[<-eml]at hm10;simpa using hm10,fun b o e _ _=>e⟩ (fun i σ HH _ ⟨_,_,_,_,_,_,_,_,kk⟩=>bF.of (kk _ _ hl310 (nw hl310 (by intro kv z;cases z)) (nmm hl310 (by intro kv z;cases z)))) ?_ ?_⟩
  ·rintro i y σ HH hi ⟨v1,v2,v3,rfl,di,bi,hwi,hmi,kk⟩
   obtain⟨b,hb,rfl⟩:=bT hi;obtain⟨e,he,hB⟩:=paired_get hp310 hb;have hbK:HH b=some (.tup [.int e.1,.int e.2]):=kk _ _ hB (nw hB (by intro kv z;cases z)) (nmm hB (by intro kv z;cases z));have il:=(List.getElem?_eq_some_iff.mp he).1;have ed:=sZ (st:=aJ (es++(ps.take i).map b9)) he;rw[<-bi]at ed;have en:=Cj (es:=es) he
   have nmi:∀ d∈es++(ps.take i).map b9,∀ g∈names d,g∈aZ 40 cn/\bK g:=fun d hd=>by
    rcases IP.mp hd with z | z
    ·exact nmA d (JG _ z)
    ·rw[Kg]at z;exact nmA d (IF _ (List.mem_of_mem_take z))
   have Pi:=lG di nmi (es++(ps.take i).map b9).length;rw[Ji]at Pi;refine⟨b,_,rfl,c6.of hbK,rfl,_,_,rfl,_,_,rfl,rfl,?_⟩;refine⟨_,rfl,_,rfl,_,rfl,_,rfl,three,fun t ht=>?_⟩;have sT:=ai (o:=.tup [.str "exchange",.int e.1,.int e.2]) ht;have hTT:upd HH t (.tup [.str "exchange",.int e.1,.int e.2]) t=some (cI (b9 e)):=af;have kT:∀ b o,H10 b=some o->b≠w2->b≠m2->upd HH t (.tup [.str "exchange",.int e.1,.int e.2]) b=some o:=fun b o h1 h2 h3=>sT _ _ (kk b o h1 h2 h3);generalize upd HH t (.tup [.str "exchange",.int e.1,.int e.2])=HT at sT hTT kT ⊢;refine⟨w2,m2,t,_,_,b9 e,rfl,sT _ _ hwi,sT _ _ hmi,hTT,fun r2 H12 hr2 s12 hrt2=>?_⟩
   have ej:cm (aJ (es++(ps.take i).map b9)).worn (ou (ku (es++(ps.take i).map b9))) (b9 e)=aK (aJ (es++(ps.take i).map b9)) (b9 e):=by rw[yQ,mn Pi.al]
   rw[ej]at hrt2;have k12:∀ b o,H10 b=some o->b≠w2->b≠m2->H12 b=some o:=fun b o h1 h2 h3=>s12 _ _ (kT b o h1 h2 h3);have at0:∀ o:rY,rZ (ky o) 0=some (V.str (sI o)):=fun o=>df (j:=0) (ET o);refine⟨_,rfl,r2,_,_,_,rfl,rfl,c6.of hrt2,at0 _,rfl,_,rfl,?_⟩
   by_cases hj:aK (aJ (es++(ps.take i).map b9)) (b9 e)=.done
   ·rw[Iq hj,eW hj,<-en]at ed
    rw[hj,show (!decide (V.str (sI .done)=V.str "done"))=false by rw[show sI .done="done" from rfl];simp];refine aR ⟨_,rfl,_,rfl,_,rfl,_,rfl,three,fun t2 ht2=>?_⟩;have sT2:=ai (o:=.tup [.str "exchange",.int e.1,.int e.2]) ht2;have hTT2:upd H12 t2 (.tup [.str "exchange",.int e.1,.int e.2]) t2=some (cI (b9 e)):=af;generalize upd H12 t2 (.tup [.str "exchange",.int e.1,.int e.2])=HT2 at sT2 hTT2 ⊢;have sS:=sT.trans (s12.trans sT2);have pml:=Pi.ml;have pfl:=JU pJ (es++(ps.take i).map b9);have wll:=qX Pi.good Pi.of
    have zl:(es++(ps.take i).map b9).length<=200:=by rw[ID,Ir,Jn];omega
    refine⟨w2,m2,t2,_,_,b9 e,rfl,sS _ _ hwi,sS _ _ hmi,hTT2,by omega,by omega,ej.trans hj,fun H14 h14w h14m k14=>?_⟩;refine⟨_,_,_,rfl,by rw[en];exact iX di hj,ed,?_,?_,fun b o h1 h2 h3=>k14 b o (sT2 _ _ (k12 b o h1 h2 h3)) h2 h3⟩
    ·rw[h14w,en,kj,qv]
    ·rw[h14m,en,tR]
   ·rw[Ip hj]at ed
    rw[Dp hj]
    have nd:nO es ps=es:=by unfold nO;rw[Ip (fun z=>hj (ed▸z))]
    have hrt12:H12 r=some (.tup (ky (d7 (aJ es) ps))):=k12 _ _ hrt10 (nw hrt10 (by intro kv z;cases z)) (nmm hrt10 (by intro kv z;cases z));rw[ed]at hrt12;have E12:=kpT k12;rw[nd,<-est]at E12
    have nwm:∀ {b:Addr}{o:HO},H8 b=some o->b≠w2:=fun h z=>by rw[z,hw2n]at h;cases h
    have nmm2:∀ {b:Addr}{o:HO},H8 b=some o->b≠m2:=fun h z=>by have:=g9 _ _ h;rw[z,hm2n]at this;cases this
    have keep8:∀ b o,H8 b=some o->H12 b=some o:=fun b o h=>k12 _ _ (g810 _ _ h) (nwm h) (nmm2 h)
    have hs12:aU H12 ls st.deeds:=by rw[est,gu];exact bq hs8 keep8
    refine bI ⟨_,rfl,_,rfl,r,r2,_,_,rfl,rfl,uX hrt12,uX hrt2,fun b hb=>⟨_,rfl,?_⟩⟩;rw[show (if false=true then !b else b)=true by rw[hb.mpr rfl];rfl];refine bI ⟨_,rfl,_,rfl,_,rfl,_,rfl,x,w,m,ls,B7,st,ml,aZ 40 cn,rfl,E12.hall,w7,keep8 _ _ hw8,keep8 _ _ hm8,hs12,G,al,ci,mo,by omega,by omega,h64,smk,fun H15 s15=>k _⟩
  ·rintro σ HH ⟨v1,v2,v3,rfl,di,bi,hwi,hmi,kk⟩
   rw[Ir,asl,Ji]at di hwi hmi bi;rw[List.drop_length]at bi;have bi:d7 (aJ es) ps=.done:=bi
   have dE:nO es ps=es++ps.map b9:=by unfold nO;rw[Iq bi]
   have E11:=kpT kk;rw[dE]at E11 P'
   have nwm:∀ {b:Addr}{o:HO},H8 b=some o->b≠w2:=fun h z=>by rw[z,hw2n]at h;cases h
   have nmm2:∀ {b:Addr}{o:HO},H8 b=some o->b≠m2:=fun h z=>by have:=g9 _ _ h;rw[z,hm2n]at this;cases this
   have keep8:∀ b o,H8 b=some o->HH b=some o:=fun b o h=>kk _ _ (g810 _ _ h) (nwm h) (nmm2 h);have row11:aT HH l3 ps:=row38.mono keep8;have hs11:aU HH ls es:=bq hs8 keep8;have hrt11:=keep8 _ _ hrt8;rw[bi]at hrt11;obtain⟨bs,hl11,hp11⟩:=id row11;refine⟨_,rfl,_,rfl,l3,rfl,⟨_,bF.of hl11⟩,fun q hq=>?_⟩;refine xv (K:=K) (rest:=[]) hq row11 (by omega) fun H16 s16 hq16=>?_;refine zJ (bq hs11 s16) hq16 (by rw[Ir];omega) fun ls2 H17 hls2 s17 hs17=>?_;have s1617:=s16.trans s17;refine⟨_,rfl,two,fun t18 ht18=>?_⟩;have s18:=ai (o:=.tup [.str "done",.non]) ht18;have h18:upd H17 t18 (.tup [.str "done",.non]) t18=some (.tup (ky .done)):=af;have s11:=s1617.trans s18;have hs18:=bq hs17 s18;generalize upd H17 t18 (.tup [.str "done",.non])=H18 at s18 h18 s11 hs18 ⊢;refine⟨r,t18,_,_,rfl,rfl,uX (s11 _ _ hrt11),uX h18,fun b hb=>⟨_,rfl,?_⟩⟩;rw[show (if true=true then !b else b)=false by rw[hb.mpr rfl];rfl];have E18:=E11.on s11;have hw18:=s11 _ _ hwi;have lno':=qX P'.good P'.of;have pml:=P'.ml;have pfl:=JU pJ (es++ps.map b9)
   have zl:(es++ps.map b9).length<=200:=by rw[ID,Ir];omega
   have smk':∀ g∈ay (aJ (es++ps.map b9)).worn,bK g:=fun g hg=>fo (P'.of.1 g hg);refine aR ⟨_,rfl,_,rfl,_,rfl,_,rfl,x,w2,m2,ls2,B7,_,_,aZ 40 cn,rfl,E18.hall,w2B,hw18,s11 _ _ hmi,by rw[gu];exact hs18,P'.good,P'.al,P'.ci,P'.mo,by omega,by omega,by omega,smk',fun H19 s19=>⟨_,rfl,aR ?_⟩⟩;have E19:=E18.on s19;have hs19:=bq hs18 s19;have hT19:fW H19 P0 dG bw:=.inl ((g0.trans (s1.trans E19.same)) _ _ hTb);refine⟨_,rfl,w2,_,rfl,s19 _ _ hw18,fun o q2 hq2=>?_⟩
   have kF:∀ b u,H19 b=some u->b≠w2->(upd H19 w2 (.frz o (.dK (dk (aJ (es++ps.map b9)).worn)))) b=some u:=fun b u e n=>by rw[ag n];exact e
   have hF:(upd H19 w2 (.frz o (.dK (dk (aJ (es++ps.map b9)).worn)))) w2=some (.frz o (.dK (dk (aJ (es++ps.map b9)).worn))):=af;have hw19:=s19 _ _ hw18;have S20:az c.C (upd H19 w2 (.frz o (.dK (dk (aJ (es++ps.map b9)).worn)))) x B7 (aJ (es++ps.map b9)):=E19.hall.kept (fp:=[w2]) (fun b u e n=>kF b u e (fun z=>n (by rw[z];exact IJ))) (fun z=>by have ob:=E19.hall.ob;rw[IB.mp z,hw19]at ob;cases ob) (fun b hb z=>w2B (by rw[<-IB.mp z];exact hb)) (fun b xs e z=>by rw[IB.mp z,hw19]at e;cases e);have hT20:fW (upd H19 w2 (.frz o (.dK (dk (aJ (es++ps.map b9)).worn)))) P0 dG bw:=.inl (kF _ _ ((g0.trans (s1.trans E19.same)) _ _ hTb) (fun z=>by have q:=(g0.trans (s1.trans E19.same)) _ _ hTb;rw[z,hw19]at q;cases q));have hs20:aU (upd H19 w2 (.frz o (.dK (dk (aJ (es++ps.map b9)).worn)))) ls2 (es++ps.map b9):=xx hs19 hw19 (by intro xs z;cases z) (fun z=>by obtain⟨qs,q1,q2⟩:=id hs19;rw[z,hw19]at q1;cases q1) kF;generalize upd H19 w2 (.frz o (.dK (dk (aJ (es++ps.map b9)).worn)))=H20 at hF S20 hT20 hs20 hq2 ⊢
   refine vH (d:=w2) (o:=o) (kvs:=dk (aJ (es++ps.map b9)).worn) (fun i σ HH=>∃ v0:Option V,σ=[v0,some (.ref x),some (.ref ls2)]/\kX P0 H20 HH/\fW HH P0 dG bw/\HH q2=some (.lst ((List.replicate i true).map V.bl)))
    ⟨none,rfl,kX.put kX.refl hq2,hT20.same (ai hq2),af⟩ (fun i σ HH _ ⟨_,_,bt,_,_⟩=>bt.get hT20 hF (by intro ps z;cases z)) ?_ ?_
   ·rintro i y σ HH hi ⟨v0,rfl,bt,tb,hqq⟩
    obtain⟨gm,hgm,rfl⟩:=bT hi;have il:=(List.getElem?_eq_some_iff.mp hgm).1;have hmem:=IV hgm;have lk:look (aJ (es++ps.map b9)).worn gm.1=some gm.2:=jE P'.good.wn hmem;have sg:bK gm.1:=smk' _ (Ku (f:=(·.1)) hmem);have dn2:=pR ps es dn bi;refine qf ⟨_,rfl,_,rfl,x,B7,_,aZ 40 cn,gm.1,rfl,⟨kX.hall S20 hT20 bt,dn2,zl,by omega,nmA,sg⟩,tb,?_⟩;rw[Iq (by rw[lk];rfl),Cp dn2 (fun d hd g hg=>(nmA d hd g hg).2) (by rw[lk];rfl)];intro l21 H21 hl21 b21 t21 row21;have b22:=bt.trans b21;refine⟨_,rfl,_,rfl,ls2,_,gm.1,rfl,b22.deeds hT20 hs20,zl,fun l23 H23 hl23 s23 row23=>?_⟩;refine⟨l21,l23,_,_,rfl,rfl,jO (row21.mono s23),jO row23,fun b hb=>?_⟩;rw[show (if false=true then !b else b)=true by rw[hb.mpr rfl];rfl];have hq23:=s23 _ _ (b21.get tb hqq (by intro ps z;cases z));refine⟨_,hq23,by rw[Ir,List.length_replicate];exact aW (by omega),_,rfl,kX.put (b22.same s23) hq2,fW.put (t21.same s23) hq23,?_⟩;rw[af,List.replicate_succ',Ja];rfl
   ·rintro σ HH ⟨v0,rfl,bt,tb,hqq⟩
    refine⟨q2,_,rfl,bF.of hqq,?_⟩;rw[show (List.replicate (dk (aJ (es++ps.map b9)).worn).length true).all id=true by simp];exact k _
end
theorem all_mk2 {l:PySem.W.OpenLaw}{w:World}{K:PySem.W.Frag}{h:Heap}{mg:Str->Option Value}{fa:Addr}{C cW cA cM cS cT cN fN:Addr}(X:K.In h)(G:h.Ns mainGlobals mg)(hfa:mg "law" = some (.ref fa)){c0 P0:Addr}(CK:lN K c0 P0)(htab:PySem.W.tabIn K "mask_walk" = some (c0,P0))(aC:PySem.W.nsIn K mainGlobals "Hall" = some (some (.ref C)))(n_cW:PySem.W.nsIn K mainGlobals "WaltzError" = some (some (.ref cW)))(n_cA:PySem.W.nsIn K mainGlobals "AlreadyIn" = some (some (.ref cA)))(n_cM:PySem.W.nsIn K mainGlobals "Masked" = some (some (.ref cM)))(n_cS:PySem.W.nsIn K mainGlobals "Same" = some (some (.ref cS)))(n_cT:PySem.W.nsIn K mainGlobals "Met" = some (some (.ref cT)))(n_cN:PySem.W.nsIn K mainGlobals "NoGuest" = some (some (.ref cN)))(b_cN:PySem.W.findIn K (.ref cN) "__init__" = some (some (.ref fN)))(pg:PySem.W.plainGet K C Str.empty=true)(hd:PySem.W.hasDictIn K C=true)(po:PySem.W.plainOver K C=true)(sa:PySem.W.findIn K (.ref C) "__setattr__" = some (some (.builtin "object.__setattr__")))(yZ:PySem.W.findIn K (.ref C) "worn" = some none)(qS:PySem.W.findIn K (.ref C) "holders" = some none)(qQ:PySem.W.findIn K (.ref C) "circles" = some none)(we:PySem.W.findIn K (.ref C) "deeds" = some none)(e_cA:ic K cA)(e_cM:ic K cM)(e_cS:ic K cS)(e_cT:ic K cT)(e_cN:li K cN fN=true)(g1:PySem.W.findIn K (.ref cN) "__getattribute__" = some (some (.builtin "BaseException.__getattribute__")))(g2:PySem.W.findIn K (.ref cN) "__getattr__" = some none)(g3:PySem.W.findIn K (.ref cN) "__setattr__" = some (some (.builtin "object.__setattr__")))(g4:PySem.W.findIn K (.ref cN) "guest" = some none)(g5:PySem.W.hasDictIn K cN=true)(g6:PySem.W.mroIn K cN (.type "BaseException")=some true)(g7:PySem.W.mroIn K cN (.type "object")=some true)(g8:((PySem.W.clsIn K cN).any fun cd=>iD cd.mro)=true)(tN:PySem.W.typeIn K (.ref fN)=some (.type "function"))(wS:PySem.W.specialIn K (.ref cW) "__getattribute__" = some (some (.builtin "type.__getattribute__")))(wR:PySem.W.readsIn K cW (.type "type")=true)(wI:PySem.W.findCls K (.ref cW) (.type "type") "__init__" = some (.val (.builtin "ValueError.__init__")))(x_aa:PySem.W.exmOne K (.ref cA) (.ref cA)=some true)(x_ma:PySem.W.exmOne K (.ref cM) (.ref cA)=some false)(x_mm:PySem.W.exmOne K (.ref cM) (.ref cM)=some true)(x_sa:PySem.W.exmOne K (.ref cS) (.ref cA)=some false)(x_sm:PySem.W.exmOne K (.ref cS) (.ref cM)=some false)(x_ss:PySem.W.exmOne K (.ref cS) (.ref cS)=some true)(x_ta:PySem.W.exmOne K (.ref cT) (.ref cA)=some false)(x_tm:PySem.W.exmOne K (.ref cT) (.ref cM)=some false)(x_ts:PySem.W.exmOne K (.ref cT) (.ref cS)=some false)(x_tt:PySem.W.exmOne K (.ref cT) (.ref cT)=some true)(x_na:PySem.W.exmOne K (.ref cN) (.ref cA)=some false)(x_nm:PySem.W.exmOne K (.ref cN) (.ref cM)=some false)(x_ns:PySem.W.exmOne K (.ref cN) (.ref cS)=some false)(x_nt:PySem.W.exmOne K (.ref cN) (.ref cT)=some false)(x_nn:PySem.W.exmOne K (.ref cN) (.ref cN)=some true)(mk:PySem.W.makesIn K C=true)(kc:PySem.W.keepIn K (.ref C)=true)(x_sn:PySem.W.exmOne K (.ref cS) (.ref cN)=some false)(x_tn:PySem.W.exmOne K (.ref cT) (.ref cN)=some false)(kI:bB K "_law_cell_at" gG)(oS:bB K "_law_crowd" jh)(qq:bB K "_law_size" jT)(oX:bB K "_law_guest" jk)(qk:bB K "_law_deed" jQ)(oV:bB K "_law_draws" ji)(ir:bB K "_law_draws_from" eR)(oU:bB K "_law_deeds" eQ)(sV:bB K "_law_key" lK)(sU:bB K "_law_due" lJ)(oR:bB K "_law_after" jg)(kJ:bB K "_law_evening" gH)(oP:cX K C "__init__" "Hall.__init__" jf)(iN:cX K C "dress" "Hall.dress" ii)(jx:cX K C "come" "Hall.come" je)(jy:cX K cN "__init__" "NoGuest.__init__" fB)(iP:cX K C "wears" "Hall.wears" ik)(nJ:cX K C "go" "Hall.go" lH)(k8:cX K C "met" "Hall.met" jP)(fu:cX K C "acquaint" "Hall.acquaint" e7)(fz:cX K C "exchange" "Hall.exchange" e8)(vn:bB K "_law_do" oN)(kK:bB K "_law_hall_of" gI)(kG:bB K "_law_any_row" eP)(oW:bB K "_law_fresh" jj)(qp:bB K "_law_sift" jS)(kH:bB K "_law_bad_row" gF)(oQ:cX K C "twin" "Hall.twin" fM)(sW:bB K "trouble" lL)(kE:bB K "hall_behind" gC)(yy:bB K "dance" rR)(lP:bB K "_law_danced" im)(qo:bB K "_law_says" jR)(kC:cX K C "guests" "Hall.guests" gv)(iO:cX K C "story" "Hall.story" ij)(kD:cX K C "moment" "Hall.moment" gA)(jm:cX K C "partners" "Hall.partners" e9)(lO:cX K C "pairs" "Hall.pairs" fj)(hJ:cX K C "inside" "Hall.inside" gz)(hU:cX K C "wearer" "Hall.wearer" gB)(lQ:bB K "_law_stands" io)(nK:bB K "do_deed" lI)(lR:bB K "walk_since" ip)(oY:bB K "mask_walk" aV)(jz:bB K "_law_walk_due" fC)(DP:bB K "law" rS)(Ef:PySem.W.nsIn K mainGlobals "len" = some none)(zv:PySem.W.nsIn K mainGlobals "range" = some none)(nE:PySem.W.nsIn K mainGlobals "isinstance" = some none)(zw:PySem.W.nsIn K mainGlobals "tuple" = some none)(Cy:PySem.W.nsIn K mainGlobals "list" = some none)(Ee:PySem.W.nsIn K mainGlobals "int" = some none)(Cv:PySem.W.nsIn K mainGlobals "bool" = some none)(Ec:PySem.W.nsIn K mainGlobals "all" = some none)(Ed:PySem.W.nsIn K mainGlobals "any" = some none)(w8:PySem.W.nsIn K mainGlobals "sorted" = some none)(rW:PySem.W.nsIn K mainGlobals "reversed" = some none)(Ei:PySem.W.nsIn K mainGlobals "set" = some none)(Eh:PySem.W.nsIn K mainGlobals "min" = some none)(Eg:PySem.W.nsIn K mainGlobals "max" = some none)(Cw:PySem.W.nsIn K mainGlobals "dict" = some none)(El:PySem.W.nsIn K mainGlobals "zip" = some none)(pC:PySem.W.nsIn K mainGlobals "enumerate" = some none)(Ek:PySem.W.nsIn K mainGlobals "sum" = some none)(Ej:PySem.W.nsIn K mainGlobals "str" = some none) :
  ∃ fd:FuncData,(∀ (s:Shared)(v:Value),BindsTo s fd ⟨[v],[]⟩ [("_law_script",v)])/\∀ base:Heap,K.In base->base.Ns mainGlobals mg->tZ mg base->bd l.prog w K mg base c7 10 fa fd ["_law_script"] (rO K P0):=by
 obtain⟨c,rfl,rfl,rfl,rfl,rfl,rfl,rfl,rfl⟩:∃ c:HX,c.C=C/\c.cW=cW/\c.cA=cA/\c.cM=cM/\c.cS=cS/\c.cT=cT/\c.cN=cN/\c.fN=fN:=⟨⟨C,cW,cA,cM,cS,cT,cN,fN⟩,rfl,rfl,rfl,rfl,rfl,rfl,rfl,rfl⟩;have T:HJ mg:=⟨IW X G Ef,IW X G zv,IW X G nE,IW X G zw,IW X G Cy,IW X G Ee,IW X G Cv,IW X G Ec,IW X G Ed,IW X G w8,IW X G rW,IW X G Ei,IW X G Eh,IW X G Eg,IW X G Cw,IW X G El,IW X G pC,IW X G Ek,IW X G Ej⟩;have U:HT K mg c:=⟨⟨pg,hd,po,sa⟩,yZ,qS,qQ,we,JI X G aC,e_cA,e_cM,e_cS,e_cT,JI X G n_cA,JI X G n_cM,JI X G n_cS,JI X G n_cT,JI X G n_cN,JI X G n_cW,e_cN,⟨g1,g2,g3,g4,g5,g6,g7,g8⟩,tN,wS,wR,wI⟩;have VM:HM K c:=⟨x_aa,x_ma,x_mm,x_sa,x_sm,x_ss,x_ta,x_tm,x_ts,x_tt,x_na,x_nm,x_ns,x_nt,x_nn⟩;have UO:Ht K c:=⟨x_sn,x_tn⟩;obtain⟨f_Hall_init,lZ,a_Hall_init,i_Hall_init,G_Hall_init⟩:=oP;obtain⟨f_NoGuest_init,jn,a_NoGuest_init,i_NoGuest_init,G_NoGuest_init⟩:=jy;obtain⟨f_walk_since,sf,a_walk_since,G_walk_since⟩:=lR;obtain⟨f_law,Ey,a_law,G_law⟩:=DP;have e:=hfa.symm.trans (JI X G a_law);cases e;have eN:=Iy (Iy (a_NoGuest_init.symm.trans b_cN))
 have eN2:f_NoGuest_init=c.fN:=by injection eN
 refine⟨Ey,?_,fun base _ _ BK=>?_⟩
 ·obtain⟨_,_,_,_,_,_,_,_,_,rfl,_,_⟩:=G_law.ex
  exact fun s v=>.of_eq rfl
 ·have bP:aG l.prog w K mg base "_law_cell_at" 1 ["_law_script","_law_k"] (rM K):=rX X G kI fun _ _ h=>ri T U VM UO h
  have jt:aG l.prog w K mg base "_law_crowd" 1 ["_law_cell"] p8:=rX X G oS fun _ _ h=>uQ T U VM UO h;have cR:aG l.prog w K mg base "_law_size" 1 ["_law_cell"] oM:=rX X G qq fun _ _ h=>wq T U VM UO h;have bp:aG l.prog w K mg base "_law_guest" 2 ["_law_k","_law_cell"] jb:=rX X G oX fun _ _ h=>uU T U VM UO h cR;have kY:aG l.prog w K mg base "_law_deed" 3 ["_law_drawn","_law_many","_law_cell"] qc:=rX X G qk fun _ _ h=>wj T U VM UO h bp;have jv:aG l.prog w K mg base "_law_draws" 2 ["_law_cell","_law_many","_law_base"] qd:=rX X G oV fun _ _ h=>uS T U VM UO h cR;have b8:aG l.prog w K mg base "_law_draws_from" 3 ["_law_script","_law_start","_law_most","_law_base"] (rN K):=rX X G ir fun _ _ h=>mI T U VM UO h jv;have ju:aG l.prog w K mg base "_law_deeds" 4 ["_law_script"] (nh K):=rX X G oU fun _ _ h=>uR T U VM UO h bP jt bp kY b8;have dv:aG l.prog w K mg base "_law_key" 1 ["_law_one","_law_other"] tU:=rX X G sV fun _ _ h=>x0 T U VM UO h;have fO:aG l.prog w K mg base "_law_due" 2 ["_law_worn","_law_met","_law_deed_here"] wT:=rX X G sU fun _ _ h=>xZ T U VM UO h dv;have dW:aG l.prog w K mg base "_law_after" 2 ["_law_worn","_law_met","_law_deed_here"] m6:=rX X G oR fun _ _ h=>uP T U VM UO h dv;have gW:aG l.prog w K mg base "_law_evening" 6 ["_law_script"] (i9 K):=rX X G kJ fun _ _ h=>rj T U VM UO h ju fO dW;have MH:FH l.prog w K mg base c:=⟨f_Hall_init,lZ,⟨mk,a_Hall_init,i_Hall_init,kc⟩,mH T U VM UO G_Hall_init ,(G_Hall_init.binds (ps:=["self"]) (by intro _ _ _ _ _ _;(repeat refine EM fun _=>?_);exact EL rfl))⟩
  have bQ:ar l.prog w K mg base c7 c.C "dress" 1 ["self","guest","mask"] (kf c.C):=pK iN fun _ _ h=>kO T U VM UO h;have cO:ar l.prog w K mg base (fb l.prog w) c.C "come" 2 ["self","guest"] (oK c):=pK jx fun _ _ h=>mG T U VM UO h bQ;have NG:iu l.prog w K mg base c:=⟨jn,eN2▸jp T U VM UO G_NoGuest_init ,(G_NoGuest_init.binds (ps:=["self","guest"]) (by intro _ _ _ _ _ _;(repeat refine EM fun _=>?_);exact EL rfl))⟩;have bj:ar l.prog w K mg base (fb l.prog w) c.C "wears" 3 ["self","guest"] (jd c):=pK iP fun _ _ h=>kQ T U VM UO h NG;have dX:ar l.prog w K mg base (fb l.prog w) c.C "go" 4 ["self","guest"] (Az c):=pK nJ fun _ _ h=>qY T U VM UO h bj;have fU:ar l.prog w K mg base c7 c.C "met" 1 ["self","one","other"] (wU c.C):=pK k8 fun _ _ h=>pe T U VM UO h;have cw:ar l.prog w K mg base c7 c.C "acquaint" 1 ["self","one","other"] (wP c.C):=pK fu fun _ _ h=>iB T U VM UO h;have aE:ar l.prog w K mg base (fb l.prog w) c.C "exchange" 4 ["self","one","other"] (ja c):=pK fz fun _ _ h=>iC T U VM UO h bj fU bQ cw;have qi:de l.prog w K mg base "_law_do" 5 ["_law_hall","_law_deed_here"] (wQ c):=F8 X G vn fun _ _ h=>Ag T U VM UO h cO dX aE;have gZ:aG l.prog w K mg base "_law_hall_of" 7 ["_law_story"] (nu c):=rX X G kK fun _ _ h=>rl T U VM UO h MH qi;have gT:aG l.prog w K mg base "_law_any_row" 3 ["_law_draws_here","_law_cell"] m7:=rX X G kG fun _ _ h=>rg T U VM UO h bp;have jw:aG l.prog w K mg base "_law_fresh" 2 ["_law_row","_law_worn","_law_met"] ni:=rX X G oW fun _ _ h=>uT T U VM UO h dv;have k6:aG l.prog w K mg base "_law_sift" 3 ["_law_row","_law_worn","_law_met"] vc:=rX X G qp fun _ _ h=>wo T U VM UO h jw
  have gU:aG l.prog w K mg base "_law_bad_row" 4 ["_law_script","_law_start","_law_worn","_law_met"] (m8 K):=rX X G kH fun _ _ h=>rh T U VM UO h bP cR gT b8 k6 bp;have dY:ar l.prog w K mg base c7 c.C "twin" 3 ["self"] (rP c.C):=pK oQ fun _ _ h=>uO T U VM UO h MH;have Ctrouble:aG l.prog w K mg base "trouble" 5 ["hall","row"] (ki c):=rX X G sW fun _ _ h=>x5 T U VM UO h dY aE;have Chall_behind:de l.prog w K mg base "hall_behind" 5 ["hall","row"] (u9 c):=F8 X G kE fun _ _ h=>re T U VM UO h dY aE;have Cdance:de l.prog w K mg base "dance" 6 ["hall","row"] (p9 c):=F8 X G yy fun _ _ h=>Bv T U VM UO h Chall_behind aE;have iM:aG l.prog w K mg base "_law_danced" 7 ["_law_hall","_law_row"] (m9 c):=rX X G lP fun _ _ h=>sE T U VM UO h Cdance;have kZ:aG l.prog w K mg base "_law_says" 1 ["_law_found","_law_due_here"] vb:=rX X G qo fun _ _ h=>wm T U VM UO h;have hZ:ar l.prog w K mg base c7 c.C "guests" 1 ["self"] (nj c.C):=pK kC fun _ _ h=>qZ T U VM UO h;have cV:ar l.prog w K mg base c7 c.C "story" 1 ["self"] (kh c.C):=pK iO fun _ _ h=>kP T U VM UO h;have h8:ar l.prog w K mg base c7 c.C "moment" 1 ["self"] (nv c.C):=pK kD fun _ _ h=>q8 T U VM UO h;have fA:ar l.prog w K mg base c7 c.C "partners" 1 ["self","guest"] (jc c.C):=pK jm fun _ _ h=>oC T U VM UO h;have iR:ar l.prog w K mg base c7 c.C "pairs" 2 ["self"] (nk c.C):=pK lO fun _ _ h=>sD T U VM UO h fA;have bY:ar l.prog w K mg base c7 c.C "inside" 1 ["self","guest"] (iI c.C):=pK hJ fun _ _ h=>jH T U VM UO h;have cG:ar l.prog w K mg base (fb l.prog w) c.C "wearer" 3 ["self","mask"] (iJ c):=pK hU fun _ _ h=>jI T U VM UO h NG
  have fD:aG l.prog w K mg base "_law_stands" 4 ["_law_hall","_law_worn","_law_met","_law_story"] (kg c):=rX X G lQ fun _ _ h=>sF T U VM UO h hZ cV h8 iR bY bj cG;have Cdo_deed:de l.prog w K mg base "do_deed" 5 ["hall","deed"] (wQ c):=F8 X G nK fun _ _ h=>rc T U VM UO h cO dX aE
  have uc:∀ (b:Heap)(fl c1 cy:Addr)(vy:V)(pm ct:Value),Mod K mg b->sX b bw (Dd (eY aV)) (De (eY aV)) (Df (eY aV)) "mask" vy fl c1 cy pm ct->bd l.prog w K mg b (fb l.prog w) 7 f_walk_since sf ["hall","guest","ask"] (vd c (·.hold) bw fl c1 vy):=by
   intro b fl c1 cy vy pm ct md lm;have MH:FH l.prog w K mg b c:=⟨f_Hall_init,lZ,⟨mk,a_Hall_init,i_Hall_init,kc⟩,mH T U VM UO G_Hall_init ,(G_Hall_init.binds (ps:=["self"]) (by intro _ _ _ _ _ _;(repeat refine EM fun _=>?_);exact EL rfl))⟩;have bQ:ar l.prog w K mg b c7 c.C "dress" 1 ["self","guest","mask"] (kf c.C):=pK iN fun _ _ h=>kO T U VM UO h;have cO:ar l.prog w K mg b (fb l.prog w) c.C "come" 2 ["self","guest"] (oK c):=pK jx fun _ _ h=>mG T U VM UO h bQ;have NG:iu l.prog w K mg b c:=⟨jn,eN2▸jp T U VM UO G_NoGuest_init ,(G_NoGuest_init.binds (ps:=["self","guest"]) (by intro _ _ _ _ _ _;(repeat refine EM fun _=>?_);exact EL rfl))⟩;have bj:ar l.prog w K mg b (fb l.prog w) c.C "wears" 3 ["self","guest"] (jd c):=pK iP fun _ _ h=>kQ T U VM UO h NG;have dX:ar l.prog w K mg b (fb l.prog w) c.C "go" 4 ["self","guest"] (Az c):=pK nJ fun _ _ h=>qY T U VM UO h bj;have fU:ar l.prog w K mg b c7 c.C "met" 1 ["self","one","other"] (wU c.C):=pK k8 fun _ _ h=>pe T U VM UO h;have cw:ar l.prog w K mg b c7 c.C "acquaint" 1 ["self","one","other"] (wP c.C):=pK fu fun _ _ h=>iB T U VM UO h;have aE:ar l.prog w K mg b (fb l.prog w) c.C "exchange" 4 ["self","one","other"] (ja c):=pK fz fun _ _ h=>iC T U VM UO h bj fU bQ cw;have cV:ar l.prog w K mg b c7 c.C "story" 1 ["self"] (kh c.C):=pK iO fun _ _ h=>kP T U VM UO h;have bY:ar l.prog w K mg b c7 c.C "inside" 1 ["self","guest"] (iI c.C):=pK hJ fun _ _ h=>jH T U VM UO h;have cG:ar l.prog w K mg b (fb l.prog w) c.C "wearer" 3 ["self","mask"] (iJ c):=pK hU fun _ _ h=>jI T U VM UO h NG
   have Cdo_deed:de l.prog w K mg b "do_deed" 5 ["hall","deed"] (wQ c):=F8 X G nK fun _ _ h=>rc T U VM UO h cO dX aE;exact sG T U VM UO G_walk_since bY NG MH cV Cdo_deed (fun st g G h=>uw G h) (fun g hv=>by subst hv;exact oE T U VM UO cG lm) lm.ob rfl (fun s us hl=>match us,hl with | [_],_=>.of_eq rfl)
  have Cmask_walk:de l.prog w K mg base "mask_walk" 8 ["hall","mask"] (qe c (·.hold) P0 dG bw):=by
   obtain⟨f9,fd9,a9,g9⟩:=oY;exact⟨f9,fd9,uV T U VM UO g9 (Ci htab a9 g9) CK BK (JI X G a_walk_since) G_walk_since.kp (G_walk_since.binds (ps:=["hall","guest","ask"]) fun _ _ _ _ _ _ us hl=>match us,hl with | [_,_,_],_=>rfl) uc,JI X G a9,g9.kp,g9.binds (ps:=["hall","mask"]) fun _ _ _ _ _ _ us hl=>match us,hl with | [_,_],_=>rfl⟩
  have fS:aG l.prog w K mg base "_law_walk_due" 1 ["_law_story","_law_mask"] va:=rX X G jz fun _ _ h=>pO T U VM UO h;exact EQ T U VM UO G_law gW gZ gU Ctrouble iM kZ fO dW fD Cmask_walk fS
theorem walk {l:PySem.W.OpenLaw}{q:Program}{loose:List Str}{XP:(Str->Option Value)->Heap->Prop}{YP:World->Heap->Prop}{d:DefRec}{K:Params->PySem.W.Frag}{c0 P0:Addr}(hn:l.most=some 63)(hdf:d.params.defaults=[])
  (hY:∀ (w:World)(h:Heap),YP w h->(K w.params).In h)
  (hTY:∀ (w:World)(h:Heap),YP w h->h.get? P0=some (PySem.W.tabObj #[])) (hch:∀ w:World,PySem.W.codeHdIn (K w.params) c0 P0=true) (htab:∀ w:World,PySem.W.tabIn (K w.params) "mask_walk" = some (c0,P0)) (hnt:∀ w:World,PySem.W.noTabs (K w.params)=true)
  (F:∀ (w:World)(mg:Str->Option Value)(fa:Addr)(h:Heap),(K w.params).In h->h.Ns mainGlobals mg->mg d.name=some (.ref fa)->lN (K w.params) c0 P0->PySem.W.tabIn (K w.params) "mask_walk" = some (c0,P0) ->
   ∃ fd:FuncData,(∀ (s:Shared)(u:Value),BindsTo s fd ⟨[u],[]⟩ [("_law_script",u)])/\∀ base:Heap,(K w.params).In base->base.Ns mainGlobals mg->tZ mg base->bd l.prog w (K w.params) mg base c7 10 fa fd ["_law_script"] (rO (K w.params) P0)) :
  PySem.W.WalkO q loose XP YP l.row.toRowW d [] (fun f vs=>PySem.call f vs) :=
 L2.walk_ofT (n:=63) (k:=10) (x:="_law_script") (nm:="mask_walk") (CX:=fun _=>c7) (sp:=fun w=>rO (K w.params) P0) hn (by decide) hdf ⟨rfl,by decide,by decide⟩ hY hTY hch htab hnt F (fun _ _ a ns hl hT hS=>⟨a,ns,rfl,hS,hl,hT,fun _=>rfl⟩) fun _ _ _ _ _ z=>z
end Wk34
namespace PySem.W.Fast
def tw10445611459588036677:=0
def tw7909260918392673461:=0
def tw17157052300870614930:=0
def tw8102325738992677651:=0
def tw18020035980427086032:=0
def tw6492886122812062721:=0
def tw17049894765263187120:=0
def tw5379147575981265803:=0
def tw3098476871171768606:=0
def tw9512760322301775919:=0
def tw2924362368075272411:=0
def tw14466246242929354587:=0
def tw11168743314339276779:=0
def tw7368336745620927293:=0
def tw2596223318544423513:=0
def tw13761180061725318017:=0
def tw11133869537266277607:=0
def tw17520979300232682544:=0
def tw18173944597234894561:=0
def tw1513561460931248351:=0
def tw5903459837355719694:=0
def tw4221012867686462238:=0
def tw8612354428073891969:=0
def tw6492609422124234285:=0
def tw7059915944726557096:=0
def tw17574408942699563498:=0
def tw6648570595479942649:=0
def tw8806586517006590761:=0
def tw15626103499970520906:=0
def tw1467133773789653552:=0
def tw4920774015426581784:=0
def tw15992729636755843438:=0
def tw6398805356692761340:=0
def tw15483564223421538869:=0
def tw11957945102826303256:=0
def tw12237836883410062375:=0
def tw487574768216604843:=0
def tw10202027121748314563:=0
def tw16720108160719335965:=0
def tw8783034020867399723:=0
def tw13240227578429025389:=0
def tw15144817744140450030:=0
def tw2753054123335759054:=0
def tw13742325276050973374:=0
def tw8816680091807004302:=0
def tw7669163730299957184:=0
def tw4066707399968567173:=0
def tw1866796753917113216:=0
def tw17166274176072101406:=0
def tw1281317319692403078:=0
def tw8355521206256470274:=0
def tw4851398516781927986:=0
def tw17220260908811812775:=0
def tw15008073880547798014:=0
def tw5209803263519000417:=0
def tw1971898151251361816:=0
def tw9392645457641501365:=0
def tw3376912413189171557:=0
def tw17549813217822349115:=0
def tw14604175147971899253:=0
def tw2717211285079536917:=0
def tw9509332652018051808:=0
def tw1973459282456923929:=0
def tw7224204635272641460:=0
def tw15515662584453712227:=0
def tw7503004093567527507:=0
def tw11687671625864558038:=0
def tw2032851165682305918:=0
def tw11009684175964250871:=0
def tw10422627008600922946:=0
def tw1063534987068770415:=0
def tw8507761371640638752:=0
def tw18340001227661840564:=0
def tw6201483459736488372:=0
def tw17323647926209377568:=0
def tw6595580391166924360:=0
def tw11695880174285537112:=0
def tw8207995065357768139:=0
def tw11775431231499842681:=0
def tw4978784529451753774:=0
def tw16481461505181845440:=0
def tw10074290521448812487:=0
def tw8493901668072715596:=0
def tw16987536501416052142:=0
def tw16862024088755415326:=0
def tw12877025176519176760:=0
def tw9614915785254937744:=0
def tw12867455302337301360:=0
def tw4647945973632581446:=0
def tw8503208555269138546:=0
def tw7003603474060999385:=0
def tw702120993344850896:=0
def tw11012570787625288005:=0
def tw6757658622799191528:=0
def tw10383395312672628119:=0
def tw2680627525666077225:=0
def tw844256998551150184:=0
def tw5618984290677255211:=0
def tw10759165740945556783:=0
def tw127592621585444263:=0
def tw6469537159765739841:=0
def tw5593661305452385107:=0
def tw8107127189251855959:=0
def tw9278884903210814709:=0
def tw14440560846739245852:=0
def tw12919191872055214812:=0
def tw5257685035847550112:=0
def tw16178900758642820164:=0
def tw9477885715236634984:=0
def tw3448965715705279767:=0
def tw7654295783911030595:=0
def tw3718290544492840024:=0
def tw1518072547604771767:=0
def tw11976163812795991142:=0
def tw9035295125028421044:=0
def tw10101976978694830713:=0
def tw11891519012891218792:=0
def tw12909086181964488331:=0
def tw17754891277099096532:=0
def tw11275618262338675953:=0
def tw16399713519088645490:=0
def tw4957425688065327262:=0
def tw143697891762695219:=0
def tw14278612264115008619:=0
def tw8502181003832232843:=0
def tw10756466605835310772:=0
def tw8079111361836421111:=0
def tw10304569767860868806:=0
def tw7619617880716551757:=0
def tw9818370553349972514:=0
def tw346859322670094602:=0
def tw18386176149644595497:=0
def tw17722699363624806196:=0
def tw10072030107892741587:=0
def tw12774784787777328114:=0
def tw3903768812815835029:=0
def tw17644935207737419242:=0
def tw1469045430623731732:=0
def tw903975242120724723:=0
def tw17312781276669488981:=0
def tw9120929658377328438:=0
def tw7178231186224140977:=0
def tw14333269414992841448:=0
def tw16954558898035028360:=0
def tw2037236330573195883:=0
def tw15033676697542082441:=0
def tw5125156225442548829:=0
def tw5714145123378403613:=0
def tw17028503248155057477:=0
def tw17270270506339880379:=0
def tw7699730116164386213:=0
def tw12772591199399443385:=0
def tw2934778969447207105:=0
def tw10117752262395701410:=0
def tw3876237536669579703:=0
def tw9766858463040880274:=0
def tw7072560250901762897:=0
def tw13272983082273402481:=0
def tw14729331599253332590:=0
def tw14971819013282193201:=0
def tw12725315300635792430:=0
def tw1136136627699737774:=0
def tw18351724030702331694:=0
def tw10361272746972274451:=0
def tw824850162468915100:=0
def tw609164347313819109:=0
def tw4638333466139545539:=0
def tw7861207360782337964:=0
def tw14718087107311948228:=0
def tw5977798554238628976:=0
def tw5967942701242533818:=0
def tw9015411032297922782:=0
def tw14658032874824622193:=0
def tw281589994921247877:=0
def tw7560576035691646592:=0
def tw16569199814223386918:=0
def tw12145810515366547945:=0
def tw699419247210447657:=0
def tw2696985275108054785:=0
def tw10933235437698212263:=0
def tw14320914675630780148:=0
def tw4686285047319345780:=0
def tw11466163517001770791:=0
def tw11678167723621445934:=0
def tw17988500143846863613:=0
def tw2407507996319033632:=0
def tw2949088166889807914:=0
def tw8154989451525720980:=0
def tw13249405625272069529:=0
def tw5091736280066724655:=0
def tw3866252097736359108:=0
def tw14785324163167886169:=0
def tw8548948971475528987:=0
def tw1643216149866488442:=0
def tw2275844087372613097:=0
def tw1490601337951392187:=0
def tw3343237650101266661:=0
def tw8379392637802226992:=0
def tw6699683894676352:=0
def tw8958921695487417321:=0
def tw18266220190102452519:=0
def tw12037193551983464409:=0
def tw11344676369750296562:=0
def tw15487704705063596665:=0
def tw12757161954173702323:=0
def tw1920157065086334517:=0
def tw17647303501516942495:=0
def tw2499182086452141841:=0
def tw13627094352689507290:=0
def tw5685338680479600506:=0
def tw12221100040257803923:=0
def tw3530435186707771919:=0
def tw4216258378649036735:=0
def tw1394153699921953597:=0
def tw2751754916348275508:=0
def tw3446312285416762505:=0
def tw13695186864732760033:=0
def tw1251784424053670445:=0
def tw10800047362645371932:=0
def tw7133452885233940175:=0
def tw7798909383153267893:=0
def tw12615296306606884867:=0
def tw9139731780104713527:=0
def tw16247980010128597228:=0
def tw6149816826887696777:=0
def tw9674502602105474256:=0
def tw16888051621362291565:=0
def tw16221822972974369262:=0
def tw8582914310726842392:=0
def tw3237415708286402895:=0
def tw15023396545505305429:=0
def tw14741870462328586229:=0
def tw12894539080510688928:=0
def tw6937802713422594069:=0
def tw10159918276708967956:=0
def tw5210943204238400981:=0
def tw8493641952543866564:=0
def tw3652702098546667236:=0
def tw12893673173692355488:=0
def tw3409154764801461456:=0
def tw7538363774437655742:=0
def tw14764115594557414582:=0
def tw2220445835186796894:=0
def tw12343321701410599893:=0
def tw14838367511446956175:=0
def tw18412353808670610073:=0
def tw14284737971240862994:=0
def tw3949176360532526930:=0
def tw14565299851832780578:=0
def tw1147113982381490450:=0
def tw5950286882627173154:=0
def tw5201796797754847493:=0
def tw11950372016612902648:=0
def tw18270701895944449412:=0
def tw13106596262077231358:=0
def tw8880191723386933431:=0
def tw15038030815894440593:=0
def tw4327835085652983803:=0
def tw11395736572450116599:=0
def tw6055626267300158298:=0
def tw11306110177406223346:=0
def tw16665364014309551259:=0
def tw10610884520589657771:=0
def tw13284616622305520673:=0
def tw7460211828352279584:=0
def tw6537472786695331621:=0
def tw14374915268253973510:=0
def tw5826898620387068397:=0
def tw5335579401957112427:=0
def tw17050732644495501612:=0
def tw11218533613839965784:=0
def tw13448397162177002945:=0
def tw1004950679150073496:=0
def tw13306435632805288096:=0
def tw11551208399141171828:=0
def tw2805790341867569565:=0
def tw13175481832849805462:=0
def tw16739897493623964632:=0
def tw18421081815800886983:=0
def tw1975632250449472352:=0
def tw67983168970377691:=0
def tw13123689052623673097:=0
def tw14352601917752549493:=0
def tw12450773378131106062:=0
def tw7169984436187629343:=0
end PySem.W.Fast
open PySem PySem.W PyProof.Rows
set_option maxRecDepth 100000 in
set_option maxHeartbeats 0 in
theorem PySem.Challenge.cw_lastwaltz_k34_whole_danced_or_not_at_all_holds : PySem.Challenge.rw_lastwaltz_k34_whole_danced_or_not_at_all.Holds := by
 w_on;o_law;k_head;(case hw=>w_witness2)
 k_fill
 refine Wk34.walk (l:=PySem.Challenge.rw_lastwaltz_k34_whole_danced_or_not_at_all) (c0:=257) (P0:=253) rfl rfl (fun w h Y=>PySem.W.km_in_of Y) (fun w h Y=>PySem.W.km_tabs_of Y _ (IJ)) (fun w=>by kernel_rfl) (fun w=>by kernel_rfl) (fun w=>by kernel_rfl) ?F
 case F =>
  intro w mg fa h KX G hmg CK htab;refine' Wk34.all_mk2 KX G hmg CK htab ?aC ?n_cW ?n_cA ?n_cM ?n_cS ?n_cT ?n_cN ?b_cN ?pg ?hd ?po ?sa ?yZ ?qS ?qQ ?we ?e_cA ?e_cM ?e_cS ?e_cT ?e_cN ?g1 ?g2 ?g3 ?g4 ?g5 ?g6 ?g7 ?g8 ?tN ?wS ?wR ?wI ?x_aa ?x_ma ?x_mm ?x_sa ?x_sm ?x_ss ?x_ta ?x_tm ?x_ts ?x_tt ?x_na ?x_nm ?x_ns ?x_nt ?x_nn ?mk ?kc ?x_sn ?x_tn ?kI ?oS ?qq ?oX ?qk ?oV ?ir ?oU ?sV ?sU ?oR ?kJ ?oP ?iN ?jx ?jy ?iP ?nJ ?k8 ?fu ?fz ?vn ?kK ?kG ?oW ?qp ?kH ?oQ ?sW ?kE ?yy ?lP ?qo ?kC ?iO ?kD ?jm ?lO ?hJ ?hU ?lQ ?nK ?lR ?oY ?jz ?DP ?Ef ?zv ?nE ?zw ?Cy ?Ee ?Cv ?Ec ?Ed ?w8 ?rW ?Ei ?Eh ?Eg ?Cw ?El ?pC ?Ek ?Ej
  (case aC=>k_is)
  (case n_cW=>k_is)
  (case n_cA=>k_is)
  (case n_cM=>k_is)
  (case n_cS=>k_is)
  (case n_cT=>k_is)
  (case n_cN=>k_is)
  (case b_cN=>k_is)
  (case e_cA=>kernel_rfl)
  (case e_cM=>kernel_rfl)
  (case e_cS=>kernel_rfl)
  (case e_cT=>kernel_rfl)
  (case e_cN=>kernel_rfl)
  (case g8=>kernel_rfl)
  (case x_aa=>kernel_rfl)
  (case x_ma=>kernel_rfl)
  (case x_mm=>kernel_rfl)
  (case x_sa=>kernel_rfl)
  (case x_sm=>kernel_rfl)
  (case x_ss=>kernel_rfl)
  (case x_ta=>kernel_rfl)
  (case x_tm=>kernel_rfl)
  (case x_ts=>kernel_rfl)
  (case x_tt=>kernel_rfl)
  (case x_na=>kernel_rfl)
  (case x_nm=>kernel_rfl)
  (case x_ns=>kernel_rfl)
  (case x_nt=>kernel_rfl)
  (case x_nn=>kernel_rfl)
  (case x_sn=>kernel_rfl)
  (case x_tn=>kernel_rfl)
  all_goals first | (refine' Wz.fact_mk ?a ?l ?c ?k;(case a=>k_is);(case l=>k_is);(case c=>k_is);(case k=>k_is)) | (refine' Wz.mfact_mk ?a ?i ?l ?c ?k;(case a=>k_is);(case i=>k_is);(case l=>k_is);(case c=>k_is);(case k=>k_is)) | k_is
