import PyProof.Rows.All
import Wide.All
import OpenK.AllK
import Wide.FinOn
import Lean
import PyProof.EqAt
import PyProof.EqKinds
import PyProof.TupleCall
import PyProof.NeData
import PyProof.DictItems
import PyProof.JoinWalk
import PyProof.CallStr
import OpenK.KOwn
import KE.KTryMore
import PyProof.EnumMake
import KE.KLam
import KE.KNestM
import KE.KEqDict
import PySem.Challenge.RW_lastwaltz_k32_whole_morning_or_barred
set_option Elab.async false
set_option linter.all false
set_option maxRecDepth 100000
set_option maxHeartbeats 4000000
theorem Hs:type_of% @List.length_map:=@List.length_map
theorem Ht:type_of% @PySem.wpAny_bind:=@PySem.wpAny_bind
theorem Hu:type_of% @if_neg:=@if_neg
theorem Hv:type_of% @Nat.le_refl:=@Nat.le_refl
theorem Hw:type_of% @if_pos:=@if_pos
theorem Hx:type_of% @List.mem_of_getElem?:=@List.mem_of_getElem?
theorem Hy:type_of% @Option.some.inj:=@Option.some.inj
theorem Hz:type_of% @PySem.wpAny_pure:=@PySem.wpAny_pure
theorem HL:type_of% @List.mem_cons_of_mem:=@List.mem_cons_of_mem
theorem HN:type_of% @Bool.false_ne_true:=@Bool.false_ne_true
theorem HQ:type_of% @PySem.Heap.lt_size:=@PySem.Heap.lt_size
theorem HR:type_of% @List.mem_singleton:=@List.mem_singleton
theorem HU:type_of% @List.size_toArray:=@List.size_toArray
theorem HV:type_of% @List.mem_cons_self:=@List.mem_cons_self
theorem HW:type_of% @List.mem_cons:=@List.mem_cons
theorem HY:type_of% @decide_eq_true:=@decide_eq_true
theorem Ia:type_of% @List.length_append:=@List.length_append
theorem Ib:type_of% @Nat.ne_of_lt:=@Nat.ne_of_lt
theorem Ic:type_of% @PySem.Paired.length:=@PySem.Paired.length
theorem Ie:type_of% @List.mem_append:=@List.mem_append
theorem Ig:type_of% @List.mem_append_right:=@List.mem_append_right
theorem Ih:type_of% @decide_eq_false:=@decide_eq_false
theorem Ii:type_of% @List.map_append:=@List.map_append
theorem Ij:type_of% @Nat.lt_of_lt_of_le:=@Nat.lt_of_lt_of_le
theorem Ik:type_of% @Ne.symm:=@Ne.symm
theorem Il:type_of% @PySem.wpAny_mono:=@PySem.wpAny_mono
theorem Io:type_of% @List.length_take:=@List.length_take
theorem Ip:type_of% @Nat.zero_le:=@Nat.zero_le
theorem Iq:type_of% @PySem.F.plainAttrs_list:=@PySem.F.plainAttrs_list
theorem Ir:type_of% @List.take_length:=@List.take_length
theorem Iu:type_of% @PySem.W.mg_none_of:=@PySem.W.mg_none_of
theorem Iv:type_of% @List.take_add_one:=@List.take_add_one
theorem Iw:type_of% @List.map_cons:=@List.map_cons
theorem Ix:type_of% @Nat.le_trans:=@Nat.le_trans
theorem Iy:type_of% @List.mem_filter:=@List.mem_filter
theorem Iz:type_of% @List.nodup_cons:=@List.nodup_cons
theorem IA:type_of% @List.map_map:=@List.map_map
theorem IB:type_of% @List.mem_map:=@List.mem_map
theorem IC:type_of% @List.length_singleton:=@List.length_singleton
theorem ID:type_of% @Option.toList_some:=@Option.toList_some
theorem IE:type_of% @PySem.F.slot_list_append:=@PySem.F.slot_list_append
theorem IF:type_of% @PySem.F.type_list_append:=@PySem.F.type_list_append
theorem IG:type_of% @List.mem_map_of_mem:=@List.mem_map_of_mem
theorem II:type_of% @PySem.PassesOwn.never:=@PySem.PassesOwn.never
theorem IJ:type_of% @Option.isSome_iff_exists:=@Option.isSome_iff_exists
theorem IK:type_of% @List.lookup_cons:=@List.lookup_cons
theorem IM:type_of% @PySem.wpAny_newObj_type:=@PySem.wpAny_newObj_type
theorem IN:type_of% @List.length_cons:=@List.length_cons
theorem IP:type_of% @PySem.Calls.spliced_cons:=@PySem.Calls.spliced_cons
theorem IQ:type_of% @PyProof.Rows.boot_sorted:=@PyProof.Rows.boot_sorted
theorem IR:type_of% @List.mem_range:=@List.mem_range
theorem IS:type_of% @Int.emod_lt_of_pos:=@Int.emod_lt_of_pos
theorem IT:type_of% @PySem.wpAny_standAt:=@PySem.wpAny_standAt
theorem IU:type_of% @PySem.W.mg_of:=@PySem.W.mg_of
theorem IV:type_of% @List.length_filter_le:=@List.length_filter_le
theorem IW:type_of% @PySem.W.kia_one:=@PySem.W.kia_one
theorem IX:type_of% @PySem.wpAny_Call_Name_kw:=@PySem.wpAny_Call_Name_kw
theorem IY:type_of% @List.length_dropLast:=@List.length_dropLast
theorem IZ:type_of% @of_decide_eq_true:=@of_decide_eq_true
theorem I0:type_of% @beq_eq_false_iff_ne:=@beq_eq_false_iff_ne
theorem Ja:type_of% @PySem.mem_of_lookup:=@PySem.mem_of_lookup
theorem Jb:type_of% @Int.emod_nonneg:=@Int.emod_nonneg
theorem Jc:type_of% @PySem.wpAny_typeNameOfWhole_keyiter:=@PySem.wpAny_typeNameOfWhole_keyiter
theorem Jd:type_of% @Bool.and_eq_true:=@Bool.and_eq_true
theorem Je:type_of% @List.filter_append:=@List.filter_append
theorem Jf:type_of% @PySem.wpAny_holding:=@PySem.wpAny_holding
theorem Jg:type_of% @List.any_cons:=@List.any_cons
theorem Ji:type_of% @PySem.Calls.evalArgs_plain:=@PySem.Calls.evalArgs_plain
theorem Jj:type_of% @PySem.F.slot_dict_keyiterator_next:=@PySem.F.slot_dict_keyiterator_next
theorem Jk:type_of% @PySem.boot_len:=@PySem.boot_len
theorem Jm:type_of% @PySem.wpAny_truthy_bool:=@PySem.wpAny_truthy_bool
theorem Jn:type_of% @Nat.lt_succ_of_lt:=@Nat.lt_succ_of_lt
theorem Jo:type_of% @List.length_range:=@List.length_range
theorem Jp:type_of% @Array.length_toList:=@Array.length_toList
theorem Jq:type_of% @List.getElem_of_mem:=@List.getElem_of_mem
theorem Jr:type_of% @PyProof.Rows.boot_list:=@PyProof.Rows.boot_list
theorem Js:type_of% @Nat.lt_of_le_of_lt:=@Nat.lt_of_le_of_lt
theorem Jt:type_of% @PySem.sizeLine_eq:=@PySem.sizeLine_eq
theorem Ju:type_of% @Nat.le_of_lt:=@Nat.le_of_lt
theorem Jv:type_of% @List.mem_append_left:=@List.mem_append_left
theorem Jw:type_of% @List.append_nil:=@List.append_nil
theorem Jx:type_of% @PySem.codeAny_mono:=@PySem.codeAny_mono
theorem Jy:type_of% @List.foldl_cons:=@List.foldl_cons
theorem Jz:type_of% @PySem.wpAny_typeNameOf_keyiter:=@PySem.wpAny_typeNameOf_keyiter
theorem JA:type_of% @PySem.Calls.spliced_nil:=@PySem.Calls.spliced_nil
theorem JB:type_of% @Option.isSome_map:=@Option.isSome_map
theorem JC:type_of% @List.foldl_append:=@List.foldl_append
theorem JD:type_of% @List.append_assoc:=@List.append_assoc
theorem JE:type_of% @List.map_congr_left:=@List.map_congr_left
theorem JF:type_of% @List.length_reverse:=@List.length_reverse
theorem JG:type_of% @PySem.Calls.callWith_builtin:=@PySem.Calls.callWith_builtin
theorem JH:type_of% @PyProof.Rows.callWith_type1:=@PyProof.Rows.callWith_type1
theorem JI:type_of% @PySem.wpAny_passesOwn:=@PySem.wpAny_passesOwn
theorem JJ:type_of% @congrArg:=@congrArg
theorem JK:type_of% @PySem.F.excBase_ValueError:=@PySem.F.excBase_ValueError
theorem JL:type_of% @List.take_sublist:=@List.take_sublist
theorem JM:type_of% @Int.toNat_natCast:=@Int.toNat_natCast
theorem JN:type_of% @List.nodup_append:=@List.nodup_append
theorem JO:type_of% @List.pairwise_map:=@List.pairwise_map
theorem JP:type_of% @PySem.wpAny_newFunctionEnv:=@PySem.wpAny_newFunctionEnv
theorem JQ:type_of% @List.pairwise_iff_getElem:=@List.pairwise_iff_getElem
theorem JR:type_of% @PySem.Heap.size_push:=@PySem.Heap.size_push
theorem JS:type_of% @List.nodup_nil:=@List.nodup_nil
theorem JT:type_of% @List.length_drop:=@List.length_drop
theorem JU:type_of% @PySem.wpAny_call_entry:=@PySem.wpAny_call_entry
theorem JV:type_of% @List.not_mem_nil:=@List.not_mem_nil
theorem JW:type_of% @List.filterMap_cons:=@List.filterMap_cons
theorem JX:type_of% @List.mergeSort_perm:=@List.mergeSort_perm
theorem JY:type_of% @List.filter_sublist:=@List.filter_sublist
theorem JZ:type_of% @Nat.lt_irrefl:=@Nat.lt_irrefl
theorem J0:type_of% @beq_iff_eq:=@beq_iff_eq
theorem J2:type_of% @PySem.tupleKind_room_in1:=@PySem.tupleKind_room_in1
theorem J3:type_of% @PySem.Obj.data_mapFields:=@PySem.Obj.data_mapFields
theorem J4:type_of% @PySem.wpAny_field:=@PySem.wpAny_field
theorem J5:type_of% @PySem.wpAny_loadPart_at:=@PySem.wpAny_loadPart_at
theorem J6:type_of% @List.map_dropLast:=@List.map_dropLast
theorem J8:type_of% @List.any_map:=@List.any_map
theorem J9:type_of% @PySem.wpAny_setField:=@PySem.wpAny_setField
theorem Ka:type_of% @PySem.wpAny_call:=@PySem.wpAny_call
namespace L2
open PySem PySem.Spec PyProof.Rows
abbrev bP:=Sum Int Str
def tP:bP->Value->Bool
 | .inl k,v=>Value.isInt k v
 | .inr x,v=>Value.isStrOf x v
def Gm (w:World):bP->Int
 | .inl k=>hashInt k
 | .inr x=>hashStr w x
theorem bK:∀ {k:bP}{v:Value},tP k v=true->(∃ i t,k=Sum.inl i/\v=Value.int i t)\/(∃ x t,k=Sum.inr x/\v=Value.str x t)
 | .inl i,v,h=>by
  obtain⟨t,e⟩:=Value.isInt_shape (k:=i) (v:=v) h;exact .inl ⟨i,t,rfl,e⟩
 | .inr x,v,h=>by
  obtain⟨t,e⟩:=Value.isStrOf_shape (x:=x) (v:=v) h;exact .inr ⟨x,t,rfl,e⟩
theorem zR (i:Int)(t:Tok):tP (.inl i) (.int i t)=true:=by simp[tP,Value.isInt]
theorem zS (x:Str)(t:Tok):tP (.inr x) (.str x t)=true:=by simp[tP,Value.isStrOf]
theorem D7 (a b:Int):decide ((Sum.inl a:bP)=Sum.inl b)=(a == b):=by
 by_cases e:a=b
 ·subst e;simp
 ·have h:¬ (Sum.inl a:bP)=Sum.inl b:=fun q=>e (Sum.inl.inj q)
  rw[Ih h];exact (I0.mpr e).symm
theorem Ea (a b:Str):decide ((Sum.inr a:bP)=Sum.inr b)=decide (a=b):=by
 by_cases e:a=b
 ·subst e;simp
 ·have h:¬ (Sum.inr a:bP)=Sum.inr b:=fun q=>e (Sum.inr.inj q)
  rw[Ih h,Ih e]
theorem D8 (a:Int)(b:Str):decide ((Sum.inl a:bP)=Sum.inr b)=false:=Ih (fun q=>nomatch q)
theorem D9 (a:Str)(b:Int):decide ((Sum.inr a:bP)=Sum.inl b)=false:=Ih (fun q=>nomatch q)
def be (prog:Program)(w:World):PySem.KeyKind prog w bP where
 is:=tP
 hash:=Gm w
 inj:=fun v a b ha hb=>by
  rcases bK ha with ⟨i,t,rfl,rfl⟩ | ⟨x,t,rfl,rfl⟩
  ·rcases bK hb with ⟨j,u,rfl,e⟩ | ⟨y,u,rfl,e⟩
   ·injection e with e1 _;rw[e1]
   ·exact nomatch e
  ·rcases bK hb with ⟨j,u,rfl,e⟩ | ⟨y,u,rfl,e⟩
   ·exact nomatch e
   ·injection e with e1 _;rw[e1]
 byValue:=fun k v h=>by
  rcases bK h with ⟨i,t,rfl,rfl⟩ | ⟨x,t,rfl,rfl⟩<;>rfl
 pyHash:=fun hv h=>by
  rcases bK hv with ⟨i,t,rfl,rfl⟩ | ⟨x,t,rfl,rfl⟩
  ·exact wpAny_pyHash_int h
  ·exact wpAny_pyHash_str h
 eqBool:=fun hu hv h=>by
  rcases bK hu with ⟨i,t,rfl,rfl⟩ | ⟨x,t,rfl,rfl⟩
  ·rcases bK hv with ⟨j,u,rfl,rfl⟩ | ⟨y,u,rfl,rfl⟩
   ·rw[D7]at h;exact wpAny_eqBool_int h
   ·rw[D8]at h;exact SeqAt.EqAt.int_str i t y u _ _ _ _ h
  ·rcases bK hv with ⟨j,u,rfl,rfl⟩ | ⟨y,u,rfl,rfl⟩
   ·rw[D9]at h;exact SeqAt.EqAt.str_int x t j u _ _ _ _ h
   ·rw[Ea]at h;exact wpAny_eqBool_str h
 «strs»:=fun k x t v h=>by
  rcases bK h with ⟨i,u,rfl,e⟩ | ⟨y,u,rfl,e⟩
  ·exact nomatch e
  ·injection e with e1 _
   subst e1;cases v<;>rfl
theorem wC (prog:Program)(w:World)(i:Int)(t:Tok):(be prog w).is (.inl i) (.int i t)=true:=zR i t
theorem wD (prog:Program)(w:World)(x:Str)(t:Tok):(be prog w).is (.inr x) (.str x t)=true:=zS x t
inductive V where
 | non | bl (b:Bool) | int (i:Int) | str (x:Str) | byt (b:Array UInt8) | flt (b:UInt64) | ref (a:Addr) | ty (n:String)
 deriving DecidableEq
def aO:V->Value->Prop
 | .non,u=>u=Value.none
 | .bl b,u=>u=Value.bool b
 | .int i,u=>∃ t,u=Value.int i t
 | .str x,u=>∃ t,u=Value.str x t
 | .byt b,u=>∃ t,u=Value.bytes b t
 | .flt b,u=>∃ t,u=Value.float b t
 | .ref a,u=>u=Value.ref a
 | .ty n,u=>u=Value.type n
abbrev aQ:List V->List Value->Prop:=Paired aO
theorem aQ.length {xs:List V}{us:List Value}(r:aQ xs us):xs.length=us.length:=Ic r
theorem aQ.get:∀ {xs:List V}{us:List Value}{i:Nat}{x:V},aQ xs us->xs[i]? = some x->∃ u,us[i]? = some u/\aO x u
 | _,_,_,_,.nil,e=>by simp at e
 | _,_,0,_,.cons r _,e=>by simp at e;subst e;exact⟨_,rfl,r⟩
 | _,_,i+1,x,.cons _ t,e=>by
  obtain⟨u,h1,h2⟩:=aQ.get (i:=i) (x:=x) t (by simpa using e);exact⟨u,by simpa using h1,h2⟩
theorem aQ.append:∀ {xs ys:List V}{us ws:List Value},aQ xs us->aQ ys ws->aQ (xs++ys) (us++ws)
 | _,_,_,_,.nil,s=>s
 | _,_,_,_,.cons r t,s=>.cons r (aQ.append t s)
theorem aQ.take:∀ {xs:List V}{us:List Value}(n:Nat),aQ xs us->aQ (xs.take n) (us.take n)
 | _,_,0,_=>.nil
 | _,_,_+1,.nil=>.nil
 | _,_,n+1,.cons r t=>.cons r (aQ.take n t)
theorem aQ.drop:∀ {xs:List V}{us:List Value}(n:Nat),aQ xs us->aQ (xs.drop n) (us.drop n)
 | _,_,0,r=>r
 | _,_,_+1,.nil=>.nil
 | _,_,n+1,.cons _ t=>aQ.drop n t
def gW:Option V->Option Value->Prop
 | some v,some u=>aO v u
 | none,none=>True
 | _,_=>False
def KV {κ:Type}:List (κ×V)->List (κ×Value)->Prop:=Paired fun (p:κ×V)(q:κ×Value)=>p.1=q.1/\aO p.2 q.2
def kV:bP->V
 | .inl i=>.int i
 | .inr x=>.str x
inductive HO where
 | lst (xs:List V)
 | tup (xs:List V)
 | dK (kvs:List (bP×V)) | dT (kvs:List (List bP×V))
 | set (S:Int->Bool) (n:Nat)
 | ins (C dx:Addr) (fs:List (Str×V))
 | own (x:Addr)
 | xd (fs:List (Str×V))
 | met (f x:Addr)
 | rng (lo hi:Int)
 | frz (o:Obj) (u:HO)
 | tbl (ps:Array Value)
 | ext (φ:Heap->Prop)
abbrev Hp:=Addr->Option HO
def upd (H:Hp)(a:Addr)(o:HO):Hp:=fun b=>if b=a then some o else H b
theorem ac {H:Hp}{a:Addr}{o:HO}:upd H a o a=some o:=by unfold upd;rw[Hw rfl]
theorem ae {H:Hp}{a b:Addr}{o:HO}(h:b≠a):upd H a o b=H b:=by unfold upd;rw[Hu h]
theorem iW {H:Hp}{a:Addr}{o u:HO}:upd (upd H a o) a u=upd H a u:=by
 funext b;unfold upd;split<;>rfl
theorem bY {H:Hp}{a b:Addr}{o u:HO}(h:H a=some o)(h':H b=some u)(d:o≠u):a≠b:=by
 intro e;subst e;rw[h]at h';exact d (Hy h')
theorem aj {H:Hp}{a b:Addr}{o:HO}(h:H a=some o)(h':H b=none):a≠b:=by
 intro e;subst e;rw[h]at h';cases h'
section
variable (P:Program)(w:World)
def bb (H:Hp)(h:Heap)(a:Addr):HO->Prop
 | .lst xs=>xs.length<=sizeLine/\∃ (its:List Value)(n:Nat),aQ xs its/\h.get? a=some { cls:=.type "list",data:=.seq its.toArray n }
 | .tup xs=>xs.length<=sizeLine/\∃ its:List Value,aQ xs its/\IsTup h a its.toArray
 | .dK kvs=>kvs.length<=sizeLine/\(a == sysModules)=false/\∃ vs,KV kvs vs/\h.DictOf (be P w) a vs
 | .dT kvs=>kvs.length<=sizeLine/\(a == sysModules)=false/\∃ xs:List (List bP×Addr×Value),
   Paired (fun (p:List bP×V)(q:List bP×Addr×Value)=>p.1=q.1/\H q.2.1=some (.tup (p.1.map kV))/\aO p.2 q.2.2) kvs xs /\
   ∃ o es ep,h.get? a=some o/\o.ExactDict/\o.data=.dict es ep/\es.toList=xs.map (entryOfKey (tupleKind (be P w)))/\(xs.map (·.1)).Nodup
 | .set S n=>h.SetOf (intKind P w) a S n
 | .ins C dx fs=>H dx=some (.own a)/\fs.length<=1000/\dx≠a/\h.get? a=some (PySem.W.instObj C dx) /\
   ∃ mA,h.Ns1 dx mA/\(∀ f,gW (fs.lookup f) (mA f))/\PySem.Within mA (fs.map (·.1))
 | .own _=>∃ o,h.get? a=some o
 | .xd fs=>∃ mA,h.Ns1 a mA/\∀ f,gW (fs.lookup f) (mA f)
 | .rng lo hi=>∃ t u v,h.get? a=some { cls:=.type "range",data:=.fields #[.int lo t,.int hi u,.int 1 v] }
 | .frz o u=>h.get? a=some o/\bb H h a u
 | .tbl ps=>h.get? a=some { cls:=.none,data:=.fields ps }
 | .met f x=>h.get? a=some (PySem.W.methodObj (.ref f) (.ref x))
 | .ext φ=>φ h/\(∃ o,h.get? a=some o)/\∀ h1 h2:Heap,φ h1->(∀ o,h1.get? a=some o->h2.get? a=some o)->φ h2
def i7 (H:Hp)(h:Heap):Prop:=∀ a o,H a=some o->bb P w H h a o
end
section
variable {P:Program}{w:World}{H H':Hp}{h h':Heap}{a:Addr}{o:HO}
theorem bb.lt (x:bb P w H h a o):a<h.objs.size:=by
 cases o with
 | lst xs=>obtain⟨_,_,_,_,e⟩:=x;exact HQ e
 | tup xs=>obtain⟨_,_,_,p⟩:=x;exact p.lt
 | dK kvs=>obtain⟨_,_,_,_,o,_,_,e,_⟩:=x;exact HQ e
 | dT kvs=>obtain⟨_,_,_,_,o,_,_,e,_⟩:=x;exact HQ e
 | set S n=>obtain⟨o,_,_,_,e,_⟩:=x;exact HQ e
 | ins C dx fs=>obtain⟨_,_,_,e,_⟩:=x;exact HQ e
 | own y=>obtain⟨_,e⟩:=x;exact HQ e
 | xd fs=>obtain⟨_,⟨_,_,_,e,_⟩,_⟩:=x;exact HQ e
 | rng lo hi=>obtain⟨_,_,_,e⟩:=x;exact HQ e
 | frz ob u=>obtain⟨e,_⟩:=x;exact HQ e
 | tbl ps=>exact HQ (show h.get? a=some _ from x)
 | met f y=>exact HQ (show h.get? a=some _ from x)
 | ext φ=>obtain⟨_,⟨_,e⟩,_⟩:=x;exact HQ e
theorem Paired.mapP {α β:Type}{F G:α->β->Prop}:∀ {l₁:List α}{l₂:List β},Paired F l₁ l₂->(∀ a b,F a b->G a b)->Paired G l₁ l₂
 | _,_,.nil,_=>.nil
 | _,_,.cons r t,f=>.cons (f _ _ r) (Paired.mapP t f)
theorem bb.stay (x:bb P w H h a o)(k:∀ b u,(b=a\/H b=some (.own a))->h.get? b=some u->h'.get? b=some u)
  (ho:∀ b,H b=some (.own a)->H' b=some (.own a)) (ht:∀ b xs,H b=some (.tup xs)->H' b=some (.tup xs)):bb P w H' h' a o:=by
 induction o with
 | lst xs=>obtain⟨z,its,n,r,e⟩:=x;exact⟨z,its,n,r,k _ _ (.inl rfl) e⟩
 | tup xs=>obtain⟨z,its,r,ob,e,c⟩:=x;exact⟨z,its,r,ob,k _ _ (.inl rfl) e,c⟩
 | dK kvs=>obtain⟨z,y,vs,r,ob,es,ep,e,c⟩:=x;exact⟨z,y,vs,r,ob,es,ep,k _ _ (.inl rfl) e,c⟩
 | dT kvs =>
  obtain⟨z,y,xs,r,ob,es,ep,e,c⟩:=x;exact⟨z,y,xs,Paired.mapP r fun p q z=>⟨z.1,ht _ _ z.2.1,z.2.2⟩,ob,es,ep,k _ _ (.inl rfl) e,c⟩
 | set S n=>obtain⟨ob,es,ep,t,e,c⟩:=x;exact⟨ob,es,ep,t,k _ _ (.inl rfl) e,c⟩
 | ins C dx fs =>
  obtain⟨d,z,ne,e,mA,⟨od,es,ep,e2,c⟩,r⟩:=x;exact⟨ho _ d,z,ne,k _ _ (.inl rfl) e,mA,⟨od,es,ep,k _ _ (.inr d) e2,c⟩,r⟩
 | own y=>obtain⟨ob,e⟩:=x;exact⟨ob,k _ _ (.inl rfl) e⟩
 | xd fs=>obtain⟨mA,⟨od,es,ep,e,c⟩,r⟩:=x;exact⟨mA,⟨od,es,ep,k _ _ (.inl rfl) e,c⟩,r⟩
 | rng lo hi=>obtain⟨t,u,v,e⟩:=x;exact⟨t,u,v,k _ _ (.inl rfl) e⟩
 | frz ob u ih=>obtain⟨e,q⟩:=x;exact⟨k _ _ (.inl rfl) e,ih q⟩
 | tbl ps =>
  have e:h.get? a=some { cls:=.none,data:=.fields ps }:=x
  show h'.get? a=some { cls:=.none,data:=.fields ps }
  exact k a _ (.inl rfl) e
 | met f y =>
  have e:h.get? a=some (PySem.W.methodObj (.ref f) (.ref y)):=x
  show h'.get? a=some (PySem.W.methodObj (.ref f) (.ref y))
  exact k a _ (.inl rfl) e
 | ext φ=>obtain⟨p,⟨o,e⟩,st⟩:=x;exact⟨st _ _ p fun o q=>k _ _ (.inl rfl) q,⟨o,k _ _ (.inl rfl) e⟩,st⟩
theorem i7.lt (x:i7 P w H h)(e:H a=some o):a<h.objs.size:=(x a o e).lt
theorem i7.fresh (x:i7 P w H h)(e:h.objs.size<=a):H a=none:=by
 cases q:H a with
 | none=>rfl
 | some u=>exact absurd (Ij (x.lt q) e) (JZ _)
theorem i7.kept (x:i7 P w H h)(k:∀ b u,h.get? b=some u->h'.get? b=some u):i7 P w H h':=fun a o e =>
 (x a o e).stay (fun b u _ q=>k b u q) (fun _ q=>q) fun _ _ q=>q
theorem i7.laid (x:i7 P w H h)(k:∀ b u,h.get? b=some u->h'.get? b=some u)(hp:h.objs.size<=a)(new:bb P w (upd H a o) h' a o):i7 P w (upd H a o) h':=fun b u e=>by
 have hn:=x.fresh hp
 by_cases hb:b=a
 ·subst hb;rw[ac]at e;cases e;exact new
 ·rw[ae hb]at e
  exact (x b u e).stay (fun c v _ q=>k c v q) (fun c q=>by rw[ae (aj q hn)];exact q) fun c xs q=>by rw[ae (aj q hn)];exact q
end
def Rd (H:Hp)(a:Addr)(u:HO):Prop:=H a=some u\/∃ o,H a=some (.frz o u)
theorem Rd.ok {P:Program}{w:World}{H:Hp}{h:Heap}{a:Addr}{u:HO}(r:Rd H a u)(x:i7 P w H h):bb P w H h a u:=by
 rcases r with r | ⟨o,r⟩
 ·exact x a u r
 ·obtain⟨_,q⟩:=x a _ r
  exact q
def EZ:Option HO->Prop
 | some (.lst _)=>True
 | some (.dK _)=>True
 | some (.dT _)=>True
 | some (.set _ _)=>True
 | some (.ins _ _ _)=>True
 | some (.ext _)=>True
 | _=>False
section
variable {P:Program}{w:World}{H:Hp}{h h':Heap}{x e:Addr}{o':HO}
theorem i7.write (ok:i7 P w H h)(mu:EZ (H x))(he:e=x\/H e=some (.own x))(k:∀ b u,b≠e->h.get? b=some u->h'.get? b=some u)(heo:∃ u,h'.get? e=some u)
  (new:bb P w (upd H x o') h' x o'):i7 P w (upd H x o') h':=fun b u q=>by
 have nown:∀ c y,H c=some (.own y)->c≠x:=fun c y r z=>by subst z;rw[r]at mu;exact mu
 have ntup:∀ c xs,H c=some (.tup xs)->c≠x:=fun c xs r z=>by subst z;rw[r]at mu;exact mu
 by_cases hb:b=x
 ·subst hb;rw[ac]at q;cases q;exact new
 ·rw[ae hb]at q
  by_cases hbe:b=e
  ·have q':H b=some (.own x):=by
    rcases he with z | z
    ·exact absurd (hbe.trans z) hb
    ·rw[hbe];exact z
   rw[q]at q';cases q';obtain⟨v,hv⟩:=heo;exact⟨v,by rw[hbe];exact hv⟩
  ·refine (ok b u q).stay (fun c v hc r=>k c v ?_ r) (fun c r=>by rw[ae (nown c b r)];exact r) fun c xs r=>by rw[ae (ntup c xs r)];exact r
   rcases hc with rfl | hc
   ·exact hbe
   ·rintro rfl
    rcases he with z | z
    ·exact nown c b hc z
    ·rw[hc]at z;cases z;exact hb rfl
end
structure Un (fs ex:List Addr)(H H':Hp)(h h':Heap):Prop where
 keep:∀ b o,h.get? b=some o->H b=none->b∉fs->b∉ex->h'.get? b=some o
 slot:∀ b o,h.get? b=some o->H b=none->b∈fs->b∉ex->∃ sl,h'.get? b=some { o with slots:=sl }
 free:∀ b o,h.get? b=some o->H b=none->b∉ex->H' b=none
 there:∀ b o,h.get? b=some o->b∉ex->∃ o',h'.get? b=some o'
 tups:∀ b xs,H b=some (.tup xs)->H' b=some (.tup xs)
 frzs:∀ b o u,H b=some (.frz o u)->H' b=some (.frz o u)
 tbls:∀ b ps,H b=some (.tbl ps)->∃ more,H' b=some (.tbl (ps++more))
section
variable {fs fs' ex ex':List Addr}{H H1 H2:Hp}{h h1 h2 h':Heap}{a x e:Addr}{o:HO}
theorem Un.any (u:Un fs ex H H1 h h1){b:Addr}{ob:Obj}(q:h.get? b=some ob)(n:H b=none)(hx:b∉ex):∃ sl,h1.get? b=some { ob with slots:=sl }:=by
 by_cases hb:b∈fs
 ·exact u.slot b ob q n hb hx
 ·exact⟨ob.slots,u.keep b ob q n hb hx⟩
theorem Un.kept (k:∀ b u,h.get? b=some u->h'.get? b=some u):Un fs ex H H h h' :=
 ⟨fun b ob q _ _ _=>k b ob q,fun b ob q _ _ _=>⟨ob.slots,k b ob q⟩,fun _ _ _ n _=>n,fun b ob q _=>⟨ob,k b ob q⟩,fun _ _ q=>q,fun _ _ _ q=>q,fun _ ps q=>⟨#[],by rw[q];simp⟩⟩
theorem Un.refl:Un fs ex H H h h:=Un.kept fun _ _ q=>q
theorem Un.laid (k:∀ b u,h.get? b=some u->h'.get? b=some u)(hp:h.objs.size<=a)(hn:H a=none):Un fs ex H (upd H a o) h h' where
 keep:=fun b u q _ _ _=>k b u q
 slot:=fun b u q _ _ _=>⟨u.slots,k b u q⟩
 free:=fun b u q n _=>by rw[ae (Ib (Ij (HQ q) hp))];exact n
 there:=fun b u q _=>⟨u,k b u q⟩
 tups:=fun b xs q=>by rw[ae (aj q hn)];exact q
 frzs:=fun b u xs q=>by rw[ae (aj q hn)];exact q
 tbls:=fun b ps q=>⟨#[],by rw[ae (aj q hn),q];simp⟩
theorem Un.write (mu:EZ (H x))(he:e=x\/H e=some (.own x))(k:∀ b u,b≠e->h.get? b=some u->h'.get? b=some u)(heo:∃ u,h'.get? e=some u):Un fs ex H (upd H x o) h h':=by
 have hx:∀ b,H b=none->b≠x:=fun b n z=>by subst z;rw[n]at mu;exact mu
 have hb:∀ b,H b=none->b≠e:=fun b n z=>by
  subst z;rcases he with r | r
  ·exact hx b n r
  ·rw[n]at r;cases r
 have hm:∀ b u,H b=some u->¬ EZ (some u)->b≠x:=fun b u q nm z=>by subst z;rw[q]at mu;exact nm mu
 refine⟨fun b u q n _ _=>k b u (hb b n) q,fun b u q n _ _=>⟨u.slots,k b u (hb b n) q⟩,fun b u q n _=>by rw[ae (hx b n)];exact n,fun b u q _=>?_,
  fun b xs q=>by rw[ae (hm b _ q fun z=>z)];exact q,fun b u xs q=>by rw[ae (hm b _ q fun z=>z)];exact q,fun b ps q=>⟨#[],by rw[ae (hm b _ q fun z=>z),q];simp⟩⟩
 by_cases hbe:b=e
 ·subst hbe;exact heo
 ·exact⟨u,k b u hbe q⟩
end
def F0 (h:Heap)(H:Hp):List Addr:=(List.range h.objs.size).filter fun a=>(H a).isSome
def uE (h:Heap)(H:Hp):Heap:=PySem.W.hideAll h (F0 h H)
theorem zO (h:Heap)(H:Hp):(uE h H).objs.size=h.objs.size:=PySem.W.hideAll_size _ _
theorem qu {h:Heap}{H:Hp}{b:Addr}{o:Obj}(e:h.get? b=some o)(n:H b=none):(uE h H).get? b=some o :=
 PySem.W.hideAll_get _ e fun hm=>by
  have q:(H b).isSome=true:=(Iy.mp hm).2;rw[n]at q;simp at q
theorem C8 {h:Heap}{H:Hp}{b:Addr}{o:Obj}(e:(uE h H).get? b=some o):h.get? b=some o/\H b=none:=by
 have e':h.get? b=some o:=PySem.W.of_hideAll (F0 h H) e;refine⟨e',?_⟩
 cases q:H b with
 | none=>rfl
 | some x =>
  have hm:b∈F0 h H:=Iy.mpr ⟨IR.mpr (HQ e'),by simp[q]⟩;have z:(uE h H).get? b=none:=PySem.W.hideAll_none (F0 h H) hm;rw[z]at e;cases e
structure Mod (K:PySem.W.Frag)(mg:Str->Option Value)(base:Heap):Prop where
 kin:K.In base
 glob:base.Ns mainGlobals mg
 blt:∃ mb,base.Ns builtinsNs mb/\∀ x:Str,x≠"__name__"->mb x=bootBuiltins x
 nolimit:base.NoLimit
structure Cx where
 prog:Program
 w:World
 K:PySem.W.Frag
 mg:Str->Option Value
 base:Heap
 A:Around
 N:List Str
 s₀:Shared
 H₀:Hp
 env:Env
 outer:List Env
 stack:List Env
 ex:List Addr
 fn:Str->Bool
 calm:Bool
 pn:List (Addr×Obj)
 xe:Value->Shared->Prop
def gY (l:List Env):List Addr:=l.filterMap (·.frame)
abbrev Cx.fs (X:Cx):List Addr:=gY X.outer
def E7 (sc:Scope)(x:Str):Prop:=sc.names.lookup x=some .local\/sc.names.lookup x=some .cell\/sc.names.lookup x=some .free
def DZ (sc:Scope)(x:Str):Prop:=sc.names.lookup x=some .local\/sc.names.lookup x=some .cell
def F5 (env:Env)(h:Heap)(m:Str->Option Value)(x:Str)(u:Value):Prop :=
 (env.kindOf x=some .local/\m x=some u)\/((env.kindOf x=some .cell\/env.kindOf x=some .free)/\∃ c,env.cells.lookup x=some c/\h.IsCell c (some u))
structure Cx.Ok (X:Cx):Prop where
 mod:Mod X.K X.mg X.base
 kind:X.env.scope.kind=.function
 glob:X.env.globals=mainGlobals
 blt:X.env.builtins=builtinsNs
 above:X.s₀.heap.objs.size<=X.env.locals
 inj:∀ x y c,X.env.cells.lookup x=some c->X.env.cells.lookup y=some c->x=y
 has:∀ x,(X.env.kindOf x=some .cell\/X.env.kindOf x=some .free)->∃ c,X.env.cells.lookup x=some c
 cab:∀ x c,X.fn x=true->X.env.cells.lookup x=some c->X.s₀.heap.objs.size<=c
 hd:X.calm=true->X.A.handled=none
 frames:X.A.frames=some X.stack
 stk:X.stack=X.outer\/(X.stack=X.env::X.outer/\X.env.frame=some X.env.locals)
 exf:∀ b∈X.ex,b≠X.env.locals/\∀ x c,X.env.cells.lookup x=some c->c≠b
 bs:∀ b o,X.base.get? b=some o->X.s₀.heap.get? b=some o/\X.H₀ b=none
 bsz:X.base.objs.size<=X.s₀.heap.objs.size
 noex:∀ b o,X.base.get? b=some o->b∉X.ex
 exfs:∀ b∈X.ex,b∉X.fs
 funs:X.s₀.heap.FunFrames X.base X.outer
 frf:∀ b∈X.fs,X.H₀ b=none
structure ax (X:Cx)(pins:List (Addr×Obj))(σ:List (Option V))(H:Hp)(s:Shared):Prop where
 ok:X.Ok
 os:s.os=X.s₀.os
 bare:AllBare s.gens
 base:Un X.fs X.ex X.H₀ H X.s₀.heap s.heap
 loc:∃ m,s.heap.Ns X.env.locals m/\∀ (i:Nat)(x:Str)(v:V),X.N[i]? = some x->σ[i]? = some (some v)->E7 X.env.scope x->∃ u,aO v u/\F5 X.env s.heap m x u
 cell:∀ x c,X.env.cells.lookup x=some c->∃ v,s.heap.IsCell c v
 free:H X.env.locals=none
 freeC:∀ x c,X.env.cells.lookup x=some c->H c=none
 pin:∀ p∈X.pn++pins,s.heap.get? p.1=some p.2/\H p.1=none/\p.1≠X.env.locals/\p.1∉X.fs/\∀ v,p.2.data≠.cell v
 hok:i7 X.prog X.w H s.heap
 len:σ.length=X.N.length
section
variable {X:Cx}{pins:List (Addr×Obj)}{σ:List (Option V)}{H H':Hp}{s:Shared}{h':Heap}
theorem Cx.Ok.nofr (ok:X.Ok){b:Addr}{o:Obj}(e:X.base.get? b=some o):b∉X.fs:=fun hb=>by
 have:=(ok.funs.mem hb).1;rw[e]at this;cases this
theorem ax.bs (I:ax X pins σ H s):∀ b o,X.base.get? b=some o->s.heap.get? b=some o/\H b=none:=fun b o e =>
 ⟨I.base.keep b o (I.ok.bs b o e).1 (I.ok.bs b o e).2 (I.ok.nofr e) (I.ok.noex b o e),I.base.free b o (I.ok.bs b o e).1 (I.ok.bs b o e).2 (I.ok.noex b o e)⟩
theorem ax.bk (I:ax X pins σ H s):∀ b o,X.base.get? b=some o->s.heap.get? b=some o:=fun b o e=>(I.bs b o e).1
theorem ax.mod (I:ax X pins σ H s):Mod X.K X.mg X.base:=I.ok.mod
theorem ax.kIn (I:ax X pins σ H s):X.K.In s.heap:=I.ok.mod.kin.keeps I.bk
theorem ax.lt (I:ax X pins σ H s):X.env.locals<s.heap.objs.size:=let ⟨_,hn,_⟩:=I.loc;hn.lt
theorem ax.sz (I:ax X pins σ H s):X.s₀.heap.objs.size<=s.heap.objs.size:=Ix I.ok.above (Ju I.lt)
theorem ax.nofs (I:ax X pins σ H s){a:Addr}(h:s.heap.objs.size<=a):a∉X.fs:=fun hb=>by
 obtain⟨_,o,ho,_⟩:=I.ok.funs.mem hb;exact absurd (Ij (HQ ho) (Ix I.sz h)) (JZ _)
theorem ax.cne (I:ax X pins σ H s):∀ x c,X.env.cells.lookup x=some c->c≠X.env.locals:=fun x c e z=>by
 obtain⟨v,o,ho,hd⟩:=I.cell x c e;obtain⟨m,⟨o',es,ep,ho',hd',_⟩,_⟩:=I.loc;rw[z,ho']at ho;cases ho;rw[hd']at hd;cases hd
theorem ax.funs (I:ax X pins σ H s):s.heap.FunFrames X.base X.outer:=by
 have all:∀ (l:List Env),(∀ b∈gY l,b∈X.fs)->X.s₀.heap.FunFrames X.base l->s.heap.FunFrames X.base l:=by
  intro l
  induction l with
  | nil=>intro _ _;trivial
  | cons env r ih =>
   intro hs hl;obtain⟨hk,⟨L,o,hf,hn,ho,hd⟩,hr⟩:=hl;have hL:L∈X.fs:=hs L (by unfold gY;rw[JW,hf];exact HV);obtain⟨sl,e⟩:=I.base.slot L o ho (I.ok.frf L hL) hL fun z=>I.ok.exfs L z hL;exact⟨hk,⟨L,_,hf,hn,e,hd⟩,ih (fun b hb=>hs b (by unfold gY;rw[JW,hf];exact HL _ hb)) hr⟩
 exact all X.outer (fun _ hb=>hb) I.ok.funs
theorem ax.stack (I:ax X pins σ H s):s.heap.FunFrames X.base X.stack:=by
 rcases I.ok.stk with e | ⟨e,hf⟩
 ·rw[e];exact I.funs
 ·rw[e]
  obtain⟨m,hn,_⟩:=I.loc;refine .cons (by rw[I.ok.kind];decide) hf hn ?_ I.funs;exact Heap.get?_none_of_le (Ix I.ok.bsz I.ok.above)
theorem ax.stkSub (I:ax X pins σ H s):∀ b∈gY X.stack,b∈X.env.locals::X.fs:=fun b hb=>by
 rcases I.ok.stk with e | ⟨e,hf⟩
 ·rw[e]at hb;exact HL _ hb
 ·rw[e]at hb
  unfold gY at hb;rw[JW,hf]at hb;exact hb
theorem ax.stkFree (I:ax X pins σ H s):∀ b∈gY X.stack,H b=none:=fun b hb=>by
 rcases HW.mp (I.stkSub b hb) with e | hb
 ·rw[e];exact I.free
 ·obtain⟨_,o,ho,_⟩:=I.ok.funs.mem hb
  exact I.base.free b o ho (I.ok.frf b hb) fun z=>I.ok.exfs b z hb
theorem ax.step {g':Array GenState}{t':Nat}{d':Drawn}{ch:List Addr}(I:ax X pins σ H s)
  (hch:∀ b∈ch,(b∈X.ex\/X.s₀.heap.objs.size<=b)/\b≠X.env.locals/\(∀ x c,X.env.cells.lookup x=some c->c≠b)/\∀ p∈X.pn++pins,p.1≠b)
  (keep:∀ b o,b≠X.env.locals->b∉X.fs->b∉ch->s.heap.get? b=some o->H b=none->h'.get? b=some o)
  (slot:∀ b o,b≠X.env.locals->b∈X.fs->b∉ch->s.heap.get? b=some o->H b=none->∃ sl,h'.get? b=some { o with slots:=sl }) (free:∀ b o,b∉ch->s.heap.get? b=some o->H b=none->H' b=none)
  (there:∀ b o,b∉ch->s.heap.get? b=some o->∃ o',h'.get? b=some o')
  (tups:∀ b xs,H b=some (.tup xs)->H' b=some (.tup xs)) (frzs:∀ b o u,H b=some (.frz o u)->H' b=some (.frz o u)) (tbls:∀ b ps,H b=some (.tbl ps)->∃ more,H' b=some (.tbl (ps++more)))
  (ns:∀ m,s.heap.Ns X.env.locals m->h'.Ns X.env.locals m) (hok:i7 X.prog X.w H' h') (hg:AllBare g') :
  ax X pins σ H' { s with heap:=h',gens:=g',drawn:=d',toks:=t' }:=by
 have neL:∀ b o,X.s₀.heap.get? b=some o->b≠X.env.locals:=fun b o e=>Ib (Ij (HQ e) I.ok.above)
 have neC:∀ b o,X.s₀.heap.get? b=some o->b∉X.ex->b∉ch:=fun b o e hx hb=>by
  rcases (hch b hb).1 with z | z
  ·exact hx z
  ·exact absurd (Ij (HQ e) z) (JZ _)
 have cellK:∀ x c,X.env.cells.lookup x=some c->∀ v,s.heap.IsCell c v->h'.IsCell c v:=fun x c e v ⟨o,ho,hd⟩=>by
  have nch:c∉ch:=fun z=>(hch c z).2.2.1 x c e rfl
  by_cases hc:c∈X.fs
  ·obtain⟨sl,q⟩:=slot c o (I.cne x c e) hc nch ho (I.freeC x c e)
   exact⟨_,q,hd⟩
  ·exact⟨o,keep c o (I.cne x c e) hc nch ho (I.freeC x c e),hd⟩
 refine⟨I.ok,I.os,hg,⟨fun b o e n hb hx=>?_,fun b o e n hb hx=>?_,fun b o e n hx=>?_,fun b o e hx=>?_,fun b xs e=>tups b xs (I.base.tups b xs e),fun b o xs e=>frzs b o xs (I.base.frzs b o xs e),fun b ps e=>?_⟩,?_,fun x c e=>?_,?_,fun x c e=>?_,fun p hp=>?_,hok,I.len⟩
 ·exact keep b o (neL b o e) hb (neC b o e hx) (I.base.keep b o e n hb hx) (I.base.free b o e n hx)
 ·obtain⟨sl,e1⟩:=I.base.slot b o e n hb hx
  obtain⟨sl',e2⟩:=slot b _ (neL b o e) hb (neC b o e hx) e1 (I.base.free b o e n hx);exact⟨sl',e2⟩
 ·obtain⟨o',e1⟩:=I.base.there b o e hx
  exact free b o' (neC b o e hx) e1 (I.base.free b o e n hx)
 ·obtain⟨o',e1⟩:=I.base.there b o e hx
  exact there b o' (neC b o e hx) e1
 ·obtain⟨m1,e1⟩:=I.base.tbls b ps e
  obtain⟨m2,e2⟩:=tbls b _ e1;exact⟨m1++m2,by rw[e2,Array.append_assoc]⟩
 ·obtain⟨m,hn,hl⟩:=I.loc
  refine⟨m,ns m hn,fun i x v e1 e2 e3=>?_⟩;obtain⟨u,r,l⟩:=hl i x v e1 e2 e3;refine⟨u,r,?_⟩;rcases l with l | ⟨k,c,e,z⟩
  ·exact .inl l
  ·exact .inr ⟨k,c,e,cellK x c e _ z⟩
 ·obtain⟨v,z⟩:=I.cell x c e
  exact⟨v,cellK x c e v z⟩
 ·obtain⟨m,⟨o,_,_,ho,_⟩,_⟩:=I.loc
  exact free _ o (fun z=>(hch _ z).2.1 rfl) ho I.free
 ·obtain⟨v,o,ho,hd⟩:=I.cell x c e
  exact free c o (fun z=>(hch c z).2.2.1 x c e rfl) ho (I.freeC x c e)
 ·obtain⟨e,n,ne,nf,d⟩:=I.pin p hp
  have nch:p.1∉ch:=fun z=>(hch p.1 z).2.2.2 p hp rfl;exact⟨keep p.1 p.2 ne nf nch e n,free p.1 p.2 nch e n,ne,nf,d⟩
theorem ax.un {t':Nat}(I:ax X pins σ H s)(u:Un X.fs [] H H' s.heap h')(hok:i7 X.prog X.w H' h'):ax X pins σ H' { s with heap:=h',toks:=t' }:=by
 obtain⟨m,⟨o,es,ep,ho,r⟩,_⟩:=id I.loc;obtain⟨sl,hL⟩:=u.any ho I.free (by simp)
 exact I.step (g':=s.gens) (d':=s.drawn) (ch:=[]) (fun _ z=>nomatch z) (fun b o _ hb _ e n=>u.keep b o e n hb (by simp)) (fun b o _ hb _ e n=>u.slot b o e n hb (by simp)) (fun b o _ e n=>u.free b o e n (by simp)) (fun b o _ e=>u.there b o e (by simp)) u.tups u.frzs u.tbls (fun m' hm=>by
  obtain⟨o',es',ep',ho',r'⟩:=hm;rw[ho]at ho';cases ho'
  exact⟨_,es',ep',hL,r'⟩) hok I.bare
theorem ax.call {g':Array GenState}{t':Nat}{d':Drawn}{ch:List Addr}(I:ax X pins σ H s)(u:Un (gY X.stack) ch H H' s.heap h')(hok:i7 X.prog X.w H' h')(hg:AllBare g')
  (hch:∀ b∈ch,(b∈X.ex\/X.s₀.heap.objs.size<=b)/\b≠X.env.locals/\(∀ x c,X.env.cells.lookup x=some c->c≠b)/\∀ p∈X.pn++pins,p.1≠b) :
  ax X pins σ H' { s with heap:=h',gens:=g',drawn:=d',toks:=t' }:=by
 obtain⟨m,⟨o,es,ep,ho,r⟩,_⟩:=id I.loc;obtain⟨sl,hL⟩:=u.any ho I.free fun z=>(hch _ z).2.1 rfl
 exact I.step (ch:=ch) hch (fun b o hL hb hc e n=>u.keep b o e n (fun z=>(HW.mp (I.stkSub b z)).elim hL hb) hc) (fun b o _ _ hc e n=>u.any e n hc) (fun b o hc e n=>u.free b o e n hc) (fun b o hc e=>u.there b o e hc) u.tups u.frzs u.tbls (fun m' hm=>by
  obtain⟨o',es',ep',ho',r'⟩:=hm;rw[ho]at ho';cases ho'
  exact⟨_,es',ep',hL,r'⟩) hok hg
theorem ax.turned {t':Nat}{it:Addr}(I:ax X pins σ H s)(k:∀ b o,b≠it->s.heap.get? b=some o->h'.get? b=some o)(hn:H it=none)(hL:it≠X.env.locals)
  (h1:it∈X.ex\/X.s₀.heap.objs.size<=it) (h2:∀ x c,X.env.cells.lookup x=some c->c≠it) (h3:∀ p∈X.pn++pins,p.1≠it):ax X pins σ H { s with heap:=h',toks:=t' }:=by
 have nit:∀ b u,H b=some u->b≠it:=fun b u e z=>by rw[z,hn]at e;cases e
 refine I.step (g':=s.gens) (d':=s.drawn) (ch:=[it]) (fun b hb=>?_) (fun b o _ _ hc e _=>k b o (fun z=>hc (by simp[z])) e) (fun b o _ _ hc e _=>⟨o.slots,k b o (fun z=>hc (by simp[z])) e⟩) (fun _ _ _ _ n=>n)
  (fun b o hc e=>⟨o,k b o (fun z=>hc (by simp[z])) e⟩) (fun _ _ e=>e) (fun _ _ _ e=>e) (fun b ps e=>⟨#[],by rw[e];simp⟩) (fun m hm=>?_) (fun b u e=>?_) I.bare
 ·have e:b=it:=by simpa using hb
  subst e;exact⟨h1,hL,h2,h3⟩
 ·obtain⟨o,es,ep,ho,r⟩:=hm
  exact⟨o,es,ep,k _ o (Ik hL) ho,r⟩
 ·refine (I.hok b u e).stay (fun c v hc q=>k c v ?_ q) (fun _ q=>q) fun _ _ q=>q
  rcases hc with z | z
  ·rw[z];exact nit b u e
  ·exact nit c _ z
theorem ax.tok (I:ax X pins σ H s)(t:Nat):ax X pins σ H { s with toks:=t }:=I.un (h':=s.heap) (t':=t) Un.refl I.hok
theorem ax.kept {t':Nat}(I:ax X pins σ H s)(k:∀ b u,s.heap.get? b=some u->h'.get? b=some u):ax X pins σ H { s with heap:=h',toks:=t' }:=I.un (Un.kept k) (I.hok.kept k)
theorem ax.laid {a:Addr}{o:HO}{t':Nat}(I:ax X pins σ H s)(k:∀ b u,s.heap.get? b=some u->h'.get? b=some u)(hp:s.heap.objs.size<=a)(new:bb X.prog X.w (upd H a o) h' a o) :
  ax X pins σ (upd H a o) { s with heap:=h',toks:=t' }:=I.un (Un.laid k hp (I.hok.fresh hp)) (I.hok.laid k hp new)
theorem ax.write {x e:Addr}{o:HO}{t':Nat}(I:ax X pins σ H s)(mu:EZ (H x))(he:e=x\/H e=some (.own x))(k:∀ b u,b≠e->s.heap.get? b=some u->h'.get? b=some u)(heo:∃ u,h'.get? e=some u)
  (new:bb X.prog X.w (upd H x o) h' x o):ax X pins σ (upd H x o) { s with heap:=h',toks:=t' }:=I.un (Un.write mu he k heo) (I.hok.write mu he k heo new)
theorem ax.pins_of {pins':List (Addr×Obj)}(I:ax X pins σ H s)(h:∀ p∈pins',s.heap.get? p.1=some p.2/\H p.1=none/\p.1≠X.env.locals/\p.1∉X.fs/\∀ v,p.2.data≠.cell v):ax X pins' σ H s :=
 ⟨I.ok,I.os,I.bare,I.base,I.loc,I.cell,I.free,I.freeC,fun p hp=>(Ie.mp hp).elim (fun z=>I.pin p (Jv _ z)) (h p),I.hok,I.len⟩
theorem jB {N:List Str}(hN:N.Nodup){i j:Nat}{x:Str}(a:N[i]? = some x)(b:N[j]? = some x):i=j:=by
 obtain⟨h1,e1⟩:=List.getElem?_eq_some_iff.mp a;obtain⟨h2,e2⟩:=List.getElem?_eq_some_iff.mp b;exact (List.getElem_inj hN).mp (e1.trans e2.symm)
theorem nU {M:Model}{A:Around}{E:Value->Shared->Prop}{i:Nat}{x:Str}{v:V}{u:Value}{Q:Unit->Shared->Prop}(I:ax X pins σ H s)(hN:X.N.Nodup)(hi:X.N[i]? = some x)(hx:DZ X.env.scope x)(r:aO v u)
  (h:∀ s',ax X pins (σ.set i (some v)) H s'->(∃ a,Heap.SameBut a s.heap s'.heap/\(a=X.env.locals\/X.env.cells.lookup x=some a))->Q () s') (hf:X.fn x=true\/X.env.scope.names.lookup x=some .local:=by first | exact .inl rfl | exact .inr rfl | assumption):wpAny M A (storeName X.env x u) Q E s:=by
 obtain⟨m,hn,hl⟩:=id I.loc
 have hcls:(X.env.scope.kind == .class||(X.env.scope.kind == .module&&X.env.locals != X.env.globals))=false:=by rw[I.ok.kind];rfl
 have hiσ:i<σ.length:=by rw[I.len];exact (List.getElem?_eq_some_iff.mp hi).1
 have cne:=I.cne
 have tracked:∀ {a:Addr}{h':Heap},(∃ o,s.heap.get? a=some o/\H a=none)->Heap.SameBut a s.heap h'->i7 X.prog X.w H h':=fun {a h'} ha hs b ob e=>by
  obtain⟨_,_,hfree⟩:=ha;refine (I.hok b ob e).stay (fun c w' hc q=>(hs.2 c ?_).trans q) (fun _ q=>q) fun _ _ q=>q;rintro rfl;rcases hc with rfl | hc
  ·rw[hfree]at e;cases e
  ·rw[hfree]at hc;cases hc
 rcases hx with hk | hk
 ·refine wpAny_storeName_local hk hn (fun h' hn' hs=>?_) hcls
  obtain⟨oL,_,_,hoL,_⟩:=id hn;refine h _ ⟨I.ok,I.os,I.bare,⟨fun b o e n hb hx=>?_,fun b o e n hb hx=>?_,I.base.free,fun b o e hx=>?_,I.base.tups,I.base.frzs,I.base.tbls⟩,⟨_,hn',fun j y v' e1 e2 e3=>?_⟩,fun y c e=>?_,I.free,I.freeC,fun p hp=>?_,tracked ⟨oL,hoL,I.free⟩ hs,by simpa using I.len⟩ ⟨_,hs,.inl rfl⟩
  ·exact (hs.2 b (Ib (Ij (HQ e) I.ok.above))).trans (I.base.keep b o e n hb hx)
  ·obtain⟨sl,e1⟩:=I.base.slot b o e n hb hx
   exact⟨sl,(hs.2 b (Ib (Ij (HQ e) I.ok.above))).trans e1⟩
  ·obtain⟨o',e1⟩:=I.base.there b o e hx
   exact⟨o',(hs.2 b (Ib (Ij (HQ e) I.ok.above))).trans e1⟩
  ·by_cases hj:j=i
   ·subst hj
    rw[hi]at e1;cases e1;rw[List.getElem?_set_self hiσ]at e2;cases e2;exact⟨u,r,.inl ⟨hk,by simp⟩⟩
   ·rw[List.getElem?_set_ne (Ik hj)]at e2
    obtain⟨u',r',q⟩:=hl j y v' e1 e2 e3;refine⟨u',r',?_⟩;rcases q with ⟨k,e⟩ | ⟨k,c,e,z⟩
    ·refine .inl ⟨k,?_⟩
     have:y≠x:=fun e=>hj (jB hN e1 (e▸hi));simp[this,e]
    ·exact .inr ⟨k,c,e,z.sameBut hs (cne y c e)⟩
  ·obtain⟨w',z⟩:=I.cell y c e
   exact⟨w',z.sameBut hs (cne y c e)⟩
  ·obtain⟨e,n,ne,nf,d⟩:=I.pin p hp
   exact⟨(hs.2 p.1 ne).trans e,n,ne,nf,d⟩
 ·have hfn:X.fn x=true:=by
   rcases hf with z | z
   ·exact z
   ·rw[z]at hk;cases hk
  obtain⟨c,hc⟩:=I.ok.has x (.inl hk);obtain⟨w',z⟩:=I.cell x c hc;refine wpAny_storeName_cell I.ok.kind hk hc z (fun h' hc' hs=>?_);obtain⟨oc,hoc,hocd⟩:=id z;refine h { s with heap:=h' } ⟨I.ok,I.os,I.bare,⟨fun b o e n hb hx=>?_,fun b o e n hb hx=>?_,I.base.free,fun b o e hx=>?_,I.base.tups,I.base.frzs,I.base.tbls⟩,⟨m,hn.sameBut hs (Ik (cne x c hc)),fun j y v' e1 e2 e3=>?_⟩,fun y c' e=>?_,I.free,I.freeC,fun p hp=>?_,tracked ⟨oc,hoc,I.freeC x c hc⟩ hs,by simpa using I.len⟩ ⟨c,hs,.inr hc⟩
  ·exact (hs.2 b (Ib (Ij (HQ e) (I.ok.cab x c hfn hc)))).trans (I.base.keep b o e n hb hx)
  ·obtain⟨sl,e1⟩:=I.base.slot b o e n hb hx
   exact⟨sl,(hs.2 b (Ib (Ij (HQ e) (I.ok.cab x c hfn hc)))).trans e1⟩
  ·obtain⟨o',e1⟩:=I.base.there b o e hx
   exact⟨o',(hs.2 b (Ib (Ij (HQ e) (I.ok.cab x c hfn hc)))).trans e1⟩
  ·by_cases hj:j=i
   ·subst hj
    rw[hi]at e1;cases e1;rw[List.getElem?_set_self hiσ]at e2;cases e2;exact⟨u,r,.inr ⟨.inl hk,c,hc,hc'⟩⟩
   ·rw[List.getElem?_set_ne (Ik hj)]at e2
    obtain⟨u',r',q⟩:=hl j y v' e1 e2 e3;refine⟨u',r',?_⟩;rcases q with q | ⟨k,c',e,z'⟩
    ·exact .inl q
    ·refine .inr ⟨k,c',e,z'.sameBut hs ?_⟩
     rintro rfl;exact hj (jB hN e1 (I.ok.inj _ _ _ e hc▸hi))
  ·by_cases hcc:c'=c
   ·subst hcc;exact⟨_,hc'⟩
   ·obtain⟨w2,z2⟩:=I.cell y c' e
    exact⟨w2,z2.sameBut hs hcc⟩
  ·obtain⟨e,n,ne,nf,d⟩:=I.pin p hp
   refine⟨(hs.2 p.1 ?_).trans e,n,ne,nf,d⟩;intro q;rw[q,hoc]at e;have q':oc=p.2:=Hy e;exact d w' (by rw[<-q'];exact hocd)
theorem rK {M:Model}{A:Around}{E:Value->Shared->Prop}{i:Nat}{x:Str}{v:V}{u:Value}{Q:Unit->Shared->Prop}(I:ax X pins σ H s)(hN:X.N.Nodup)(hi:X.N[i]? = some x)(hx:DZ X.env.scope x)(r:aO v u)
  (h:∀ s',ax X pins (σ.set i (some v)) H s'->Q () s') (hf:X.fn x=true\/X.env.scope.names.lookup x=some .local:=by first | exact .inl rfl | exact .inr rfl | assumption):wpAny M A (storeName X.env x u) Q E s :=
 nU I hN hi hx r (fun s' I' _=>h s' I') hf
theorem ax.call' {s':Shared}{ch:List Addr}(I:ax X pins σ H s)(ho:s'.os=s.os)(u:Un (gY X.stack) ch H H' s.heap s'.heap)(hok:i7 X.prog X.w H' s'.heap)(hg:AllBare s'.gens)
  (hch:∀ b∈ch,(b∈X.ex\/X.s₀.heap.objs.size<=b)/\b≠X.env.locals/\(∀ x c,X.env.cells.lookup x=some c->c≠b)/\∀ p∈X.pn++pins,p.1≠b):ax X pins σ H' s':=by
 obtain⟨h',g',d',t',o'⟩:=s';have e:o'=s.os:=ho;subst e;exact I.call (g':=g') (t':=t') (d':=d') u hok hg hch
end
abbrev XK:=Value->Option Addr->Hp->Prop
abbrev St:=List (Option V)
abbrev VK:=V->Hp->Prop
abbrev TE:=St->Hp->VK->Prop
abbrev TT:=St->Hp->(Bool->Hp->Prop)->Prop
abbrev TA:=St->Hp->(List V->Hp->Prop)->Prop
structure im where
 nx:St->Hp->Prop
 rt:VK
 bk:St->Hp->Prop:=fun _ _=>False
 ct:St->Hp->Prop:=fun _ _=>False
abbrev TS:=im->St->Hp->Prop
def EP (X:Cx)(pins:List (Addr×Obj))(σ:St)(Q:VK)(u:Value)(s':Shared):Prop:=∃ v H',ax X pins σ H' s'/\aO v u/\Q v H'
def TP (X:Cx)(pins:List (Addr×Obj))(σ:St)(Q:Bool->Hp->Prop)(b:Bool)(s':Shared):Prop:=∃ H',ax X pins σ H' s'/\Q b H'
def AP (X:Cx)(pins:List (Addr×Obj))(σ:St)(Q:List V->Hp->Prop)(us:List Value)(s':Shared):Prop:=∃ vs H',ax X pins σ H' s'/\aQ vs us/\Q vs H'
def SP (X:Cx)(pins:List (Addr×Obj))(D:im)(f:Flow)(s':Shared):Prop :=
 match f with
 | .next=>∃ σ' H',ax X pins σ' H' s'/\D.nx σ' H'
 | .brk=>∃ σ' H',ax X pins σ' H' s'/\D.bk σ' H'
 | .cont=>∃ σ' H',ax X pins σ' H' s'/\D.ct σ' H'
 | .ret u=>∃ v σ' H',ax X pins σ' H' s'/\aO v u/\D.rt v H'
def PE (X:Cx)(e:Expr)(t:TE):Prop :=
 ∀ (pins:List (Addr×Obj))(s:Shared)(σ:St)(H:Hp)(Q:VK),ax X pins σ H s->t σ H Q->wpAny (model X.prog X.w) X.A (eval e X.env) (EP X pins σ Q) X.xe s
def PT (X:Cx)(e:Expr)(t:TT):Prop :=
 ∀ (pins:List (Addr×Obj))(s:Shared)(σ:St)(H:Hp)(Q:Bool->Hp->Prop),ax X pins σ H s->t σ H Q->wpAny (model X.prog X.w) X.A (isTrue e X.env (eval e X.env)) (TP X pins σ Q) X.xe s
def PW (X:Cx)(e:Expr)(t:TT):Prop :=
 ∀ (whole:Sem Value)(pins:List (Addr×Obj))(s:Shared)(σ:St)(H:Hp)(Q:Bool->Hp->Prop),ax X pins σ H s->t σ H Q->wpAny (model X.prog X.w) X.A (isTrue e X.env whole) (TP X pins σ Q) X.xe s
theorem PW.pt {X:Cx}{e:Expr}{t:TT}(h:PW X e t):PT X e t:=h _
def PA (X:Cx)(es:List Expr)(t:TA):Prop :=
 ∀ (pos:Pos)(pins:List (Addr×Obj))(s:Shared)(σ:St)(H:Hp)(Q:List V->Hp->Prop),ax X pins σ H s->t σ H Q->wpAny (model X.prog X.w) X.A (spliced (backTo pos (starEach es X.env))) (AP X pins σ Q) X.xe s
def PS (X:Cx)(st:Stmt)(t:TS):Prop :=
 ∀ (pins:List (Addr×Obj))(s:Shared)(σ:St)(H:Hp)(D:im),ax X pins σ H s->t D σ H->wpAny (model X.prog X.w) X.A (exec st X.env) (SP X pins D) X.xe s
def vR (X:Cx)(st:List Stmt)(t:TS):Prop :=
 ∀ (pins:List (Addr×Obj))(s:Shared)(σ:St)(H:Hp)(D:im),ax X pins σ H s->t D σ H->wpAny (model X.prog X.w) X.A (execs st X.env) (SP X pins D) X.xe s
theorem bc {α:Type}{t:Sem α}{Q Q':α->Shared->Prop}{M:Model}{A:Around}{E:Value->Shared->Prop}{s:Shared}(h:wpAny M A t Q E s)(hQ:∀ a s,Q a s->Q' a s):wpAny M A t Q' E s:=Il h hQ fun _ _ x=>x
section
variable {X:Cx}
inductive TV (i:Nat) (σ:St) (H:Hp) (Q:VK):Prop
 | mk (v:V) (e:σ[i]? = some (some v)) (h:Q v H):TV i σ H Q
def B1 (i:Nat):TE:=fun σ H Q=>TV i σ H Q
def tC (v:V):TE:=fun _ H Q=>Q v H
theorem BI {i:Nat}{x:Str}{pos:Pos}(hN:X.N[i]? = some x)(hv:E7 X.env.scope x)(hd:(x == ("__debug__" : Str))=false:=by decide)(hcd:(x == ("__classdict__" : Str))=false:=by decide):PE X (.Name x pos) (B1 i):=by
 intro pins s σ H Q I h;obtain⟨v,e,h⟩:=h;obtain⟨m,hn,hl⟩:=I.loc;obtain⟨u,r,l⟩:=hl i x v hN e hv;have fin:EP X pins σ Q u s:=⟨v,H,I,r,h⟩;rcases l with ⟨hk,hm⟩ | ⟨hk,c,hc,hcell⟩
 ·exact wpAny_Name (wpAny_loadName_local I.ok.kind hk hn hm fin) hd
 ·rcases hk with hk | hk
  ·exact wpAny_Name (wpAny_loadName_cell I.ok.kind hk hc hcell fin) hd
  ·exact wpAny_Name (wpAny_loadName_free I.ok.kind hk hc hcell fin hcd) hd
theorem am {i j pos}:PE X (.Constant (.int i) j pos) (tC (.int i)):=fun _ _ _ H _ I h=>wpAny_Constant_int ⟨.int i,H,I.tok _,⟨_,rfl⟩,h⟩
theorem dm {b j pos}:PE X (.Constant (.bool b) j pos) (tC (.bl b)):=fun _ _ _ H _ I h=>Constant_bool ⟨.bl b,H,I,rfl,h⟩
theorem kJ {j pos}:PE X (.Constant .none j pos) (tC .non):=fun _ _ _ H _ I h=>Constant_none ⟨.non,H,I,rfl,h⟩
theorem bu {x j pos}:PE X (.Constant (.str x) j pos) (tC (.str x)):=fun _ _ _ H _ I h=>Calls.Constant_str ⟨.str x,H,I.tok _,⟨_,rfl⟩,h⟩
def Gl (X:Cx)(x:Str):Prop:=X.env.kindOf x=some .globalImplicit
theorem gj {E:Value->Shared->Prop}{pins:List (Addr×Obj)}{s:Shared}{σ:St}{H:Hp}{x:Str}{u:Value}{pos:Pos}{Q:Value->Shared->Prop}(I:ax X pins σ H s)(hg:Gl X x)(hm:X.mg x=some u)(h:Q u s)
  (hd:(x == ("__debug__" : Str))=false:=by decide):wpAny (model X.prog X.w) X.A (eval (.Name x pos) X.env) Q E s :=
 Calls.Name_function_global I.ok.kind hg (Calls.loadGlobal_global (by rw[I.ok.glob];exact I.mod.glob.keeps I.bk) hm h) hd
theorem mY {E:Value->Shared->Prop}{pins:List (Addr×Obj)}{s:Shared}{σ:St}{H:Hp}{x:Str}{u:Value}{pos:Pos}{Q:Value->Shared->Prop}(I:ax X pins σ H s)(hg:Gl X x)(hm:X.mg x=none)(hv:bootBuiltins x=some u)(h:Q u s)
  (hn:x≠"__name__":=by decide) (hd:(x == ("__debug__" : Str))=false:=by decide):wpAny (model X.prog X.w) X.A (eval (.Name x pos) X.env) Q E s:=by
 obtain⟨mb,h1,h2⟩:=I.mod.blt;exact Calls.Name_function_global I.ok.kind hg (Calls.loadGlobal_builtin (by rw[I.ok.glob];exact I.mod.glob.keeps I.bk) hm (by rw[I.ok.blt];exact h1.keeps I.bk) ((h2 x hn).trans hv) h) hd
theorem vc {x:Str}{v:V}{u:Value}{pos:Pos}(hg:Gl X x)(hm:X.mg x=none)(hv:bootBuiltins x=some u)(r:aO v u)(hn:x≠"__name__":=by decide)(hd:(x == ("__debug__" : Str))=false:=by decide):PE X (.Name x pos) (tC v) :=
 fun _ _ _ H _ I h=>mY I hg hm hv ⟨v,H,I,r,h⟩ hn hd
variable {a b:Expr}{ta tb:TE}{pos:Pos}
def PC (X:Cx)(op:CmpOp)(a b:Expr)(t:TE):Prop :=
 ∀ (pins:List (Addr×Obj))(s:Shared)(σ:St)(H:Hp)(Q:VK),ax X pins σ H s->t σ H Q ->
  wpAny (model X.prog X.w) X.A (eval a X.env) (fun v s₁=>wpAny (model X.prog X.w) X.A (eval b X.env) (fun u s₂=>wpAny (model X.prog X.w) X.A (compareOp op v u) (EP X pins σ Q) X.xe s₂) X.xe s₁) X.xe s
theorem wT (b:Expr){op:CmpOp}(h:op≠.In)(h2:op≠.NotIn):behindInMarks op b=false:=by
 have e1:(op == CmpOp.In)=false:=by cases op<;>first | rfl | exact absurd rfl h
 have e2:(op == CmpOp.NotIn)=false:=by cases op<;>first | rfl | exact absurd rfl h2
 cases b<;>simp[behindInMarks,e1,e2]
def GG (ta:TE):TE:=fun σ H Q=>ta σ H fun x H1=>Q (.bl (decide (x=.non))) H1
def FJ (ta:TE):TE:=fun σ H Q=>ta σ H fun x H1=>Q (.bl (!decide (x=.non))) H1
theorem aO.none_iff {x:V}{v:Value}(r:aO x v):(v == Value.none)=decide (x=.non):=by
 cases x with
 | non=>cases r;rfl
 | bl _=>cases r;rfl
 | int _=>obtain⟨t,rfl⟩:=r;rfl
 | str _=>obtain⟨t,rfl⟩:=r;rfl
 | byt _=>obtain⟨t,rfl⟩:=r;rfl
 | flt _=>obtain⟨t,rfl⟩:=r;rfl
 | ref _=>cases r;rfl
 | ty _=>cases r;rfl
theorem Bz {j pos'}(ha:PE X a ta):PC X .Is a (.Constant .none j pos') (GG ta):=by
 intro pins s σ H Q I h;refine bc (ha pins s σ H _ I h) fun v s1 ⟨x,H1,I1,r1,q1⟩=>?_;exact Constant_none (is_none_gen ⟨.bl _,H1,I1,by rw[r1.none_iff];rfl,q1⟩)
theorem Da {j pos'}(ha:PE X a ta):PC X .IsNot a (.Constant .none j pos') (FJ ta):=by
 intro pins s σ H Q I h;refine bc (ha pins s σ H _ I h) fun v s1 ⟨x,H1,I1,r1,q1⟩=>?_;exact Constant_none (isnot_none_gen ⟨.bl _,H1,I1,by rw[r1.none_iff];rfl,q1⟩)
inductive Ga (Q:Bool->Hp->Prop) (x:V) (H:Hp):Prop
 | mk (c:Bool) (e:x=.bl c) (h:Q c H):Ga Q x H
def tB (t:TE):TT:=fun σ H Q=>t σ H fun x H1=>Ga Q x H1
theorem nz {op:CmpOp}{t:TE}(h:PC X op a b t)(h1:behindInMarks op b=false:=by first | exact wT _ (by decide) (by decide) | rfl):PE X (.Compare a [op] [b] pos) t:=fun pins s σ H Q I hw=>wpAny_Compare1 (h pins s σ H Q I hw) h1
theorem eQ {op:CmpOp}{t:TE}(h:PC X op a b t)(h1:behindInMarks op b=false:=by first | exact wT _ (by decide) (by decide) | rfl):PT X (.Compare a [op] [b] pos) (tB t):=by
 intro pins s σ H Q I hw;refine wpAny_isTrue_Compare1 (bc (h pins s σ H _ I hw) fun v s1 h1=>bc h1 fun u s2 h2=>bc h2 fun c s3 ⟨x,H1,I1,r1,q1⟩=>?_) h1;obtain⟨d,rfl,q⟩:=q1;cases r1;exact Jm ⟨H1,I1,q⟩
theorem dU {e:Expr}{t:TE}(h:PE X e t)(he:∀ whole,isTrue e X.env whole=(do let v <-whole;standAt e.pos;holding [v] (truthy v)):=by intro _;rfl):PT X e (tB t):=by
 intro pins s σ H Q I hw;refine isTrue_plain (bc (h pins s σ H _ I hw) fun v s1 ⟨x,H1,I1,r1,q1⟩=>?_) (he _);obtain⟨d,rfl,q⟩:=q1;cases r1;exact Jm ⟨H1,I1,q⟩
variable {tA tB':TT}{rest:List Expr}
def Gz (t u:TT):TT:=fun σ H Q=>t σ H fun c H1=>if c=true then u σ H1 Q else Q false H1
def Hj (t u:TT):TT:=fun σ H Q=>t σ H fun c H1=>if c=true then Q true H1 else u σ H1 Q
def GI (t:TT):TT:=fun σ H Q=>t σ H fun c H1=>Q (!c) H1
theorem gu (ha:PT X a tA):PW X (.BoolOp .And [a] pos) tA:=by
 intro wh pins s σ H Q I h;refine isTrue_and (bc (ha pins s σ H Q I h) fun c s1 e=>?_)
 cases c with
 | true=>exact isTrue_and_nil e
 | false=>exact e
theorem kL (ha:PT X a tA):PW X (.BoolOp .Or [a] pos) tA:=by
 intro wh pins s σ H Q I h;refine isTrue_or (bc (ha pins s σ H Q I h) fun c s1 e=>?_)
 cases c with
 | false=>exact isTrue_or_nil e
 | true=>exact e
theorem gL (ha:PT X a tA)(hb:PW X (.BoolOp .And (b::rest) pos) tB'):PW X (.BoolOp .And (a::b::rest) pos) (Gz tA tB'):=by
 intro wh pins s σ H Q I h;refine isTrue_and (bc (ha pins s σ H _ I h) fun c s1 ⟨H1,I1,q1⟩=>?_)
 cases c with
 | true=>exact hb wh pins s1 σ H1 Q I1 q1
 | false=>exact⟨H1,I1,q1⟩
theorem oO (ha:PT X a tA)(hb:PW X (.BoolOp .Or (b::rest) pos) tB'):PW X (.BoolOp .Or (a::b::rest) pos) (Hj tA tB'):=by
 intro wh pins s σ H Q I h;refine isTrue_or (bc (ha pins s σ H _ I h) fun c s1 ⟨H1,I1,q1⟩=>?_)
 cases c with
 | true=>exact⟨H1,I1,q1⟩
 | false=>exact hb wh pins s1 σ H1 Q I1 q1
theorem kK (ha:PT X a tA):PT X (.UnaryOp .Not a pos) (GI tA):=by
 intro pins s σ H Q I h;exact isTrue_not (ha pins s σ H (fun c H1=>Q (!c) H1) I h)
def FD (ta tb:TE):TE:=fun σ H Q=>ta σ H fun x H1=>∃ c,x=.bl c/\if c=true then tb σ H1 Q else Q (.bl false) H1
def GJ (ta tb:TE):TE:=fun σ H Q=>ta σ H fun x H1=>∃ c,x=.bl c/\if c=true then Q (.bl true) H1 else tb σ H1 Q
def FK (ta:TE):TE:=fun σ H Q=>ta σ H fun x H1=>∃ c,x=.bl c/\Q (.bl (!c)) H1
theorem yl {op}{t:TE}(h:PE X a t):PE X (.BoolOp op [a] pos) t:=fun pins s σ H Q I hw=>BoolOp_one (h pins s σ H Q I hw)
theorem BA (ha:PE X a ta)(hb:PE X (.BoolOp .And (b::rest) pos) tb):PE X (.BoolOp .And (a::b::rest) pos) (FD ta tb):=by
 intro pins s σ H Q I h;refine BoolOp_and (bc (ha pins s σ H _ I h) fun v s1 ⟨x,H1,I1,r1,q1⟩=>?_);obtain⟨c,rfl,q1⟩:=q1;cases r1;refine Jm ?_
 cases c with
 | true=>exact hb pins s1 σ H1 Q I1 q1
 | false=>exact⟨.bl false,H1,I1,rfl,q1⟩
theorem Fq (ha:PE X a ta)(hb:PE X (.BoolOp .Or (b::rest) pos) tb):PE X (.BoolOp .Or (a::b::rest) pos) (GJ ta tb):=by
 intro pins s σ H Q I h;refine BoolOp_or (bc (ha pins s σ H _ I h) fun v s1 ⟨x,H1,I1,r1,q1⟩=>?_);obtain⟨c,rfl,q1⟩:=q1;cases r1;refine Jm ?_
 cases c with
 | false=>exact hb pins s1 σ H1 Q I1 q1
 | true=>exact⟨.bl true,H1,I1,rfl,q1⟩
theorem Em (ha:PE X a ta):PE X (.UnaryOp .Not a pos) (FK ta):=by
 intro pins s σ H Q I h;refine UnaryOp_ (bc (ha pins s σ H _ I h) fun v s1 ⟨x,H1,I1,r1,q1⟩=>?_);obtain⟨c,rfl,q1⟩:=q1;cases r1;exact not_of (Jm ⟨.bl (!c),H1,I1,rfl,q1⟩)
end
def aL (K:PySem.W.Frag)(H:Hp)(a:Addr)(xs:List V):Prop :=
 Rd H a (.lst xs) \/
  ∃ (o:Obj)(its:Array Value)(n:Nat),K.lookup a=some o/\o.cls=.type "list"/\o.dict=none/\o.data=.seq its n/\its.size<=sizeLine/\aQ xs its.toList
def dC (K:PySem.W.Frag)(H:Hp)(a:Addr)(xs:List V):Prop :=
 Rd H a (.tup xs) \/
  ∃ (o:Obj)(its:Array Value)(n:Nat),K.lookup a=some o/\o.cls=.type "tuple"/\o.data=.seq its n/\its.size<=sizeLine/\aQ xs its.toList
def Gd:Value->Option V
 | .none=>some .non
 | .bool b=>some (.bl b)
 | .int i _=>some (.int i)
 | .str x _=>some (.str x)
 | .bytes b _=>some (.byt b)
 | .float b _=>some (.flt b)
 | .ref a=>some (.ref a)
 | .type n=>some (.ty n)
 | _=>none
theorem aO.abs {x:V}{u:Value}(r:aO x u):Gd u=some x:=by
 cases x with
 | non=>cases r;rfl
 | bl _=>cases r;rfl
 | int _=>obtain⟨t,rfl⟩:=r;rfl
 | str _=>obtain⟨t,rfl⟩:=r;rfl
 | byt _=>obtain⟨t,rfl⟩:=r;rfl
 | flt _=>obtain⟨t,rfl⟩:=r;rfl
 | ref _=>cases r;rfl
 | ty _=>cases r;rfl
theorem aO.inj {x y:V}{u:Value}(r:aO x u)(q:aO y u):x=y:=Hy (r.abs.symm.trans q.abs)
theorem aQ.inj:∀ {xs ys:List V}{us:List Value},aQ xs us->aQ ys us->xs=ys
 | _,_,_,.nil,.nil=>rfl
 | _,_,_,.cons r t,.cons r' t'=>by rw[r.inj r',aQ.inj t t']
section
variable {X:Cx}{pins:List (Addr×Obj)}{σ:St}{H:Hp}{s:Shared}{a:Addr}{xs ys:List V}
theorem aL.of {K:PySem.W.Frag}(h:H a=some (.lst xs)):aL K H a xs:=.inl (.inl h)
theorem dC.of {K:PySem.W.Frag}(h:H a=some (.tup xs)):dC K H a xs:=.inl (.inl h)
theorem ax.list (I:ax X pins σ H s)(h:aL X.K H a xs):∃ its:List Value,aQ xs its/\PlainL s.heap a its.toArray/\xs.length<=sizeLine:=by
 rcases h with h | ⟨o,its,n,hk,hc,hd,hs,hz,r⟩
 ·obtain⟨z,its,n,r,e⟩:=h.ok I.hok
  exact⟨its,r,⟨_,n,e,rfl,rfl,rfl⟩,z⟩
 ·refine⟨its.toList,r,⟨o,n,I.kIn a o hk,hc,hd,by simpa using hs⟩,?_⟩
  have e:=r.length;simp only[Jp]at e;omega
theorem ax.tuple (I:ax X pins σ H s)(h:dC X.K H a xs):∃ its:List Value,aQ xs its/\IsTup s.heap a its.toArray/\xs.length<=sizeLine:=by
 rcases h with h | ⟨o,its,n,hk,hc,hs,hz,r⟩
 ·obtain⟨z,its,r,p⟩:=h.ok I.hok
  exact⟨its,r,p,z⟩
 ·refine⟨its.toList,r,⟨o,I.kIn a o hk,hc,n,by simpa using hs⟩,?_⟩
  have e:=r.length;simp only[Jp]at e;omega
theorem ax.list_inj (I:ax X pins σ H s)(h:aL X.K H a xs)(h':aL X.K H a ys):xs=ys:=by
 obtain⟨its,r,⟨o,n,e,_,_,d⟩,_⟩:=I.list h;obtain⟨its',r',⟨o',n',e',_,_,d'⟩,_⟩:=I.list h';rw[e]at e';cases e';rw[d]at d';injection d' with d1 _
 have:its=its':=by simpa using JJ Array.toList d1
 subst this;exact r.inj r'
theorem ax.tuple_inj (I:ax X pins σ H s)(h:dC X.K H a xs)(h':dC X.K H a ys):xs=ys:=by
 obtain⟨its,r,⟨o,e,_,n,d⟩,_⟩:=I.tuple h;obtain⟨its',r',⟨o',e',_,n',d'⟩,_⟩:=I.tuple h';rw[e]at e';cases e';rw[d]at d';injection d' with d1 _
 have:its=its':=by simpa using JJ Array.toList d1
 subst this;exact r.inj r'
end
abbrev Cx.wish (X:Cx)(E:Value->Shared->Prop):Cx:={ X with xe:=E }
abbrev Cx.nox (X:Cx):Cx:=X.wish fun _ _=>False
theorem Cx.Ok.wish {X:Cx}(ok:X.Ok)(E:Value->Shared->Prop):(X.wish E).Ok :=
 ⟨ok.mod,ok.kind,ok.glob,ok.blt,ok.above,ok.inj,ok.has,ok.cab,ok.hd,ok.frames,ok.stk,ok.exf,ok.bs,ok.bsz,ok.noex,ok.exfs,ok.funs,ok.frf⟩
theorem Cx.Ok.unwish {X:Cx}{E:Value->Shared->Prop}(ok:(X.wish E).Ok):X.Ok :=
 ⟨ok.mod,ok.kind,ok.glob,ok.blt,ok.above,ok.inj,ok.has,ok.cab,ok.hd,ok.frames,ok.stk,ok.exf,ok.bs,ok.bsz,ok.noex,ok.exfs,ok.funs,ok.frf⟩
section
variable {X:Cx}{pins:List (Addr×Obj)}{σ:St}{H:Hp}{s:Shared}{E:Value->Shared->Prop}
theorem ax.wish (I:ax X pins σ H s)(E:Value->Shared->Prop):ax (X.wish E) pins σ H s:=⟨I.ok.wish E,I.os,I.bare,I.base,I.loc,I.cell,I.free,I.freeC,I.pin,I.hok,I.len⟩
theorem ax.unwish (I:ax (X.wish E) pins σ H s):ax X pins σ H s:=⟨I.ok.unwish,I.os,I.bare,I.base,I.loc,I.cell,I.free,I.freeC,I.pin,I.hok,I.len⟩
theorem SP.unwish {D:im}{f:Flow}{s':Shared}(h:SP (X.wish E) pins D f s'):SP X pins D f s':=by
 cases f with
 | next=>obtain⟨σ',H',I,q⟩:=h;exact⟨σ',H',I.unwish,q⟩
 | brk=>obtain⟨σ',H',I,q⟩:=h;exact⟨σ',H',I.unwish,q⟩
 | cont=>obtain⟨σ',H',I,q⟩:=h;exact⟨σ',H',I.unwish,q⟩
 | ret u=>obtain⟨v,σ',H',I,r,q⟩:=h;exact⟨v,σ',H',I.unwish,r,q⟩
theorem vR.nox {st:List Stmt}{t:TS}(h:vR X.nox st t):vR X st t:=fun pins s σ H D I hw =>
 Il (h pins s σ H D (I.wish _) hw) (fun _ _ q=>q.unwish) fun _ _ z=>False.elim z
end
section
variable {X:Cx}{st:Stmt}{rest:List Stmt}{t u:TS}{e:Expr}{te:TE}{pos:Pos}
def DM:TS:=fun D σ H=>D.nx σ H
def FM (t u:TS):TS:=fun D σ H=>t { D with nx:=u D } σ H
theorem aJ:vR X [] DM:=fun _ _ σ H _ I h=>wpAny_execs_nil ⟨σ,H,I,h⟩
theorem af (h1:PS X st t)(h2:vR X rest u):vR X (st::rest) (FM t u):=by
 intro pins s σ H D I h;refine wpAny_execs_cons (bc (h1 pins s σ H { D with nx:=u D } I h) fun f s1 q=>?_)
 cases f with
 | next =>
  obtain⟨σ',H',I',q⟩:=q;exact h2 pins s1 σ' H' D I' q
 | ret v=>exact q
 | brk=>exact q
 | cont=>exact q
theorem ag (h1:PS X st t):vR X [st] t:=by
 intro pins s σ H D I h;refine wpAny_execs_cons (bc (h1 pins s σ H D I h) fun f s1 q=>?_)
 cases f with
 | next=>exact wpAny_execs_nil q
 | ret v=>exact q
 | brk=>exact q
 | cont=>exact q
theorem ax.quiet {pins:List (Addr×Obj)}{σ:St}{H:Hp}{s:Shared}(I:ax X pins σ H s):interactive X.env=false:=by simp[interactive,I.ok.kind]
def FH (te:TE):TS:=fun D σ H=>te σ H fun _ H1=>D.nx σ H1
theorem bd (he:PE X e te)(hs:swapsWith e none pos.line X.env=pure false:=by rfl):PS X (.Expr e pos) (FH te):=by
 intro pins s σ H D I h;exact wpAny_Expr_any (bc (he pins s σ H _ I h) fun v s1 ⟨x,H1,I1,r1,q1⟩=>⟨σ,H1,I1,q1⟩) I.quiet hs
def GK (te:TE):TS:=fun D σ H=>te σ H D.rt
theorem ar (he:PE X e te):PS X (.Return (some e) pos) (GK te):=by
 intro pins s σ H D I h;exact wpAny_Return_some (bc (he pins s σ H _ I h) fun v s1 ⟨x,H1,I1,r1,q1⟩=>⟨x,σ,H1,I1,r1,q1⟩)
def GF (c:TT)(t u:TS):TS:=fun D σ H=>c σ H fun b H1=>if b=true then t D σ H1 else u D σ H1
theorem bp {c:Expr}{a b:List Stmt}{tc:TT}(hc:PT X c tc)(ha:vR X a t)(hb:vR X b u):PS X (.If c a b pos) (GF tc t u):=by
 intro pins s σ H D I h;refine wpAny_If (bc (hc pins s σ H _ I h) fun d s1 ⟨H1,I1,q1⟩=>?_)
 cases d with
 | true=>exact ha pins s1 σ H1 D I1 q1
 | false=>exact hb pins s1 σ H1 D I1 q1
end
abbrev TG:=V->St->Hp->(St->Hp->Prop)->Prop
abbrev Cu:=List V->St->Hp->(St->Hp->Prop)->Prop
def PG (X:Cx)(target:Expr)(t:TG):Prop :=
 ∀ (pins:List (Addr×Obj))(s:Shared)(σ:St)(H:Hp)(v:V)(u:Value)(Q:St->Hp->Prop),ax X pins σ H s->aO v u->t v σ H Q ->
  wpAny (model X.prog X.w) X.A (assign target X.env u) (fun _ s'=>∃ σ' H',ax X pins σ' H' s'/\Q σ' H') X.xe s
def FT (X:Cx)(ts:List Expr)(t:Cu):Prop :=
 ∀ (pins:List (Addr×Obj))(s:Shared)(σ:St)(H:Hp)(vs:List V)(us:List Value)(Q:St->Hp->Prop),ax X pins σ H s->aQ vs us->t vs σ H Q ->
  wpAny (model X.prog X.w) X.A (assignInOrder ((assignEach ts X.env).map (·.2)) us) (fun _ s'=>∃ σ' H',ax X pins σ' H' s'/\Q σ' H') X.xe s
abbrev FX:=V->V->Hp->VK->Prop
def GV (X:Cx)(op:Operator)(t:FX):Prop :=
 ∀ (pins:List (Addr×Obj))(s:Shared)(σ:St)(H:Hp)(x y:V)(v u:Value)(Q:VK),ax X pins σ H s->aO x v->aO y u->t x y H Q ->
  wpAny (model X.prog X.w) X.A (inplaceOp op v u) (EP X pins σ Q) X.xe s
section
variable {X:Cx}{pos:Pos}
def lC (i:Nat):TG:=fun v σ H Q=>Q (σ.set i (some v)) H
theorem gq {i:Nat}{x:Str}(hN:X.N.Nodup)(hi:X.N[i]? = some x)(hx:DZ X.env.scope x)(hf:X.fn x=true\/X.env.scope.names.lookup x=some .local:=by first | exact .inl rfl | exact .inr rfl | assumption):PG X (.Name x pos) (lC i):=by
 intro pins s σ H v u Q I r h;exact wpAny_assign_Name (rK I hN hi hx r (fun s' I'=>⟨_,H,I',h⟩) hf)
def Gg:Cu:=fun vs σ H Q=>vs=[]/\Q σ H
inductive GC (t:TG) (u:Cu) (vs:List V) (σ:St) (H:Hp) (Q:St->Hp->Prop):Prop
 | mk (v:V) (r:List V) (e:vs=v::r) (h:t v σ H fun σ' H'=>u r σ' H' Q):GC t u vs σ H Q
def Fb (t:TG)(u:Cu):Cu:=fun vs σ H Q=>GC t u vs σ H Q
theorem pC:FT X [] Gg:=by
 intro pins s σ H vs us Q I r h;obtain⟨e,h⟩:=h;subst e;cases r;exact assignInOrder_nil ⟨σ,H,I,h⟩
theorem dF {e:Expr}{es:List Expr}{t:TG}{u:Cu}(h1:PG X e t)(h2:FT X es u)
  (hs:(assignEach (e::es) X.env).map (·.2)=assign e X.env::(assignEach es X.env).map (·.2):=by rfl):FT X (e::es) (Fb t u):=by
 intro pins s σ H vs us Q I r h;obtain⟨v,vr,e1,h⟩:=h;subst e1
 cases r with
 | cons r rr =>
  rw[hs];refine assignInOrder_cons (bc (h1 pins s σ H _ _ _ I r h) fun _ s1 ⟨σ1,H1,I1,q1⟩=>?_);exact h2 pins s1 σ1 H1 _ _ Q I1 rr q1
inductive GT (K:PySem.W.Frag) (n:Nat) (t:Cu) (v:V) (σ:St) (H:Hp) (Q:St->Hp->Prop):Prop
 | mk (a:Addr) (xs:List V) (e:v=.ref a) (q:dC K H a xs) (l:xs.length=n) (h:t xs σ H Q):GT K n t v σ H Q
def Gh (K:PySem.W.Frag)(n:Nat)(t:Cu):TG:=fun v σ H Q=>GT K n t v σ H Q
theorem vd {es:List Expr}{k:Nat}{t:Cu}{n:Nat}(hc:X.calm=true)(h:FT X es t)
  (hn:(assignEach es X.env).length=n:=by rfl) (hst:(assignEach es X.env).findIdx? (·.1)=none:=by rfl):PG X (.Tuple es k pos) (Gh X.K n t):=by
 intro pins s σ H v u Q I r hw;obtain⟨a,xs,e1,hq,hl,hw⟩:=hw;subst e1;cases r;obtain⟨its,rv,ht,hz⟩:=I.tuple hq;refine assign_Tuple_tuple (I.ok.hd hc) ht (by simp[hn,<-hl,rv.length]) hst fun h' hx=>?_;have I1:ax X pins σ H { s with heap:=h' }:=I.kept (t':=s.toks) fun b o e=>hx b o (Ib (HQ e)) e;exact h pins _ σ H xs _ Q I1 (by simpa using rv) hw
def EB (te:TE)(g:TG):TS:=fun D σ H=>te σ H fun x H1=>g x σ H1 D.nx
theorem Et {tg e:Expr}{te:TE}{g:TG}(he:PE X e te)(hg:PG X tg g)(hs:swapsWithSole [tg] e pos.line X.env=pure false:=by rfl)(hw:swappedStores [tg] e X.env=pure none:=by rfl)
  (h1:(assignEach [tg] X.env).map (·.2)=[assign tg X.env]:=by rfl):PS X (.Assign [tg] e pos) (EB te g):=by
 intro pins s σ H D I h;refine wpAny_Assign_stores (bc (he pins s σ H _ I h) fun v s1 ⟨x,H1,I1,r1,q1⟩=>?_) hs hw;rw[h1];exact bc (hg pins s1 σ H1 x v _ I1 r1 q1) fun _ s2 q=>q
theorem cZ {i:Nat}{x:Str}{e:Expr}{te:TE}{pos':Pos}(hN:X.N.Nodup)(hi:X.N[i]? = some x)(hx:DZ X.env.scope x)(he:PE X e te)(hs:swapsWith e (some (.Name x pos')) pos.line X.env=pure false:=by rfl)(hf:X.fn x=true\/X.env.scope.names.lookup x=some .local:=by first | exact .inl rfl | exact .inr rfl | assumption) :
  PS X (.Assign [.Name x pos'] e pos) (EB te (lC i)):=by
 intro pins s σ H D I h;refine wpAny_Assign_Name (bc (he pins s σ H _ I h) fun v s1 ⟨y,H1,I1,r1,q1⟩=>?_) hs;exact rK I1 hN hi hx r1 (fun s2 I2=>⟨_,H1,I2,q1⟩) hf
def GA (i:Nat)(te:TE)(ti:FX):TS:=fun D σ H=>∃ x,σ[i]? = some (some x)/\te σ H fun y H1=>ti x y H1 fun z H2=>D.nx (σ.set i (some z)) H2
theorem Eu {i:Nat}{x:Str}{e:Expr}{te:TE}{op:Operator}{ti:FX}{pos':Pos}(hN:X.N.Nodup)(hi:X.N[i]? = some x)(hx:DZ X.env.scope x)(he:PE X e te)(ho:GV X op ti)(hf:X.fn x=true\/X.env.scope.names.lookup x=some .local:=by first | exact .inl rfl | exact .inr rfl | assumption) :
  PS X (.AugAssign (.Name x pos') op e pos) (GA i te ti):=by
 intro pins s σ H D I h;obtain⟨v,e1,h⟩:=h;obtain⟨m,hn,hl⟩:=I.loc
 have vis:E7 X.env.scope x:=by rcases hx with k | k;exact .inl k;exact .inr (.inl k)
 obtain⟨u,r,l⟩:=hl i x v hi e1 vis;refine wpAny_AugAssign_Name ?_
 have go:wpAny (model X.prog X.w) X.A (eval e X.env) (fun w s₂=>wpAny (model X.prog X.w) X.A (inplaceOp op u w) (fun r s₃=>wpAny (model X.prog X.w) X.A (storeName X.env x r) (fun _=>SP X pins D .next) X.xe s₃) X.xe s₂) X.xe s:=by
  refine bc (he pins s σ H _ I h) fun w s1 ⟨y,H1,I1,r1,q1⟩=>?_;refine bc (ho pins s1 σ H1 v y u w _ I1 r r1 q1) fun z s2 ⟨zv,H2,I2,r2,q2⟩=>?_;exact rK I2 hN hi hx r2 (fun s3 I3=>⟨_,H2,I3,q2⟩) hf
 rcases l with ⟨hk,hm⟩ | ⟨hk,c,hc,hcell⟩
 ·exact wpAny_loadName_local I.ok.kind hk hn hm go
 ·rcases hk with hk | hk
  ·exact wpAny_loadName_cell I.ok.kind hk hc hcell go
  ·rcases hx with k | k
   ·have:X.env.scope.names.lookup x=some .free:=hk
    rw[k]at this;cases this
   ·have:X.env.scope.names.lookup x=some .free:=hk
    rw[k]at this;cases this
def Hc (f:Int->Int->Int):FX:=fun x y H Q=>∃ i j,x=.int i/\y=.int j/\Q (.int (f i j)) H
theorem D6:GV X .Add (Hc fun i j=>i+j):=by
 intro pins s σ H x y v u Q I r1 r2 h;obtain⟨i,j,e1,e2,q⟩:=h;subst e1;subst e2;obtain⟨t,rfl⟩:=r1;obtain⟨t',rfl⟩:=r2;exact iadd_int ⟨.int _,H,I.tok _,⟨_,rfl⟩,q⟩
end
section
variable {X:Cx}{pos:Pos}
def EK (c:TT)(tb:TS):TS:=fun D σ H=>∃ W:Nat->St->Hp->Prop,(∃ m,W m σ H)/\∀ m σ H,W m σ H ->
 c σ H fun b H1=>if b=true then ∃ N:St->Hp->Prop,(∀ σ' H',N σ' H'->∃ m',m'<m/\W m' σ' H')/\tb { D with nx:=N,ct:=N,bk:=D.nx } σ H1 else D.nx σ H1
theorem jI {c:Expr}{body:List Stmt}{tc:TT}{tb:TS}(hp:PassesOwn (model X.prog X.w) X.A X.env X.xe)(hc:PT X c tc)(hb:vR X body tb):PS X (.While c body [] pos) (EK tc tb):=by
 intro pins s σ H D I h;obtain⟨W,⟨m0,w0⟩,turn⟩:=h;refine wpAny_While (codeAny_whileLoop (fun n s'=>∃ σ' H',ax X pins σ' H' s'/\W n σ' H') ?_ m0 ⟨σ,H,I,w0⟩);rintro n s1 ⟨σ1,H1,I1,w1⟩;refine JI hp (bc (hc pins s1 σ1 H1 _ I1 (turn n σ1 H1 w1)) fun b s2 ⟨H2,I2,q2⟩=>?_)
 cases b with
 | true =>
  obtain⟨N,hN,q2⟩:=q2;rw[Hw rfl];refine JI hp (bc (hb pins s2 σ1 H2 _ I2 q2) fun f s3 q3=>?_)
  cases f with
  | next =>
   obtain⟨σ3,H3,I3,n3⟩:=q3;obtain⟨m',hm,w3⟩:=hN σ3 H3 n3;exact⟨m',hm,σ3,H3,I3,w3⟩
  | cont =>
   obtain⟨σ3,H3,I3,n3⟩:=q3;obtain⟨m',hm,w3⟩:=hN σ3 H3 n3;exact⟨m',hm,σ3,H3,I3,w3⟩
  | brk=>exact q3
  | ret v=>exact q3
 | false =>
  rw[Hu HN];exact wpAny_execs_nil ⟨σ1,H2,I2,q2⟩
end
structure It where
 go:Nat->Hp->Prop
 yld:Nat->Hp->V->Hp->Prop
 stop:Nat->Hp->Prop
def gU (X:Cx)(pins:List (Addr×Obj))(H:Hp)(b:Addr):Prop :=
 H b=none/\b≠X.env.locals/\b∉X.fs/\(b∈X.ex\/X.s₀.heap.objs.size<=b)/\(∀ x c,X.env.cells.lookup x=some c->c≠b)/\∀ p∈X.pn++pins,p.1≠b
theorem ax.fpOk {X:Cx}{pins:List (Addr×Obj)}{σ:St}{H H':Hp}{s:Shared}{b:Addr}(I:ax X pins σ H s)(hb:s.heap.objs.size<=b)(hn:H' b=none):gU X pins H' b:=by
 refine⟨hn,Nat.ne_of_gt (Ij I.lt hb),I.nofs hb,.inr (Ix I.sz hb),fun x c e z=>?_,fun p hp z=>?_⟩
 ·obtain⟨v,q⟩:=I.cell x c e
  exact absurd (Ij q.lt (by rw[z];exact hb)) (JZ _)
 ·exact absurd (Ij (HQ (I.pin p hp).1) (by rw[z];exact hb)) (JZ _)
structure vT (P:Program)(w:World)(K:PySem.W.Frag)(tg:Expr)(J:It)(fp:List Addr)(it:Addr)(tn:Nat->Heap->Prop):Prop where
 mem:it∈fp
 obj:∀ i h,tn i h->∀ b∈fp,∃ o,h.get? b=some o/\∀ v,o.data≠.cell v
 keep:∀ i h h',tn i h->(∀ b∈fp,∀ o,h.get? b=some o->h'.get? b=some o)->tn i h'
 item:∀ (X:Cx),X.prog=P->X.w=w->X.K=K->X.calm=true->∀ (i:Nat)(pins:List (Addr×Obj))(s:Shared)(σ:St)(H:Hp)(E:Value->Shared->Prop),ax X pins σ H s->(∀ b∈fp,gU X pins H b)->tn i s.heap->J.go i H ->
  wpAny (model P w) X.A (pyNext (.ref it)) (fun r s1=>∃ u,r=some u /\
   wpAny (model P w) X.A (letOwnedTupleGo tg (.ref it) u) (fun _ s2=>∃ x H',ax X pins σ H' s2/\aO x u/\J.yld i H x H'/\tn (i+1) s2.heap/\∀ b∈fp,H' b=none) E s1) E s
 done:∀ (X:Cx),X.prog=P->X.w=w->X.K=K->X.calm=true->∀ (i:Nat)(pins:List (Addr×Obj))(s:Shared)(σ:St)(H:Hp)(E:Value->Shared->Prop),ax X pins σ H s->(∀ b∈fp,gU X pins H b)->tn i s.heap->J.stop i H ->
  wpAny (model P w) X.A (pyNext (.ref it)) (fun r s1=>r=none/\ax X pins σ H s1) E s
 self:∀ (A:Around)(i:Nat)(s:Shared)(Q:Value->Shared->Prop)(E:Value->Shared->Prop),tn i s.heap->Q (.ref it) s->wpAny (model P w) A (pyIter (.ref it)) Q E s
abbrev TI:=St->Hp->(It->Hp->Prop)->Prop
def GU (X:Cx)(pins:List (Addr×Obj))(σ:St)(tg:Expr)(R:It->Hp->Prop)(itv:Value)(s2:Shared):Prop :=
 ∃ (it:Addr)(fp:List Addr)(tn:Nat->Heap->Prop)(J:It)(H':Hp),itv=.ref it/\ax X pins σ H' s2/\vT X.prog X.w X.K tg J fp it tn/\tn 0 s2.heap/\(∀ b∈fp,gU X pins H' b)/\R J H'
def PI (X:Cx)(tg iter:Expr)(wi:TI):Prop :=
 ∀ (pins:List (Addr×Obj))(s:Shared)(σ:St)(H:Hp)(R:It->Hp->Prop),ax X pins σ H s->wi σ H R ->
  wpAny (model X.prog X.w) X.A (eval iter X.env) (fun v s1=>wpAny (model X.prog X.w) X.A (pyIter v) (GU X pins σ tg R) X.xe s1) X.xe s
theorem wu {M:Model}{A:Around}{E:Value->Shared->Prop}{s:Shared}{tg:Expr}{it:Addr}{u:Value}{o:Obj}{n:String}{vs:Array Value}{Q:Unit->Shared->Prop}(ho:s.heap.get? it=some o)(hc:o.cls=.type n)(hd:o.data=.fields vs)
  (hn:["enumerate","zip","dict_itemiterator","dict_reverseitemiterator","odict_iterator","itertools.zip_longest","itertools.pairwise"].contains n=false) (hQ:Q () s):wpAny M A (letOwnedTupleGo tg (.ref it) u) Q E s:=by
 unfold letOwnedTupleGo
 cases tg<;>first
  | exact Hz hQ
  | (cases u<;>first
    | exact Hz hQ
    | (refine Ht (wpAny_load ho ?_)
       rw[hc,hd]
       show wpAny M A (if (["enumerate","zip","dict_itemiterator","dict_reverseitemiterator","odict_iterator","itertools.zip_longest","itertools.pairwise"].contains n&&vs[0]? == some (rawInt _))=true then _ else _) Q E s
       rw[Hu (by intro h;rw[hn,Bool.false_and]at h;cases h)]
       exact Hz hQ))
def Co (K:PySem.W.Frag)(a:Addr):It :=
 ⟨fun i H=>∃ xs x,aL K H a xs/\xs[i]? = some x,fun i H x H'=>H'=H/\∀ xs,aL K H a xs->xs[i]? = some x,fun i H=>∃ xs,aL K H a xs/\xs.length<=i⟩
def EV (K:PySem.W.Frag)(a:Addr):It :=
 ⟨fun i H=>∃ xs x,dC K H a xs/\xs[i]? = some x,fun i H x H'=>H'=H/\∀ xs,dC K H a xs->xs[i]? = some x,fun i H=>∃ xs,dC K H a xs/\xs.length<=i⟩
def EO (lo:Int)(n:Nat):It:=⟨fun i _=>i<n,fun i H x H'=>H'=H/\x=.int (lo+i),fun i _=>n<=i⟩
theorem AA {P:Program}{w:World}{K:PySem.W.Frag}{tg:Expr}(a it:Addr):vT P w K tg (Co K a) [it] it (fun i h=>h.IsListIter it a i) where
 mem:=by simp
 obj:=fun i h st b hb=>by
  have e:b=it:=by simpa using hb
  subst e;obtain⟨o,e,c,d⟩:=st;exact⟨o,e,fun v z=>by rw[d]at z;cases z⟩
 keep:=fun i h h' st k=>st.at fun o e=>k it (by simp) o e
 item:=by
  intro X hP hw hK hc i pins s σ H E I hf st hg;subst hP hw hK;obtain⟨xs,x,hq,hx⟩:=hg;obtain⟨its,rv,p,hz⟩:=I.list hq;obtain⟨u,hu,ru⟩:=rv.get hx;obtain⟨f0,f1,f2,f3,f4,f5⟩:=hf it (by simp);refine wpAny_pyNext_list_item st p.isList (x:=u) (by simpa using hu) fun h' st' sb=>?_;have I1:ax X pins σ H { s with heap:=h' }:=I.turned (t':=s.toks) (fun b o hb e=>(sb.2 b hb).trans e) f0 f1 f3 f4 f5;obtain⟨o,e,c,d⟩:=id st';exact⟨u,rfl,wu (s:={ s with heap:=h' }) e c d (by decide) ⟨x,H,I1,ru,⟨rfl,fun ys hy=>by rw[I.list_inj hy hq];exact hx⟩,st',fun b hb=>(hf b hb).1⟩⟩
 done:=by
  intro X hP hw hK hc i pins s σ H E I hf st hg;subst hP hw hK;obtain⟨xs,hq,hx⟩:=hg;obtain⟨its,rv,p,hz⟩:=I.list hq;obtain⟨f0,f1,f2,f3,f4,f5⟩:=hf it (by simp);have hl:=rv.length;exact wpAny_pyNext_list_end (I.ok.hd hc) st p.isList (by simp;omega) fun h' eb=>⟨rfl,I.turned (t':=s.toks) (fun b o hb e=>eb b o hb e) f0 f1 f3 f4 f5⟩
 self:=fun _ _ _ _ _ st h=>wpAny_pyIter_listiter st h
theorem yA {P:Program}{w:World}{K:PySem.W.Frag}{tg:Expr}(a it:Addr):vT P w K tg (EV K a) [it] it (fun i h=>h.IsTupleIter it a i) where
 mem:=by simp
 obj:=fun i h st b hb=>by
  have e:b=it:=by simpa using hb
  subst e;obtain⟨o,e,c,d⟩:=st;exact⟨o,e,fun v z=>by rw[d]at z;cases z⟩
 keep:=fun i h h' st k=>st.at fun o e=>k it (by simp) o e
 item:=by
  intro X hP hw hK hc i pins s σ H E I hf st hg;subst hP hw hK;obtain⟨xs,x,hq,hx⟩:=hg;obtain⟨its,rv,p,hz⟩:=I.tuple hq;obtain⟨u,hu,ru⟩:=rv.get hx;obtain⟨f0,f1,f2,f3,f4,f5⟩:=hf it (by simp);refine wpAny_pyNext_tuple_item st (show s.heap.IsTuple a its.toArray from p) (x:=u) (by simpa using hu) fun h' st' sb=>?_;have I1:ax X pins σ H { s with heap:=h' }:=I.turned (t':=s.toks) (fun b o hb e=>(sb.2 b hb).trans e) f0 f1 f3 f4 f5;obtain⟨o,e,c,d⟩:=id st';exact⟨u,rfl,wu (s:={ s with heap:=h' }) e c d (by decide) ⟨x,H,I1,ru,⟨rfl,fun ys hy=>by rw[I.tuple_inj hy hq];exact hx⟩,st',fun b hb=>(hf b hb).1⟩⟩
 done:=by
  intro X hP hw hK hc i pins s σ H E I hf st hg;subst hP hw hK;obtain⟨xs,hq,hx⟩:=hg;obtain⟨its,rv,p,hz⟩:=I.tuple hq;obtain⟨f0,f1,f2,f3,f4,f5⟩:=hf it (by simp);have hl:=rv.length;exact wpAny_pyNext_tuple_end (I.ok.hd hc) st (show s.heap.IsTuple a its.toArray from p) (by simp;omega) fun h' eb=>⟨rfl,I.turned (t':=s.toks) (fun b o hb e=>eb b o hb e) f0 f1 f3 f4 f5⟩
 self:=fun _ _ _ _ _ st h=>wpAny_pyIter_tupleiter st h
theorem yz {P:Program}{w:World}{K:PySem.W.Frag}{tg:Expr}(it:Addr)(lo:Int)(n:Nat):vT P w K tg (EO lo n) [it] it (fun i h=>IsRangeIter h it (lo+(i:Nat)*1) ((n:Int)-(i:Nat)) 1) where
 mem:=by simp
 obj:=fun i h st b hb=>by
  have e:b=it:=by simpa using hb
  subst e
  exact⟨_,st,fun v z=>by
   have z':Data.fields _=Data.cell v:=z
   cases z'⟩
 keep:=fun i h h' st k=>k it (by simp) _ st
 item:=by
  intro X hP hw hK hc i pins s σ H E I hf st hg;subst hP hw hK;obtain⟨f0,f1,f2,f3,f4,f5⟩:=hf it (by simp);have W:=Walks.range (prog:=X.prog) (w:=X.w) (I.ok.hd hc) it lo 1 n;refine W.item i s _ _ hg st fun v h' tk hv st' kk=>?_;obtain⟨t,rfl⟩:=hv;have I1:ax X pins σ H { s with heap:=h',toks:=tk }:=I.turned (fun b o hb e=>kk b o (by simpa using hb) e) f0 f1 f3 f4 f5;refine⟨_,rfl,wu (s:={ s with heap:=h',toks:=tk }) (n:="range_iterator") st' rfl rfl (by decide) ⟨.int (lo+i),H,I1,⟨t,?_⟩,⟨rfl,rfl⟩,st',fun b hb=>(hf b hb).1⟩⟩;rw[Int.mul_one]
 done:=by
  intro X hP hw hK hc i pins s σ H E I hf st hg;subst hP hw hK;obtain⟨f0,f1,f2,f3,f4,f5⟩:=hf it (by simp);exact wpAny_pyNext_range_end (I.ok.hd hc) st (by have:n<=i:=hg;omega) fun h' eb=>⟨rfl,I.turned (t':=s.toks) (fun b o hb e=>eb b o hb e) f0 f1 f3 f4 f5⟩
 self:=fun _ _ _ _ _ st h=>wpAny_pyIter_rangeiter st h
section
variable {X:Cx}{tg:Expr}
inductive GR (K:PySem.W.Frag) (R:It->Hp->Prop) (x:V) (H:Hp):Prop
 | mk (a:Addr) (e:x=.ref a) (q:∃ xs,aL K H a xs) (h:R (Co K a) H):GR K R x H
def A5 (K:PySem.W.Frag)(tl:TE):TI:=fun σ H R=>tl σ H fun x H1=>GR K R x H1
def Gj (K:PySem.W.Frag)(tl:TE):TI:=fun σ H R=>tl σ H fun x H1=>∃ a,x=.ref a/\(∃ xs,dC K H1 a xs)/\R (EV K a) H1
theorem bq {l:Expr}{tl:TE}(hl:PE X l tl):PI X tg l (A5 X.K tl):=by
 intro pins s σ H R I h;refine bc (hl pins s σ H _ I h) fun v s1 ⟨x,H1,I1,r1,q1⟩=>?_;obtain⟨a,e,⟨xs,hq⟩,q⟩:=q1;subst e;cases r1;obtain⟨its,rv,p,hz⟩:=I1.list hq;refine wpAny_pyIter_list p.isList ?_;refine⟨s1.heap.objs.size,[s1.heap.objs.size],_,_,H1,rfl,I1.kept (t':=s1.toks) fun b o e=>Heap.get?_push_of_some _ e,AA a _,⟨_,Heap.get?_push_size _ rfl,rfl,rfl⟩,fun b hb=>?_,q⟩
 have e:b=s1.heap.objs.size:=by simpa using hb
 subst e;exact I1.fpOk (Hv _) (I1.hok.fresh (Hv _))
theorem Er {l:Expr}{tl:TE}(hl:PE X l tl):PI X tg l (Gj X.K tl):=by
 intro pins s σ H R I h;refine bc (hl pins s σ H _ I h) fun v s1 ⟨x,H1,I1,r1,q1⟩=>?_;obtain⟨a,e,⟨xs,hq⟩,q⟩:=q1;subst e;cases r1;obtain⟨its,rv,p,hz⟩:=I1.tuple hq;refine wpAny_pyIter_tuple (show s1.heap.IsTuple a its.toArray from p) ?_;refine⟨s1.heap.objs.size,[s1.heap.objs.size],_,_,H1,rfl,I1.kept (t':=s1.toks) fun b o e=>Heap.get?_push_of_some _ e,yA a _,⟨_,Heap.get?_push_size _ rfl,rfl,rfl⟩,fun b hb=>?_,q⟩
 have e:b=s1.heap.objs.size:=by simpa using hb
 subst e;exact I1.fpOk (Hv _) (I1.hok.fresh (Hv _))
theorem BS {pins:List (Addr×Obj)}{σ:St}{H:Hp}{s:Shared}{R:It->Hp->Prop}{E:Value->Shared->Prop}{lo hi:Int}{t u v:Tok}{tk:Nat}(I:ax X pins σ H s)(h1 : -(2 ^ 62)<=lo)(h2:lo<2 ^ 62)(h3 : -(2 ^ 62)<=hi)(h4:hi<2 ^ 62)
  (q:R (EO lo (hi-lo).toNat) H):wpAny (model X.prog X.w) X.A (pyIter (.ref s.heap.objs.size)) (GU X pins σ tg R) E { s with heap:=s.heap.push { cls:=.type "range",data:=.fields #[.int lo t,.int hi u,.int 1 v] },toks:=tk }:=by
 refine wpAny_pyIter_range (IsRange.new ..) (small_one h1 h2 h3 h4) ?_;have I1:ax X pins σ H { s with heap:=s.heap.push { cls:=.type "range",data:=.fields #[.int lo t,.int hi u,.int 1 v] },toks:=tk }:=I.kept fun b o e=>Heap.get?_push_of_some _ e
 refine⟨(s.heap.push { cls:=.type "range",data:=.fields #[.int lo t,.int hi u,.int 1 v] }).objs.size,[(s.heap.push { cls:=.type "range",data:=.fields #[.int lo t,.int hi u,.int 1 v] }).objs.size],_,_,H,rfl,
  I1.kept (t':=tk) fun b o e=>Heap.get?_push_of_some _ e,yz _ lo (hi-lo).toNat,?_,fun b hb=>?_,q⟩
 ·have e1:lo+((0:Nat):Int)*1=lo:=by simp
  have e2:(((hi-lo).toNat:Nat):Int)-((0:Nat):Int)=Builtin.Range.rangeSize lo hi 1:=by rw[rangeSize_one];split<;>omega
  show IsRangeIter _ _ (lo+((0:Nat):Int)*1) ((((hi-lo).toNat:Nat):Int)-((0:Nat):Int)) 1
  rw[e1,e2];exact Heap.get?_push_size _ rfl
 ·have e:b=(s.heap.push { cls:=.type "range",data:=.fields #[.int lo t,.int hi u,.int 1 v] }).objs.size:=by simpa using hb
  subst e;exact I1.fpOk (Hv _) (I1.hok.fresh (Hv _))
def Fd (ta:TA):TI:=fun σ H R=>ta σ H fun vs H1=>∃ j:Int,vs=[.int j]/\-(2 ^ 62)<=j/\j<2 ^ 62/\R (EO 0 j.toNat) H1
theorem nE {a:Expr}{ta:TA}{p pos:Pos}(hg:Gl X "range")(hm:X.mg "range" = none)(ha:PA X [a] ta)(hs:starEach [a] X.env=[(false,eval a X.env)]:=by rfl):PI X tg (.Call (.Name "range" p) [a] [] pos) (Fd ta):=by
 intro pins s σ H R I h;refine Call_ (mY I hg hm boot_range (JH (bc (ha pos pins s σ H _ I h) fun us s1 ⟨vs,H1,I1,r1,q1⟩=>?_) hs rfl));obtain⟨j,e,q1,q2,q⟩:=q1;subst e
 cases r1 with
 | cons r rr =>
  cases rr;obtain⟨t,rfl⟩:=r;exact call_range_1 (BS I1 (by omega) (by omega) q1 q2 (by simpa using q))
def FI (wi:TI)(g:TG)(tb:TS):TS:=fun D σ H=>wi σ H fun J H1=>∃ W:Nat->Nat->St->Hp->Prop,(∃ m,W 0 m σ H1)/\∀ i m σ H,W i m σ H ->
 (J.stop i H/\D.nx σ H)\/(J.go i H/\∃ N:St->Hp->Prop,(∀ σ' H',N σ' H'->∃ m',m'<m/\W (i+1) m' σ' H')/\∀ x H',J.yld i H x H'->g x σ H' fun σ2 H2=>tb { D with nx:=N,ct:=N,bk:=D.nx } σ2 H2)
def iJ (fp:List Addr)(h:Heap):List (Addr×Obj):=fp.filterMap fun b=>(h.get? b).map fun o=>(b,o)
theorem bQ {fp:List Addr}{h:Heap}{b:Addr}{o:Obj}(hb:b∈fp)(e:h.get? b=some o):(b,o)∈iJ fp h:=List.mem_filterMap.mpr ⟨b,hb,by rw[e];rfl⟩
theorem Ac {fp:List Addr}{h:Heap}{p:Addr×Obj}(hp:p∈iJ fp h):p.1∈fp/\h.get? p.1=some p.2:=by
 obtain⟨b,hb,e⟩:=List.mem_filterMap.mp hp
 cases q:h.get? b with
 | none=>rw[q]at e;cases e
 | some o =>
  rw[q]at e;have e':(b,o)=p:=Hy e;subst e';exact⟨hb,q⟩
theorem ax.pinned {pins:List (Addr×Obj)}{σ:St}{H:Hp}{s:Shared}{fp:List Addr}(I:ax X pins σ H s)(hf:∀ b∈fp,gU X pins H b)(ho:∀ b∈fp,∃ o,s.heap.get? b=some o/\∀ v,o.data≠.cell v):ax X (pins++iJ fp s.heap) σ H s :=
 I.pins_of fun p hp=>(Ie.mp hp).elim (fun z=>I.pin p (Ig _ z)) fun z=>by
  obtain⟨hb,e⟩:=Ac z;obtain⟨f0,f1,f2,_⟩:=hf p.1 hb;obtain⟨o,e',d⟩:=ho p.1 hb;rw[e]at e';cases e';exact⟨e,f0,f1,f2,d⟩
theorem ax.unpinned {pins pl:List (Addr×Obj)}{σ:St}{H:Hp}{s:Shared}(I:ax X (pins++pl) σ H s):ax X pins σ H s:=I.pins_of fun p hp=>I.pin p (Ig _ (Jv _ hp))
theorem cY {iter:Expr}{body:List Stmt}{wi:TI}{g:TG}{tb:TS}{pos:Pos}(hp:PassesOwn (model X.prog X.w) X.A X.env X.xe)(hc:X.calm=true)(hi:PI X tg iter wi)(hg:PG X tg g)(hb:vR X body tb)
  (hs:∀ x,foldedSetIterable iter X.env x=pure x:=by intro _;rfl):PS X (.For tg iter body [] pos) (FI wi g tb):=by
 intro pins s σ H D I h;refine wpAny_For (bc (hi pins s σ H _ I h) fun v s1 h1=>bc h1 fun itv s2 h2=>?_) hs;obtain⟨it,fp,tn,J,H2,e,I2,T,st2,f2,W,⟨m0,w0⟩,turn⟩:=h2;subst e;have stat:∀ {H':Hp},(∀ b∈fp,H' b=none)->∀ b∈fp,gU X pins H' b:=fun hn b hb=>⟨hn b hb,(f2 b hb).2⟩;refine codeAny_forLoop_any (fun n s'=>∃ i σ' H',ax X pins σ' H' s'/\tn i s'.heap/\(∀ b∈fp,H' b=none)/\W i n σ' H') ?_ m0 ⟨0,σ,H2,I2,st2,fun b hb=>(f2 b hb).1,w0⟩;rintro n s3 ⟨i,σ3,H3,I3,st3,fr3,w3⟩;rcases turn i n σ3 H3 w3 with ⟨stop,qn⟩ | ⟨go,N,hN,step⟩
 ·refine JI hp (bc (T.done X rfl rfl rfl hc i pins s3 σ3 H3 X.xe I3 (stat fr3) st3 stop) fun r s4 ⟨hr,I4⟩=>?_)
  subst hr;exact wpAny_execs_nil ⟨σ3,H3,I4,qn⟩
 ·refine JI hp (bc (T.item X rfl rfl rfl hc i pins s3 σ3 H3 X.xe I3 (stat fr3) st3 go) fun r s4 ⟨u,hr,h4⟩=>?_)
  subst hr;refine JI hp (bc h4 fun _ s5 ⟨x,H5,I5,r5,y5,st5,fr5⟩=>?_);have I5':=I5.pinned (stat fr5) (T.obj _ _ st5);refine JI hp (bc (hg _ s5 σ3 H5 x u _ I5' r5 (step x H5 y5)) fun _ s6 ⟨σ6,H6,I6,q6⟩=>?_);refine JI hp (bc (hb _ s6 σ6 H6 _ I6 q6) fun f s7 q7=>?_)
  have again:∀ {σ7:St}{H7:Hp},ax X (pins++iJ fp s5.heap) σ7 H7 s7->N σ7 H7->∃ m,m<n/\∃ i σ' H',ax X pins σ' H' s7/\tn i s7.heap/\(∀ b∈fp,H' b=none)/\W i m σ' H':=fun {σ7 H7} I7 n7=>by
   obtain⟨m',hm,w7⟩:=hN σ7 H7 n7;refine⟨m',hm,i+1,σ7,H7,I7.unpinned,T.keep _ _ _ st5 fun b hb o e=>(I7.pin (b,o) (Ig _ (Ig _ (bQ hb e)))).1,fun b hb=>?_,w7⟩;obtain⟨o,e,d⟩:=T.obj _ _ st5 b hb;exact (I7.pin (b,o) (Ig _ (Ig _ (bQ hb e)))).2.1
  cases f with
  | next=>obtain⟨σ7,H7,I7,n7⟩:=q7;exact again I7 n7
  | cont=>obtain⟨σ7,H7,I7,n7⟩:=q7;exact again I7 n7
  | brk=>obtain⟨σ7,H7,I7,q7⟩:=q7;exact⟨σ7,H7,I7.unpinned,q7⟩
  | ret v=>obtain⟨x7,σ7,H7,I7,r7,q7⟩:=q7;exact⟨x7,σ7,H7,I7.unpinned,r7,q7⟩
end
theorem bj {K:PySem.W.Frag}{a:Addr}{xs:List V}{g:TG}{tb:TS}{D:im}{σ:St}{H:Hp}(Pv:Nat->St->Hp->Prop)(h0:Pv 0 σ H)(hl:∀ i σ H,i<=xs.length->Pv i σ H->aL K H a xs)
  (hs:∀ i x σ H,xs[i]? = some x->Pv i σ H->g x σ H fun σ2 H2=>tb { D with nx:=Pv (i+1),ct:=Pv (i+1),bk:=D.nx } σ2 H2) (hd:∀ σ H,Pv xs.length σ H->D.nx σ H) :
  ∃ W:Nat->Nat->St->Hp->Prop,(∃ m,W 0 m σ H)/\∀ i m σ H,W i m σ H ->
   ((Co K a).stop i H/\D.nx σ H)\/((Co K a).go i H/\∃ N:St->Hp->Prop,(∀ σ' H',N σ' H'->∃ m',m'<m/\W (i+1) m' σ' H')/\∀ x H',(Co K a).yld i H x H'->g x σ H' fun σ2 H2=>tb { D with nx:=N,ct:=N,bk:=D.nx } σ2 H2):=by
 refine⟨fun i m σ H=>m=xs.length-i/\i<=xs.length/\Pv i σ H,⟨xs.length,by simp,Ip _,h0⟩,?_⟩;rintro i m σ H ⟨rfl,hi,p⟩;have q:=hl i σ H hi p
 by_cases hlt:i<xs.length
 ·refine .inr ⟨⟨xs,xs[i],q,by simp[hlt]⟩,Pv (i+1),fun σ' H' p'=>⟨xs.length-(i+1),by omega,rfl,hlt,p'⟩,fun x H' y=>?_⟩
  obtain⟨e,y⟩:=y;subst e;exact hs i x σ _ (y xs q) p
 ·have e:i=xs.length:=by omega
  subst e;exact .inl ⟨⟨xs,q,Hv _⟩,hd σ H p⟩
theorem CM {K:PySem.W.Frag}{a:Addr}{xs:List V}{g:TG}{tb:TS}{D:im}{σ:St}{H:Hp}(Pv:Nat->St->Hp->Prop)(h0:Pv 0 σ H)(hl:∀ i σ H,i<=xs.length->Pv i σ H->dC K H a xs)
  (hs:∀ i x σ H,xs[i]? = some x->Pv i σ H->g x σ H fun σ2 H2=>tb { D with nx:=Pv (i+1),ct:=Pv (i+1),bk:=D.nx } σ2 H2) (hd:∀ σ H,Pv xs.length σ H->D.nx σ H) :
  ∃ W:Nat->Nat->St->Hp->Prop,(∃ m,W 0 m σ H)/\∀ i m σ H,W i m σ H ->
   ((EV K a).stop i H/\D.nx σ H)\/((EV K a).go i H/\∃ N:St->Hp->Prop,(∀ σ' H',N σ' H'->∃ m',m'<m/\W (i+1) m' σ' H')/\∀ x H',(EV K a).yld i H x H'->g x σ H' fun σ2 H2=>tb { D with nx:=N,ct:=N,bk:=D.nx } σ2 H2):=by
 refine⟨fun i m σ H=>m=xs.length-i/\i<=xs.length/\Pv i σ H,⟨xs.length,by simp,Ip _,h0⟩,?_⟩;rintro i m σ H ⟨rfl,hi,p⟩;have q:=hl i σ H hi p
 by_cases hlt:i<xs.length
 ·refine .inr ⟨⟨xs,xs[i],q,by simp[hlt]⟩,Pv (i+1),fun σ' H' p'=>⟨xs.length-(i+1),by omega,rfl,hlt,p'⟩,fun x H' y=>?_⟩
  obtain⟨e,y⟩:=y;subst e;exact hs i x σ _ (y xs q) p
 ·have e:i=xs.length:=by omega
  subst e;exact .inl ⟨⟨xs,q,Hv _⟩,hd σ H p⟩
theorem mR {lo:Int}{n:Nat}{g:TG}{tb:TS}{D:im}{σ:St}{H:Hp}(Pv:Nat->St->Hp->Prop)(h0:Pv 0 σ H)
  (hs:∀ i σ H,i<n->Pv i σ H->g (.int (lo+i)) σ H fun σ2 H2=>tb { D with nx:=Pv (i+1),ct:=Pv (i+1),bk:=D.nx } σ2 H2) (hd:∀ σ H,Pv n σ H->D.nx σ H) :
  ∃ W:Nat->Nat->St->Hp->Prop,(∃ m,W 0 m σ H)/\∀ i m σ H,W i m σ H ->
   ((EO lo n).stop i H/\D.nx σ H)\/((EO lo n).go i H/\∃ N:St->Hp->Prop,(∀ σ' H',N σ' H'->∃ m',m'<m/\W (i+1) m' σ' H')/\∀ x H',(EO lo n).yld i H x H'->g x σ H' fun σ2 H2=>tb { D with nx:=N,ct:=N,bk:=D.nx } σ2 H2):=by
 refine⟨fun i m σ H=>m=n-i/\i<=n/\Pv i σ H,⟨n,by simp,Ip _,h0⟩,?_⟩;rintro i m σ H ⟨rfl,hi,p⟩
 by_cases hlt:i<n
 ·refine .inr ⟨hlt,Pv (i+1),fun σ' H' p'=>⟨n-(i+1),by omega,rfl,hlt,p'⟩,fun x H' y=>?_⟩
  obtain⟨e,y⟩:=y;subst e y;exact hs i σ _ hlt p
 ·have e:i=n:=by omega
  subst e;exact .inl ⟨Hv _,hd σ H p⟩
abbrev R2:=V->V->Hp->VK->Prop
def ph (X:Cx)(f:Value->Value->Sem Value)(r:R2):Prop :=
 ∀ (pins:List (Addr×Obj))(s:Shared)(σ:St)(H:Hp)(x y:V)(v u:Value)(Q:VK),ax X pins σ H s->aO x v->aO y u->r x y H Q ->
  wpAny (model X.prog X.w) X.A (f v u) (EP X pins σ Q) X.xe s
def Gc (X:Cx)(f:Value->Sem Value)(r:V->Hp->VK->Prop):Prop :=
 ∀ (pins:List (Addr×Obj))(s:Shared)(σ:St)(H:Hp)(x:V)(v:Value)(Q:VK),ax X pins σ H s->aO x v->r x H Q ->
  wpAny (model X.prog X.w) X.A (f v) (EP X pins σ Q) X.xe s
def eX (X:Cx)(f:Value)(r:List V->Hp->VK->Prop):Prop :=
 ∀ (pins:List (Addr×Obj))(s:Shared)(σ:St)(H:Hp)(xs:List V)(us:List Value)(Q:VK),ax X pins σ H s->aQ xs us->r xs H Q ->
  wpAny (model X.prog X.w) X.A (call f us) (EP X pins σ Q) X.xe s
def Gb (X:Cx)(r:V->Hp->(Bool->Hp->Prop)->Prop):Prop :=
 ∀ (pins:List (Addr×Obj))(s:Shared)(σ:St)(H:Hp)(x:V)(v:Value)(Q:Bool->Hp->Prop),ax X pins σ H s->aO x v->r x H Q ->
  wpAny (model X.prog X.w) X.A (truthy v) (TP X pins σ Q) X.xe s
def FZ (r:R2)(ta tb:TE):TE:=fun σ H Q=>ta σ H fun x H1=>tb σ H1 fun y H2=>r x y H2 Q
def Hm (r:V->Hp->VK->Prop)(ta:TE):TE:=fun σ H Q=>ta σ H fun x H1=>r x H1 Q
inductive RI (C:Int->Int->Prop) (g:Int->Int->V) (x y:V) (H:Hp) (Q:VK):Prop
 | mk (i j:Int) (e1:x=.int i) (e2:y=.int j) (c:C i j) (h:Q (g i j) H):RI C g x y H Q
def rI (C:Int->Int->Prop)(g:Int->Int->V):R2:=fun x y H Q=>RI C g x y H Q
inductive GX (g:Int->Int->V) (x y:V) (H:Hp) (Q:VK):Prop
 | mk (i j:Int) (e1:x=.int i) (e2:y=.int j) (h:Q (g i j) H):GX g x y H Q
def Ex (g:Int->Int->V):R2:=fun x y H Q=>GX g x y H Q
def rU (g:Int->V):V->Hp->VK->Prop:=fun x H Q=>∃ i,x=.int i/\Q (g i) H
section
variable {X:Cx}{a b c:Expr}{ta tb tc:TE}{pos:Pos}
theorem D2 (ha:PE X a ta)(hb:PE X b tb){pins:List (Addr×Obj)}{s:Shared}{σ:St}{H:Hp}{R:V->V->Hp->Prop}(I:ax X pins σ H s)
  (h:ta σ H fun x H1=>tb σ H1 fun y H2=>R x y H2) {Q:Value->Shared->Prop} {f:Value->Value->Sem Value}
  (hf:∀ v u s2 x y H2,ax X pins σ H2 s2->aO x v->aO y u->R x y H2->wpAny (model X.prog X.w) X.A (f v u) Q X.xe s2) :
  wpAny (model X.prog X.w) X.A (eval a X.env) (fun v s₁=>wpAny (model X.prog X.w) X.A (eval b X.env) (fun u s₂=>wpAny (model X.prog X.w) X.A (f v u) Q X.xe s₂) X.xe s₁) X.xe s:=by
 refine bc (ha pins s σ H _ I h) fun v s1 ⟨x,H1,I1,r1,q1⟩=>?_;refine bc (hb pins s1 σ H1 _ I1 q1) fun u s2 ⟨y,H2,I2,r2,q2⟩=>?_;exact hf v u s2 x y H2 I2 r1 r2 q2
theorem aV {op:Operator}{r:R2}(ho:ph X (binaryOp op) r)(ha:PE X a ta)(hb:PE X b tb):PE X (.BinOp a op b pos) (FZ r ta tb):=by
 intro pins s σ H Q I h;exact wpAny_BinOp (D2 ha hb I h fun v u s2 x y H2 I2 rx ry q=>ho pins s2 σ H2 x y v u Q I2 rx ry q)
theorem oN {op:UnaryOp}{r:V->Hp->VK->Prop}(ho:Gc X (unaryOp op) r)(ha:PE X a ta):PE X (.UnaryOp op a pos) (Hm r ta):=by
 intro pins s σ H Q I h;exact UnaryOp_ (bc (ha pins s σ H _ I h) fun v s1 ⟨x,H1,I1,r1,q1⟩=>ho pins s1 σ H1 x v Q I1 r1 q1)
theorem Fj {f:Value->Value->Sem Value}{C:Int->Int->Prop}{g:Int->Int->Int}
  (rule:∀ (i j:Int)(t u:Tok)(s:Shared)(Q:Value->Shared->Prop)(E:Value->Shared->Prop),C i j->Q (.int (g i j) s.toks) { s with toks:=s.toks+1 }->wpAny (model X.prog X.w) X.A (f (.int i t) (.int j u)) Q E s) :
  ph X f (rI C fun i j=>.int (g i j)):=by
 intro pins s σ H x y v u Q I rx ry h;obtain⟨i,j,rfl,rfl,hc,q⟩:=h;obtain⟨t,rfl⟩:=rx;obtain⟨t',rfl⟩:=ry;exact rule i j t t' s _ _ hc ⟨.int (g i j),H,I.tok _,⟨_,rfl⟩,q⟩
theorem Fk {f:Value->Value->Sem Value}{g:Int->Int->Int}
  (rule:∀ (i j:Int)(t u:Tok)(s:Shared)(Q:Value->Shared->Prop)(E:Value->Shared->Prop),Q (.int (g i j) s.toks) { s with toks:=s.toks+1 }->wpAny (model X.prog X.w) X.A (f (.int i t) (.int j u)) Q E s) :
  ph X f (Ex fun i j=>.int (g i j)):=by
 intro pins s σ H x y v u Q I rx ry h;obtain⟨i,j,rfl,rfl,q⟩:=h;obtain⟨t,rfl⟩:=rx;obtain⟨t',rfl⟩:=ry;exact rule i j t t' s _ _ ⟨.int (g i j),H,I.tok _,⟨_,rfl⟩,q⟩
theorem Ei {f:Value->Value->Sem Value}{g:Int->Int->Bool}
  (rule:∀ (i j:Int)(t u:Tok)(s:Shared)(Q:Value->Shared->Prop)(E:Value->Shared->Prop),Q (.bool (g i j)) s->wpAny (model X.prog X.w) X.A (f (.int i t) (.int j u)) Q E s) :
  ph X f (Ex fun i j=>.bl (g i j)):=by
 intro pins s σ H x y v u Q I rx ry h;obtain⟨i,j,rfl,rfl,q⟩:=h;obtain⟨t,rfl⟩:=rx;obtain⟨t',rfl⟩:=ry;exact rule i j t t' s _ _ ⟨.bl (g i j),H,I,rfl,q⟩
def F1 (i j:Int):Prop:=0<j/\j<1073741824
def F2 (i j:Int):Prop:=0<=j/\j<=1000000/\i.natAbs<2 ^ 64
def DX (i j:Int):Prop:=(-(2 ^ 64)<i/\i<2 ^ 64)\/(-(2 ^ 64)<j/\j<2 ^ 64)
theorem DX.ok {i j:Int}(h:DX i j):IntMulOk i j:=by
 rcases h with ⟨h1,h2⟩ | ⟨h1,h2⟩
 ·exact .of_left (intBits_le_64 h1 h2)
 ·exact .of_right (intBits_le_64 h1 h2)
theorem iG:ph X (binaryOp .Add) (Ex fun i j=>.int (i+j)):=Fk fun _ _ _ _ _ _ _ q=>add_int q
theorem Ej:ph X (binaryOp .Sub) (Ex fun i j=>.int (i-j)):=Fk fun _ _ _ _ _ _ _ q=>sub_int q
theorem qX:ph X (binaryOp .Mult) (rI DX fun i j=>.int (i*j)):=Fj fun _ _ _ _ _ _ _ hc q=>mul_int q hc.ok
theorem fh:ph X (binaryOp .FloorDiv) (rI F1 fun i j=>.int (i/j)):=Fj fun i j _ _ _ _ _ hc q=>by
 have h1:(0:Int)<j:=hc.1;have h2:j<1073741824:=hc.2;exact floordiv_int (by omega) (by rw[Int.fdiv_eq_ediv_of_nonneg i (by omega)];exact q) (.inl (PyProof.noPylong_small (by omega)))
theorem cj:ph X (binaryOp .Mod) (rI (fun _ j=>0<j) fun i j=>.int (i%j)):=Fj fun i j _ _ _ _ _ hc q=>by
 have h1:(0:Int)<j:=hc;exact mod_int' (by omega) (by rw[Int.fmod_eq_emod_of_nonneg i (by omega)];exact q)
theorem Bu:ph X (binaryOp .Pow) (rI F2 fun i j=>.int (i ^ j.toNat)):=Fj fun _ _ _ _ _ _ _ hc q=>pow_int_small hc.1 hc.2.1 hc.2.2 q
theorem Hn {f:Value->Sem Value}{g:Int->Int}
  (rule:∀ (i:Int)(t:Tok)(s:Shared)(Q:Value->Shared->Prop)(E:Value->Shared->Prop),Q (.int (g i) s.toks) { s with toks:=s.toks+1 }->wpAny (model X.prog X.w) X.A (f (.int i t)) Q E s) :
  Gc X f (rU fun i=>.int (g i)):=by
 intro pins s σ H x v Q I rx h;obtain⟨i,rfl,q⟩:=h;obtain⟨t,rfl⟩:=rx;exact rule i t s _ _ ⟨.int (g i),H,I.tok _,⟨_,rfl⟩,q⟩
theorem jO:Gc X (unaryOp .USub) (rU fun i=>.int (-i)):=Hn fun _ _ _ _ _ q=>neg_int q
end
def FC:V->V->Bool
 | .non,.non=>true | .non,.int _=>true | .int _,.non=>true | .non,.bl _=>true | .bl _,.non=>true | .non,.str _=>true | .str _,.non=>true
 | .int _,.int _=>true | .bl _,.bl _=>true | .str _,.str _=>true | .byt _,.byt _=>true
 | .int _,.str _=>true | .str _,.int _=>true | .bl _,.str _=>true | .str _,.bl _=>true
 | _,_=>false
def He:R2:=fun x y H Q=>FC x y=true/\Q (.bl (decide (x=y))) H
def Hf:R2:=fun x y H Q=>FC x y=true/\Q (.bl (!decide (x=y))) H
theorem yK {i j:Int}:decide (V.int i=V.int j)=(i == j):=by
 rw[Bool.eq_iff_iff];simp
theorem AR {i j:Bool}:decide (V.bl i=V.bl j)=(i == j):=by
 rw[Bool.eq_iff_iff];simp
theorem yL {i j:Str}:decide (V.str i=V.str j)=(i == j):=by
 rw[Bool.eq_iff_iff];simp
theorem yJ {i j:Array UInt8}:decide (V.byt i=V.byt j)=(i.toList == j.toList):=by
 rw[Bool.eq_iff_iff];cases i;cases j;simp
section
variable {X:Cx}{a b c:Expr}{ta tb tc:TE}{pos:Pos}
theorem br {pins:List (Addr×Obj)}{σ:St}{H:Hp}{s:Shared}{Q:VK}{k k':Bool}(I:ax X pins σ H s)(q:Q (.bl k) H)(e:k=k'):EP X pins σ Q (.bool k') s:=by
 subst e;exact⟨.bl k,H,I,rfl,q⟩
theorem eD:ph X (compareOp .Eq) He:=by
 intro pins s σ H x y v u Q I rx ry h;obtain⟨hs,q⟩:=h
 cases x with
 | non =>
  cases rx
  cases y with
  | non=>cases ry;exact PySem.EqNone.eq_none_none (br I q (by simp))
  | bl j=>cases ry;exact PySem.EqNone.eq_none_bool (br I q (by simp))
  | int j=>obtain⟨t',rfl⟩:=ry;exact PySem.EqNone.eq_none_int (br I q (by simp))
  | str j=>obtain⟨t',rfl⟩:=ry;exact PySem.EqNone.eq_none_str (br I q (by simp))
  | _=>exact absurd (show false=true from hs) HN
 | bl i =>
  cases rx
  cases y with
  | non=>cases ry;exact PySem.EqNone.eq_bool_none (br I q (by simp))
  | bl j=>cases ry;exact eq_bool (br I q AR)
  | str j=>obtain⟨t',rfl⟩:=ry;exact PySem.EqMixed.eq_bool_str (br I q (by simp))
  | _=>exact absurd (show false=true from hs) HN
 | int i =>
  obtain⟨t,rfl⟩:=rx
  cases y with
  | non=>cases ry;exact PySem.EqNone.eq_int_none (br I q (by simp))
  | int j=>obtain⟨t',rfl⟩:=ry;exact eq_int (br I q yK)
  | str j=>obtain⟨t',rfl⟩:=ry;exact PySem.EqMixed.eq_int_str (br I q (by simp))
  | _=>exact absurd (show false=true from hs) HN
 | str i =>
  obtain⟨t,rfl⟩:=rx
  cases y with
  | non=>cases ry;exact PySem.EqNone.eq_str_none (br I q (by simp))
  | bl j=>cases ry;exact PySem.EqMixed.eq_str_bool (br I q (by simp))
  | int j=>obtain⟨t',rfl⟩:=ry;exact PySem.EqMixed.eq_str_int (br I q (by simp))
  | str j=>obtain⟨t',rfl⟩:=ry;exact eq_str (br I q yL)
  | _=>exact absurd (show false=true from hs) HN
 | byt i =>
  obtain⟨t,rfl⟩:=rx
  cases y with
  | byt j=>obtain⟨t',rfl⟩:=ry;exact PySem.W.eq_bytes (br I q yJ)
  | _=>exact absurd (show false=true from hs) HN
 | _=>cases y<;>exact absurd (show false=true from hs) HN
theorem jc:ph X (compareOp .NotEq) Hf:=by
 intro pins s σ H x y v u Q I rx ry h;obtain⟨hs,q⟩:=h
 cases x with
 | non =>
  cases rx
  cases y with
  | non=>cases ry;exact PySem.EqNone.ne_none_none (br I q (by simp))
  | bl j=>cases ry;exact PySem.EqNone.ne_none_bool (br I q (by simp))
  | int j=>obtain⟨t',rfl⟩:=ry;exact PySem.EqNone.ne_none_int (br I q (by simp))
  | str j=>obtain⟨t',rfl⟩:=ry;exact PySem.EqNone.ne_none_str (br I q (by simp))
  | _=>exact absurd (show false=true from hs) HN
 | bl i =>
  cases rx
  cases y with
  | non=>cases ry;exact PySem.EqNone.ne_bool_none (br I q (by simp))
  | bl j=>cases ry;exact ne_bool (br I q (JJ not AR))
  | str j=>obtain⟨t',rfl⟩:=ry;exact PySem.EqMixed.ne_bool_str (br I q (by simp))
  | _=>exact absurd (show false=true from hs) HN
 | int i =>
  obtain⟨t,rfl⟩:=rx
  cases y with
  | non=>cases ry;exact PySem.EqNone.ne_int_none (br I q (by simp))
  | int j=>obtain⟨t',rfl⟩:=ry;exact ne_int (br I q (JJ not yK))
  | str j=>obtain⟨t',rfl⟩:=ry;exact PySem.EqMixed.ne_int_str (br I q (by simp))
  | _=>exact absurd (show false=true from hs) HN
 | str i =>
  obtain⟨t,rfl⟩:=rx
  cases y with
  | non=>cases ry;exact PySem.EqNone.ne_str_none (br I q (by simp))
  | bl j=>cases ry;exact PySem.EqMixed.ne_str_bool (br I q (by simp))
  | int j=>obtain⟨t',rfl⟩:=ry;exact PySem.EqMixed.ne_str_int (br I q (by simp))
  | str j=>obtain⟨t',rfl⟩:=ry;exact ne_str (br I q (JJ not yL))
  | _=>exact absurd (show false=true from hs) HN
 | byt i =>
  obtain⟨t,rfl⟩:=rx
  cases y with
  | byt j=>obtain⟨t',rfl⟩:=ry;exact PySem.W.ne_bytes (br I q (JJ not yJ))
  | _=>exact absurd (show false=true from hs) HN
 | _=>cases y<;>exact absurd (show false=true from hs) HN
theorem tZ:ph X (compareOp .Lt) (Ex fun i j=>.bl (decide (i<j))):=Ei fun _ _ _ _ _ _ _ q=>lt_int q
theorem Bs:ph X (compareOp .Gt) (Ex fun i j=>.bl (decide (j<i))):=Ei fun _ _ _ _ _ _ _ q=>gt_int q
theorem Fl:ph X (compareOp .GtE) (Ex fun i j=>.bl (decide (j<=i))):=Ei fun _ _ _ _ _ _ _ q=>ge_int q
theorem aM (b:Expr){op:CmpOp}(h:op≠.In:=by decide)(h2:op≠.NotIn:=by decide):behindInMarks op b=false:=by
 have e1:(op == CmpOp.In)=false:=by cases op<;>first | rfl | exact absurd rfl h
 have e2:(op == CmpOp.NotIn)=false:=by cases op<;>first | rfl | exact absurd rfl h2
 cases b<;>simp[behindInMarks,e1,e2]
theorem lT {op:CmpOp}{r:R2}(ho:ph X (compareOp op) r)(ha:PE X a ta)(hb:PE X b tb)(hm:behindInMarks op b=false):PE X (.Compare a [op] [b] pos) (FZ r ta tb):=by
 intro pins s σ H Q I h;exact wpAny_Compare1 (D2 ha hb I h fun v u s2 x y H2 I2 rx ry q=>ho pins s2 σ H2 x y v u Q I2 rx ry q) hm
def FN (t:TE):TT:=fun σ H Q=>t σ H fun x H'=>Ga Q x H'
theorem aF {op:CmpOp}{r:R2}(ho:ph X (compareOp op) r)(ha:PE X a ta)(hb:PE X b tb)(hm:behindInMarks op b=false):PT X (.Compare a [op] [b] pos) (FN (FZ r ta tb)):=by
 intro pins s σ H Q I h
 refine wpAny_isTrue_Compare1 (bc (ha pins s σ H _ I h) fun v s1 ⟨x,H1,I1,r1,q1⟩=>bc (hb pins s1 σ H1 _ I1 q1) fun u s2 ⟨y,H2,I2,r2,q2⟩ =>
  bc (ho pins s2 σ H2 x y v u _ I2 r1 r2 q2) fun c s3 ⟨z,H3,I3,r3,k,e,q3⟩=>?_) hm
 subst e;cases r3;exact Jm ⟨H3,I3,q3⟩
def E6 (K:PySem.W.Frag)(x:V)(H:Hp)(k:Bool):Prop :=
 match x with
 | .non=>k=false
 | .bl b=>k=b
 | .int i=>k=(i != 0)
 | .str y=>y.length<=sizeLine/\k=((y.length:Int) != 0)
 | .byt y=>y.size<=sizeLine/\k=((y.size:Int) != 0)
 | .ref p=>(∃ xs,aL K H p xs/\k = !xs.isEmpty)\/(∃ xs,dC K H p xs/\k = !xs.isEmpty)\/∃ kvs,H p=some (.dK kvs)/\k = !kvs.isEmpty
 | _=>False
theorem xU {κ:Type}{kvs:List (κ×V)}{vs:List (κ×Value)}(r:KV kvs vs):(!vs.isEmpty) = !kvs.isEmpty:=by
 cases r<;>rfl
theorem qv {xs:List V}{its:List Value}(r:aQ xs its):(!its.toArray.isEmpty) = !xs.isEmpty:=by
 cases r<;>simp
theorem uL:(sizeLine:Nat)<2 ^ 63:=by rw[Jt];decide
theorem EM:Gb X (fun x H Q=>∃ k,E6 X.K x H k/\Q k H):=by
 intro pins s σ H x v Q I rx h;obtain⟨k,e,q⟩:=h;have hl:=uL;have hs:sizeLine=16777216:=Jt
 cases x with
 | non =>
  cases rx;have e':k=false:=e;subst e';exact truthy_none ⟨H,I,q⟩
 | bl b =>
  cases rx;have e':k=b:=e;subst e';exact Jm ⟨H,I,q⟩
 | int i =>
  obtain⟨t,rfl⟩:=rx;have e':k=(i != 0):=e;subst e';exact PySem.P.truthy_int ⟨H,I,q⟩
 | str y =>
  obtain⟨t,rfl⟩:=rx;obtain⟨hy,e'⟩:y.length<=sizeLine/\k=((y.length:Int) != 0):=e;subst e';exact PySem.P.truthy_str (by omega) ⟨H,I.tok _,q⟩
 | byt y =>
  obtain⟨t,rfl⟩:=rx;obtain⟨hy,e'⟩:y.size<=sizeLine/\k=((y.size:Int) != 0):=e;subst e';exact PySem.W.truthy_bytes (by omega) ⟨H,I.tok _,q⟩
 | ref p =>
  cases rx;have e':(∃ xs,aL X.K H p xs/\k = !xs.isEmpty)\/(∃ xs,dC X.K H p xs/\k = !xs.isEmpty)\/∃ kvs,H p=some (.dK kvs)/\k = !kvs.isEmpty:=e;rcases e' with ⟨xs,hx,e'⟩ | ⟨xs,hx,e'⟩ | ⟨kvs,hx,e'⟩
  ·subst e'
   obtain⟨its,r,pl,hz⟩:=I.list hx;have hlen:=r.length;exact wpAny_truthy_list pl.isList (by simp only[HU];omega) ⟨H,I.tok _,by rw[qv r];exact q⟩
  ·subst e'
   obtain⟨its,r,pl,hz⟩:=I.tuple hx;have hlen:=r.length;exact truthy_tuple pl (by simp only[HU];omega) ⟨H,I.tok _,by rw[qv r];exact q⟩
  ·subst e'
   obtain⟨hz,hS,vs,r,m⟩:kvs.length<=sizeLine/\(p == sysModules)=false/\∃ vs,KV kvs vs/\s.heap.DictOf (be X.prog X.w) p vs:=I.hok p _ hx;have hlen:kvs.length=vs.length:=Ic r;exact wpAny_truthy_dict hS m (by omega) ⟨H,I.tok _,by rw[xU r];exact q⟩
 | _=>exact (show False from e).elim
theorem xc (ha:PE X a ta)(he:∀ whole,isTrue a X.env whole=(do let v <-whole;standAt a.pos;holding [v] (truthy v))) :
  PT X a (fun σ H Q=>ta σ H fun x H'=>∃ k,E6 X.K x H' k/\Q k H'):=by
 intro pins s σ H Q I h;exact isTrue_plain (bc (ha pins s σ H _ I h) fun v s1 ⟨x,H1,I1,r1,q1⟩=>EM pins s1 σ H1 x v Q I1 r1 q1) (he _)
theorem jP {x:V}{us:List Value}(r:aQ [x] us):∃ u,us=[u]/\aO x u:=by
 cases r with
 | cons r1 r2=>cases r2;exact⟨_,rfl,r1⟩
theorem FQ {x y:V}{us:List Value}(r:aQ [x,y] us):∃ u w',us=[u,w']/\aO x u/\aO y w':=by
 cases r with
 | cons r1 r2 =>
  cases r2 with
  | cons r3 r4=>cases r4;exact⟨_,_,rfl,r1,r3⟩
end
structure xv (h:Heap)(x dx C:Addr)(mA:Str->Option Value):Prop where
 obj:h.get? x=some (PySem.W.instObj C dx)
 ns:h.Ns1 dx mA
 ne:dx≠x
theorem zX {h:Heap}{dx:Addr}{mA:Str->Option Value}(n:h.Ns1 dx mA):∃ od,h.get? dx=some od/\∀ name,PySem.W.lookIn name od=some (mA name):=by
 obtain⟨o,es,ep,ho,hd,hk,_,hm⟩:=n;refine⟨o,ho,fun name=>?_⟩;have e:=hm name;unfold nsFind findBy at e;rw[<-Array.find?_toList]at e;unfold PySem.W.lookIn;rw[hd];dsimp only;split
 ·rename_i y q
  rw[q]at e;exact JJ some e
 ·rename_i q
  rw[q]at e
  have a:es.toList.any (·.refKey)=false:=by
   rw[List.any_eq_false];intro y hy;obtain⟨z,t,hkey⟩:=hk y (Array.mem_toList_iff.mp hy);simp[DictEntry.refKey,hkey]
  have a':¬ es.toList.any (·.refKey)=true:=by rw[a];exact HN
  rw[Hu a'];exact JJ some e
theorem xv.look {h:Heap}{x dx C:Addr}{mA:Str->Option Value}(I:xv h x dx C mA):∃ od,PySem.W.InstAt h x (PySem.W.instObj C dx) C (some od)/\∀ name,PySem.W.lookIn name od=some (mA name) :=
 let ⟨od,ho,hl⟩:=zX I.ns
 ⟨od,⟨I.obj,rfl,rfl,ho⟩,hl⟩
section
variable {prog:Program}{w:World}{A:Around}{E:Value->Shared->Prop}{s:Shared}{K:PySem.W.Frag}{x dx C f:Addr}{mA:Str->Option Value}{name:Str}{v:Value}
theorem CO {expr:Bool}{Q:Value->Shared->Prop}(X:K.In s.heap)(I:xv s.heap x dx C mA)(hg:PySem.W.plainGet K C name=true)(hh:PySem.W.hasDictIn K C=true)
  (ha:PySem.W.findIn K (.ref C) name=some none) (hv:mA name=some v) (hv':PySem.W.handedIn v=true) (h:Q v { s with toks:=s.toks+1 }) :
  wpAny (model prog w) A (getAttr (.ref x) name expr) Q E s:=by
 obtain⟨od,J,hl⟩:=I.look;exact PySem.W.get_value X J (PySem.W.plainGet_of hg).1 (PySem.W.findObj_own hh ha rfl (by rw[hl,hv])) hv' h
theorem A2 {pl:Sem Bool}{Q:Value×List Value->Shared->Prop}(X:K.In s.heap)(I:xv s.heap x dx C mA)(hg:PySem.W.plainGet K C name=true)
  (hf:PySem.W.findIn K (.ref C) name=some (some (.ref f))) (ht:PySem.W.isFn K (.ref f)=true) (hv:mA name=none) (h:Q (.ref f,[.ref x]) s) :
  wpAny (model prog w) A (getMethod (.ref x) name pl) Q E s:=by
 obtain⟨od,J,hl⟩:=I.look;exact PySem.W.method_fn X J (PySem.W.plainGet_of hg).1 (PySem.W.plainGet_of hg).2 hf (J0.mp ht) (by show (PySem.W.lookIn name od).map (·.isSome)=some false;rw[hl,hv];rfl) h
theorem Dm {ns:List Str}{Q:Unit->Shared->Prop}(X:K.In s.heap)(I:xv s.heap x dx C mA)
  (hs:PySem.W.findIn K (.ref C) "__setattr__" = some (some (.builtin "object.__setattr__"))) (hp:PySem.W.plainOver K C=true) (ht:PySem.W.takerIn K C name=some none) (hh:PySem.W.hasDictIn K C=true)
  (hw:PySem.Within mA ns) (hsz:ns.length<=sizeLine)
  (h:∀ h',xv h' x dx C (fun y=>if y=name then some v else mA y)->Heap.SameBut dx s.heap h'->Q () { s with heap:=h',toks:=s.toks+2 }) :
  wpAny (model prog w) A (setAttr (.ref x) name v) Q E s:=by
 obtain⟨od,J,hl⟩:=I.look;refine PySem.W.set_plain X J hs (PySem.W.osa_open (s:={ s with toks:=s.toks+1 }) (r:=none) X J hp ht fun b=>?_);obtain⟨cd,hc,hd'⟩:=PySem.W.any_some hh;have hx:s.heap.get? x=some ⟨.ref C,some dx,.plain,#[]⟩:=I.obj;refine Ht (Hz (Ht (Ht (wpAny_loadPart hx (Ht (PySem.W.Looks.here (s:={ s with toks:=s.toks+1 }) (PySem.W.looks_clsIn X hc) ?_))))));rw[hd'];refine Hz (a:=some dx) (Ht (Hz (Ht ?_)));refine wpAny_nsSet1 (s:={ s with toks:=s.toks+1 }) I.ns fun h' hn2 hs2=>?_;obtain⟨oD,esD,epD,hoD,hdD,hcD⟩:=hn2.count (PySem.Within.cons name v hw);refine Ht (wpAny_lookBehind hoD (by rw[hdD];exact pastItsLine_dict (Ix hcD (by rw[IN];omega))) ?_);exact Hz (h _ ⟨(hs2.2 _ (Ik I.ne)).trans I.obj,hn2,I.ne⟩ hs2)
theorem Bg {R:Result->Shared->Prop}{vs:List Value}{kw:List (Str×Value)}(X:K.In s.heap)(hm:PySem.W.makesIn K C=true)
  (hi:PySem.W.findIn K (.ref C) "__init__" = some (some (.ref f))) (hf:PySem.W.typeIn K (.ref f)=some (.type "function"))
  (h:codeAny (model prog w) (A.under (.builtin "type.__call__" ⟨.ref C::vs,kw⟩)) (.call (.ref f) ⟨.ref (s.heap.objs.size+1)::vs,kw⟩) (PySem.W.InitBack (s.heap.objs.size+1) R)
   { s with heap:=(s.heap.push PySem.W.emptyDict).push (PySem.W.instObj C s.heap.objs.size) }) :
  codeAny (model prog w) A (.call (.ref C) ⟨vs,kw⟩) R s:=by
 obtain⟨hh,g,d,t,os⟩:=s;exact PySem.W.make_core (PySem.W.makes_of X hm) (PySem.W.looks_findIn X hi) (fun self=>PySem.W.bind_fn X self hf) (.inl rfl) h
end
def hW (f:Str)(v:V):List (Str×V)->List (Str×V)
 | []=>[(f,v)]
 | (g,x)::r=>if g=f then (g,v)::r else (g,x)::hW f v r
theorem aW (f g:Str)(v:V):∀ fs:List (Str×V),(hW f v fs).lookup g=if g=f then some v else fs.lookup g
 | []=>by
  show List.lookup g [(f,v)]=_
  by_cases h:g=f
  ·have hb:(g == f)=true:=J0.mpr h
   simp only[List.lookup,hb,Hw h]
  ·have hb:(g == f)=false:=I0.mpr h
   simp only[List.lookup,hb,Hu h]
 | (k,x)::r=>by
  have ih:=aW f g v r;rw[show hW f v ((k,x)::r)=(if k=f then (k,v)::r else (k,x)::hW f v r) from rfl]
  by_cases hk:k=f
  ·rw[Hw hk]
   by_cases h:g=k
   ·have hb:(g == k)=true:=J0.mpr h
    simp only[List.lookup,hb,Hw (h.trans hk)]
   ·have hb:(g == k)=false:=I0.mpr h
    simp only[List.lookup,hb,Hu (fun e:g=f=>h (e.trans hk.symm))]
  ·rw[Hu hk]
   by_cases h:g=k
   ·have hb:(g == k)=true:=J0.mpr h
    simp only[List.lookup,hb,Hu (fun e:g=f=>hk (h.symm.trans e))]
   ·have hb:(g == k)=false:=I0.mpr h
    simp only[List.lookup,hb];exact ih
theorem mX (f:Str)(v:V):∀ fs:List (Str×V),f∈(hW f v fs).map (·.1)/\∀ g,g∈fs.map (·.1)->g∈(hW f v fs).map (·.1)
 | []=>⟨by simp[hW],fun g h=>by simp at h⟩
 | (k,x)::r=>by
  obtain⟨i1,i2⟩:=mX f v r;rw[show hW f v ((k,x)::r)=(if k=f then (k,v)::r else (k,x)::hW f v r) from rfl]
  by_cases hk:k=f
  ·rw[Hw hk]
   subst hk;exact⟨by simp,fun g h=>by simpa using h⟩
  ·rw[Hu hk]
   refine⟨?_,fun g h=>?_⟩
   ·rw[Iw]
    exact HL _ i1
   ·rw[Iw]at h ⊢
    rcases HW.mp h with e | e
    ·exact HW.mpr (.inl e)
    ·exact HL _ (i2 g e)
theorem oG (f:Str)(v:V):∀ fs:List (Str×V),(hW f v fs).length<=fs.length+1
 | []=>by simp[hW]
 | (k,x)::r=>by
  have ih:=oG f v r;rw[show hW f v ((k,x)::r)=(if k=f then (k,v)::r else (k,x)::hW f v r) from rfl]
  by_cases hk:k=f
  ·rw[Hw hk,IN,IN];omega
  ·rw[Hu hk,IN,IN];omega
theorem gW.some_of {v:V}{o:Option Value}(r:gW (some v) o):∃ u,o=some u/\aO v u:=by
 cases o with
 | none=>exact (show False from r).elim
 | some u=>exact⟨u,rfl,r⟩
theorem gW.none_of {o:Option Value}(r:gW none o):o=none:=by
 cases o with
 | none=>rfl
 | some u=>exact (show False from r).elim
theorem zN {v:V}{u:Value}(r:aO v u):PySem.W.handedIn u=true:=by
 cases v with
 | non=>cases (show u=Value.none from r);rfl
 | bl b=>cases (show u=Value.bool b from r);rfl
 | int i=>obtain⟨t,e⟩:=(show ∃ t,u=Value.int i t from r);cases e;rfl
 | str x=>obtain⟨t,e⟩:=(show ∃ t,u=Value.str x t from r);cases e;rfl
 | byt b=>obtain⟨t,e⟩:=(show ∃ t,u=Value.bytes b t from r);cases e;rfl
 | flt b=>obtain⟨t,e⟩:=(show ∃ t,u=Value.float b t from r);cases e;rfl
 | ref a=>cases (show u=Value.ref a from r);rfl
 | ty n=>cases (show u=Value.type n from r);rfl
section
variable {P:Program}{w:World}{H H':Hp}{h h':Heap}{a C dx:Addr}{fs fs':List (Str×V)}
theorem py (hok:i7 P w H h)(e:H a=some (.ins C dx fs)):∃ mA,xv h a dx C mA/\(∀ f,gW (fs.lookup f) (mA f))/\PySem.Within mA (fs.map (·.1))/\fs.length<=1000/\H dx=some (.own a):=by
 obtain⟨d,z,ne,ob,mA,n,r,q⟩:=(show bb P w H h a (.ins C dx fs) from hok a _ e);exact⟨mA,⟨ob,n,ne⟩,r,q,z,d⟩
end
structure zy (K:PySem.W.Frag)(C:Addr):Prop where
 pg:PySem.W.plainGet K C Str.empty=true
 hd:PySem.W.hasDictIn K C=true
 po:PySem.W.plainOver K C=true
 sa:PySem.W.findIn K (.ref C) "__setattr__" = some (some (.builtin "object.__setattr__"))
theorem zy.get {K:PySem.W.Frag}{C:Addr}(c:zy K C)(f:Str):PySem.W.plainGet K C f=true:=c.pg
def gJ (K:PySem.W.Frag)(C:Addr)(f:Str):Prop:=PySem.W.findIn K (.ref C) f=some none
theorem gJ.taker {K:PySem.W.Frag}{C:Addr}{f:Str}(n:gJ K C f):PySem.W.takerIn K C f=some none:=by
 unfold PySem.W.takerIn;rw[show PySem.W.findIn K (.ref C) f=some none from n];rfl
structure Cs (K:PySem.W.Frag)(C:Addr)(m:Str)(f:Addr):Prop where
 at_:PySem.W.findIn K (.ref C) m=some (some (.ref f))
 fn:PySem.W.isFn K (.ref f)=true
 kp:PySem.W.keepIn K (.ref f)=true
section
variable {X:Cx}{pins:List (Addr×Obj)}{σ:St}{H:Hp}{s:Shared}{a C dx:Addr}{fs:List (Str×V)}{f:Str}{v:V}{A:Around}{E:Value->Shared->Prop}
theorem xO {b:Bool}{Q:Value->Shared->Prop}(I:ax X pins σ H s)(e:H a=some (.ins C dx fs))(c:zy X.K C)(n:gJ X.K C f)(l:fs.lookup f=some v)
  (h:∀ u s',ax X pins σ H s'->aO v u->Q u s'):wpAny (model X.prog X.w) A (getAttr (.ref a) f b) Q E s:=by
 obtain⟨mA,O,r,_,_,_⟩:=py I.hok e;obtain⟨u,hu,ru⟩:=gW.some_of (v:=v) (o:=mA f) (by rw[<-l];exact r f);exact CO I.kIn O (c.get f) c.hd n hu (zN ru) (h u _ (I.tok _) ru)
theorem qr {m:Str}{g:Addr}{pl:Sem Bool}{Q:Value×List Value->Shared->Prop}(I:ax X pins σ H s)(e:H a=some (.ins C dx fs))(c:zy X.K C)(k:Cs X.K C m g)(l:fs.lookup m=none)
  (h:Q (.ref g,[.ref a]) s):wpAny (model X.prog X.w) A (getMethod (.ref a) m pl) Q E s:=by
 obtain⟨mA,O,r,_,_,_⟩:=py I.hok e;have hn:mA m=none:=gW.none_of (by rw[<-l];exact r m);exact A2 I.kIn O (c.get m) k.at_ k.fn hn h
theorem yu {y:V}{u:Value}{Q:Unit->Shared->Prop}(I:ax X pins σ H s)(e:H a=some (.ins C dx fs))(c:zy X.K C)(n:gJ X.K C f)(hl:fs.length<1000)(ry:aO y u)
  (h:∀ s',ax X pins σ (upd H a (.ins C dx (hW f y fs))) s'->Q () s'):wpAny (model X.prog X.w) A (setAttr (.ref a) f u) Q E s:=by
 obtain⟨mA,O,r,wi,_,ho⟩:=py I.hok e
 have hz:(fs.map (·.1)).length<=sizeLine:=by rw[Hs,Jt];omega
 refine Dm I.kIn O c.sa c.po n.taker c.hd wi hz fun h' O' sb=>h _ ?_;have hd:∃ o,h'.get? dx=some o:=let ⟨o,_,_,e',_⟩:=O'.ns;⟨o,e'⟩;refine I.write (x:=a) (e:=dx) (by rw[e];exact True.intro) (.inr ho) (fun b q hb z=>(sb.2 b hb).trans z) hd ?_;refine⟨by rw[ae O.ne];exact ho,?_,O.ne,O'.obj,_,O'.ns,fun g=>?_,fun g hg=>?_⟩
 ·have:=oG f y fs;omega
 ·show gW ((hW f y fs).lookup g) (if g=f then some u else mA g)
  rw[aW]
  by_cases q:g=f
  ·rw[Hw q,Hw q];exact ry
  ·rw[Hu q,Hu q];exact r g
 ·by_cases q:g=f
  ·rw[q];exact (mX f y fs).1
  ·refine (mX f y fs).2 g (wi g fun z=>hg ?_)
   show (if g=f then some u else mA g)=none
   rw[Hu q];exact z
theorem ax.made (I:ax X pins σ H s):ax X pins σ (upd (upd H s.heap.objs.size (.own (s.heap.objs.size+1))) (s.heap.objs.size+1) (.ins C s.heap.objs.size []))
  { s with heap:=(s.heap.push PySem.W.emptyDict).push (PySem.W.instObj C s.heap.objs.size) }:=by
 have e1:(s.heap.push PySem.W.emptyDict).get? s.heap.objs.size=some PySem.W.emptyDict:=Heap.get?_push_size s.heap rfl
 have e2:((s.heap.push PySem.W.emptyDict).push (PySem.W.instObj C s.heap.objs.size)).get? (s.heap.objs.size+1)=some (PySem.W.instObj C s.heap.objs.size):=by
  have:=Heap.get?_push_size (s.heap.push PySem.W.emptyDict) (o:=PySem.W.instObj C s.heap.objs.size) rfl
  rwa [JR]at this
 have e3:(s.heap.push PySem.W.emptyDict).Ns s.heap.objs.size (fun _=>none):=⟨PySem.W.emptyDict,#[],_,e1,rfl,(fun e he=>absurd he (by simp)),fun _=>rfl⟩;have I1:=I.laid (a:=s.heap.objs.size) (o:=.own (s.heap.objs.size+1)) (h':=s.heap.push PySem.W.emptyDict) (t':=s.toks) (fun b u q=>Heap.get?_push_of_some _ q) (Hv _) ⟨_,e1⟩;refine I1.laid (a:=s.heap.objs.size+1) (o:=.ins C s.heap.objs.size []) (t':=s.toks) (fun b u q=>Heap.get?_push_of_some _ q) (Nat.le_of_eq (JR _ _)) ?_;have ne:s.heap.objs.size≠s.heap.objs.size+1:=Ib (Nat.lt_succ_self _);refine⟨by rw[ae ne,ac],Ip _,ne,e2,fun _=>none,(Heap.Ns1.of_empty e3).at fun o q=>Heap.get?_push_of_some _ q,fun _=>True.intro,fun y hy=>absurd rfl hy⟩
theorem Cz {prog:Program}{w:World}{env:Env}{e:Expr}{f:Str}{pos:Pos}{s:Shared}{Q:Value->Shared->Prop}(hb:attributeBase e f env (eval e env)=eval e env)
  (h:wpAny (model prog w) A (eval e env) (fun o s₁=>wpAny (model prog w) A (getAttr o f true) Q E s₁) E s):wpAny (model prog w) A (eval (.Attribute e f pos) env) Q E s :=
 Attribute_any_ h (by rw[arm_eval_Attribute,hb])
end
inductive G2 (K:PySem.W.Frag) (f:Str) (Q:VK) (x:V) (H:Hp):Prop
 | mk (a C dx:Addr) (fs:List (Str×V)) (v:V) (e:x=.ref a) (o:H a=some (.ins C dx fs)) (c:zy K C) (n:gJ K C f) (l:fs.lookup f=some v) (h:Q v H):G2 K f Q x H
def GE (K:PySem.W.Frag)(ta:TE)(f:Str):TE:=fun σ H Q=>ta σ H fun x H1=>G2 K f Q x H1
def Gy (K:PySem.W.Frag)(ta tv:TE)(f:Str):TS:=fun D σ H=>tv σ H fun y H1=>ta σ H1 fun x H2=>∃ a C dx fs,x=.ref a/\H2 a=some (.ins C dx fs)/\zy K C/\gJ K C f/\fs.length<1000 /\
 D.nx σ (upd H2 a (.ins C dx (hW f y fs)))
section
variable {X:Cx}{o e value:Expr}{f:Str}{pos pos' tpos:Pos}{ta tv:TE}
theorem cC (he:PE X e ta)(hb:attributeBase e f X.env (eval e X.env)=eval e X.env):PE X (.Attribute e f pos) (GE X.K ta f):=by
 intro pins s σ H Q I h;refine Cz hb (bc (he pins s σ H _ I h) fun u s1 ⟨x,H1,I1,rx,a,C,dx,fs,v,ex,ea,c,n,l,q⟩=>?_);subst ex;obtain rfl:u=Value.ref a:=rx;exact xO I1 ea c n l fun u' s2 I2 ru=>⟨v,H1,I2,ru,q⟩
theorem vf (ha:PE X o ta)(hv:PE X value tv)(hs:swapsWith value (some (.Attribute o f pos')) pos.line X.env=pure false):PS X (.Assign [.Attribute o f pos'] value pos) (Gy X.K ta tv f):=by
 intro pins s σ H D I h;refine plainObj_wpAny_Assign_Attribute (bc (hv pins s σ H _ I h) fun u s1 ⟨y,H1,I1,ry,q⟩=>bc (ha pins s1 σ H1 _ I1 q) fun ov s2 ⟨x,H2,I2,rx,a,C,dx,fs,ex,ea,c,n,l,q2⟩=>?_) hs;subst ex;obtain rfl:ov=Value.ref a:=rx;exact yu I2 ea c n l ry fun s3 I3=>⟨σ,_,I3,q2⟩
end
section
variable {X:Cx}{pins:List (Addr×Obj)}{σ:St}{H:Hp}{s:Shared}{A:Around}{E:Value->Shared->Prop}{Q:Value->Shared->Prop}{c:Value}{b:Bool}
inductive j4 (K:PySem.W.Frag) (H:Hp):V->Value->Prop where
 | non:j4 K H .non (.type "NoneType")
 | bl (x:Bool):j4 K H (.bl x) (.type "bool")
 | int (i:Int):j4 K H (.int i) (.type "int")
 | str (x:Str):j4 K H (.str x) (.type "str")
 | flt (x:UInt64):j4 K H (.flt x) (.type "float")
 | lst {a:Addr} {xs:List V} (e:H a=some (.lst xs)):j4 K H (.ref a) (.type "list")
 | frz {a:Addr} {o:Obj} {xs:List V} (e:H a=some (.frz o (.lst xs))):j4 K H (.ref a) (.type "list")
 | tup {a:Addr} {xs:List V} (e:H a=some (.tup xs)):j4 K H (.ref a) (.type "tuple")
 | dK {a:Addr} {kvs:List (bP×V)} (e:H a=some (.dK kvs)):j4 K H (.ref a) (.type "dict")
 | dT {a:Addr} {kvs:List (List bP×V)} (e:H a=some (.dT kvs)):j4 K H (.ref a) (.type "dict")
 | ins {a C dx:Addr} {fs:List (Str×V)} (e:H a=some (.ins C dx fs)) (cl:zy K C) (ha:PySem.W.findIn K (.ref C) "__class__" = some (some (.builtin "object.__class__")))
   (hn:PySem.W.specialIn K (.builtin "object.__class__") "__get__" = some (some (.builtin "getset_descriptor.__get__"))) (htk:PySem.W.takesIn K (.builtin "object.__class__")=some true)
   (hm:PySem.W.mroIn K C (.type "object")=some true):j4 K H (.ref a) (.ref C)
theorem zQ {x:V}{u t:Value}(I:ax X pins σ H s)(rx:aO x u)(ty:j4 X.K H x t)(e:PySem.W.kitOne X.K t c=some b)(h:∀ tk,Q (.bool b) { s with toks:=tk }) :
  wpAny (model X.prog X.w) A (call (.builtin "isinstance") [u,c]) Q E s:=by
 cases ty with
 | non=>cases (show u=Value.none from rx);exact IW PySem.W.kitx_none I.kIn True.intro e (fun z=>nomatch z) h
 | bl y=>cases (show u=Value.bool y from rx);exact IW PySem.W.kitx_bool I.kIn True.intro e (fun z=>nomatch z) h
 | int i=>obtain⟨t,q⟩:=(show ∃ t,u=Value.int i t from rx);cases q;exact IW PySem.W.kitx_int I.kIn True.intro e (fun z=>nomatch z) h
 | str y=>obtain⟨t,q⟩:=(show ∃ t,u=Value.str y t from rx);cases q;exact IW PySem.W.kitx_str I.kIn True.intro e (fun z=>nomatch z) h
 | flt y=>obtain⟨t,q⟩:=(show ∃ t,u=Value.float y t from rx);cases q;exact IW PySem.W.kitx_float I.kIn True.intro e (fun z=>nomatch z) h
 | @lst a xs ea =>
  cases (show u=Value.ref a from rx);obtain⟨_,_,n,_,h1⟩:=(show bb X.prog X.w H s.heap a (.lst xs) from I.hok a _ ea);exact IW PySem.W.kitx_list I.kIn ⟨_,h1,rfl⟩ e (fun z=>nomatch z) h
 | @frz a ob xs ea =>
  cases (show u=Value.ref a from rx);obtain⟨_,_,_,n,_,h1⟩:=(show bb X.prog X.w H s.heap a (.frz ob (.lst xs)) from I.hok a _ ea);exact IW PySem.W.kitx_list I.kIn ⟨_,h1,rfl⟩ e (fun z=>nomatch z) h
 | @tup a xs ea =>
  cases (show u=Value.ref a from rx);obtain⟨_,_,_,p⟩:=(show bb X.prog X.w H s.heap a (.tup xs) from I.hok a _ ea);obtain⟨o,h1,h2,_⟩:=p;exact IW PySem.W.kitx_tuple I.kIn ⟨o,h1,h2⟩ e (fun z=>nomatch z) h
 | @dK a kvs ea =>
  cases (show u=Value.ref a from rx);obtain⟨_,_,vs,_,p⟩:=(show bb X.prog X.w H s.heap a (.dK kvs) from I.hok a _ ea);obtain⟨o,es,ep,h1,h2,_⟩:=p;exact IW PySem.W.kitx_dict I.kIn ⟨o,h1,h2.1⟩ e (fun z=>nomatch z) h
 | @dT a kvs ea =>
  cases (show u=Value.ref a from rx);obtain⟨_,_,xs,_,o,es,ep,h1,h2,_⟩:=(show bb X.prog X.w H s.heap a (.dT kvs) from I.hok a _ ea);exact IW PySem.W.kitx_dict I.kIn ⟨o,h1,h2.1⟩ e (fun z=>nomatch z) h
 | @ins a C dx fs ea cl ha hn htk hm =>
  cases (show u=Value.ref a from rx);obtain⟨mA,O,_⟩:=py I.hok ea;obtain⟨od,J,_⟩:=O.look;exact IW (PySem.W.kitx_own (cl.get _) cl.hd ha hn htk hm) I.kIn J e (fun z=>nomatch z) h
end
structure cx (k:Nat)(A:Around):Prop where
 hd:A.handled=none
 dp:A.depth+3*k+5<recursionLimit
 un:A.units+16*k+200<cLine
theorem cx.mono {j k:Nat}{A:Around}(r:cx k A)(h:j<=k):cx j A:=⟨r.hd,by have:=r.dp;omega,by have:=r.un;omega⟩
theorem cx.deeper {k:Nat}{A:Around}(r:cx (k+1) A)(env:Env):cx k (A.deeper env) :=
 ⟨r.hd,by have:=r.dp;show A.depth+1+3*k+5<_;omega,by have:=r.un;show A.units+3+16*k+200<_;omega⟩
theorem x3 {A:Around}{C:Addr}{us:List Value}{kw:List (Str×Value)}:(A.under (.builtin "type.__call__" ⟨.ref C::us,kw⟩)).depth=A.depth+1:=by
 first | rfl | simp[Around.under,Code.weight,Code.isCreation,Code.isGuard,Code.isCaller,Code.frames,Code.isFrame,guardIds]
theorem x4 {A:Around}{C:Addr}{us:List Value}{kw:List (Str×Value)}:(A.under (.builtin "type.__call__" ⟨.ref C::us,kw⟩)).units=A.units+1:=by
 first | rfl | simp[Around.under,Code.cUnits,Code.frames,Code.isFrame]
theorem cx.make {k:Nat}{A:Around}(r:cx (k+1) A)(C:Addr)(us:List Value)(kw:List (Str×Value)):cx k (A.under (.builtin "type.__call__" ⟨.ref C::us,kw⟩)) :=
 ⟨r.hd,by have:=r.dp;rw[x3];omega,by have:=r.un;rw[x4];omega⟩
theorem cx.depth {k:Nat}{A:Around}(r:cx k A):A.depth<recursionLimit:=by have:=r.dp;omega
theorem cx.units {k:Nat}{A:Around}(r:cx k A):A.units+64<cLine:=by have:=r.un;omega
def vI:TA:=fun _ H Q=>Q [] H
def rL (ta:TE)(tr:TA):TA:=fun σ H Q=>ta σ H fun x H1=>tr σ H1 fun xs H2=>Q (x::xs) H2
section
variable {X:Cx}{e:Expr}{es:List Expr}{te:TE}{t:TA}{pos:Pos}
theorem aI:PA X [] vI:=fun _ _ _ _ H Q I h=>JA ⟨[],H,I,.nil,h⟩
theorem aq (ha:PE X e te)(hr:PA X es t)(hs:starEach (e::es) X.env=(false,eval e X.env)::starEach es X.env:=by rfl):PA X (e::es) (rL te t):=by
 intro pos pins s σ H Q I h;rw[hs]
 show wpAny _ _ (spliced ((false,eval e X.env)::backTo pos (starEach es X.env))) _ _ s
 refine IP (bc (ha pins s σ H _ I h) fun u s1 ⟨x,H1,I1,r1,q1⟩=>?_);exact bc (hr pos pins s1 σ H1 _ I1 q1) fun us s2 ⟨xs,H2,I2,r2,q2⟩=>⟨x::xs,H2,I2,.cons r1 r2,q2⟩
def GL (t:TA):TE:=fun σ H Q=>t σ H fun xs H1=>xs.length<=sizeLine/\∀ p,H1 p=none->Q (.ref p) (upd H1 p (.tup xs))
def GH (t:TA):TE:=fun σ H Q=>t σ H fun xs H1=>xs.length<=sizeLine/\∀ p,H1 p=none->Q (.ref p) (upd H1 p (.lst xs))
theorem bS {x1}(h:PA X es t):PE X (.Tuple es x1 pos) (GL t):=by
 intro pins s σ H Q I hq;refine wpAny_Tuple_spliced (bc (h pos pins s σ H _ I hq) fun us s1 ⟨xs,H1,I1,r,z,q⟩=>⟨by rw[<-r.length];exact z,?_⟩);have hf:H1 s1.heap.objs.size=none:=I1.hok.fresh (Hv _);refine⟨.ref s1.heap.objs.size,upd H1 s1.heap.objs.size (.tup xs),I1.laid (t':=s1.toks) (fun b u e=>Heap.get?_push_of_some _ e) (Hv _) ?_,rfl,q _ hf⟩;exact⟨z,us,r,⟨_,Heap.get?_push_size _ rfl,rfl,_,rfl⟩⟩
theorem eO (h:PA X es t):PE X (.List es pos) (GH t):=by
 intro pins s σ H Q I hq;refine wpAny_List_spliced (bc (h pos pins s σ H _ I hq) fun us s1 ⟨xs,H1,I1,r,z,q⟩=>⟨by rw[<-r.length];exact z,?_⟩);have hf:H1 s1.heap.objs.size=none:=I1.hok.fresh (Hv _);refine⟨.ref s1.heap.objs.size,upd H1 s1.heap.objs.size (.lst xs),I1.laid (t':=s1.toks) (fun b u e=>Heap.get?_push_of_some _ e) (Hv _) ?_,rfl,q _ hf⟩;exact⟨z,us,0,r,Heap.get?_push_size _ rfl⟩
end
abbrev Sp:=List V->Hp->VK->XK->Prop
abbrev rP:=List Env->Hp->Shared->XK->Value->Shared->Prop
structure uk (P:Program)(w:World)(K:PySem.W.Frag)(mg:Str->Option Value)(base:Heap)(A:Around)(outer:List Env)(s:Shared)(H:Hp):Prop where
 frames:A.frames=some outer
 mod:Mod K mg base
 bs:∀ b o,base.get? b=some o->s.heap.get? b=some o/\H b=none
 bsz:base.objs.size<=s.heap.objs.size
 funs:s.heap.FunFrames base outer
 frf:∀ b∈gY outer,H b=none
 hok:i7 P w H s.heap
 bare:AllBare s.gens
def CE (outer:List Env)(P:Program)(w:World)(H:Hp)(s:Shared)(Q:VK)(u:Value)(s':Shared):Prop :=
 ∃ v H',s'.os=s.os/\AllBare s'.gens/\Un (gY outer) [] H H' s.heap s'.heap/\i7 P w H' s'.heap/\aO v u/\Q v H'
def CR (CX:rP)(outer:List Env)(P:Program)(w:World)(H:Hp)(s:Shared)(Q:VK)(E:XK)(r:Result)(s':Shared):Prop :=
 match r with
 | .ok (.ret u)=>CE outer P w H s Q u s'
 | .ok _=>False
 | .error e=>CX outer H s E e s'
structure aS (P:Program)(w:World)(K:PySem.W.Frag)(mg:Str->Option Value)(base:Heap)(CX:rP)(k:Nat)(f:Addr)(fd:FuncData)(ps:List Str)(sp:Sp):Prop where
 len:∀ vs H Q E,sp vs H Q E->vs.length=ps.length
 run:∀ (A:Around)(outer:List Env)(s:Shared)(H:Hp)(args:Args)(us:List Value)(vs:List V)(Q:VK)(E:XK),cx k A->uk P w K mg base A outer s H->BindsTo s fd args (ps.zip us)->aQ vs us->sp vs H Q E ->
  codeAny (model P w) A (.call (.ref f) args) (CR CX outer P w H s Q E) s
theorem uk.make {P:Program}{w:World}{K:PySem.W.Frag}{mg:Str->Option Value}{base:Heap}{A:Around}{outer:List Env}{s:Shared}{H:Hp}(e:uk P w K mg base A outer s H)(C:Addr)(us:List Value)(kw:List (Str×Value)) :
  uk P w K mg base (A.under (.builtin "type.__call__" ⟨.ref C::us,kw⟩)) outer s H:=⟨by first | exact e.frames | (simpa [Around.under,Code.envs,Code.isFrame,pushEnvs] using e.frames),e.mod,e.bs,e.bsz,e.funs,e.frf,e.hok,e.bare⟩
section
variable {X:Cx}{pins:List (Addr×Obj)}{σ:St}{H:Hp}{s s':Shared}
theorem ax.env0 (I:ax X pins σ H s):uk X.prog X.w X.K X.mg X.base X.A X.stack s H :=
 ⟨I.ok.frames,I.ok.mod,I.bs,Ix I.ok.bsz I.sz,I.stack,I.stkFree,I.hok,I.bare⟩
theorem ax.after {Q:VK}{u:Value}(I:ax X pins σ H s)(h:CE X.stack X.prog X.w H s Q u s'):EP X pins σ Q u s':=by
 obtain⟨v,H',os,bare,un,hok,r,q⟩:=h;obtain⟨hh,g,d,t,os'⟩:=s';obtain rfl:os'=s.os:=os;exact⟨v,H',I.call (h':=hh) (g':=g) (d':=d) (t':=t) (ch:=[]) un hok bare (fun b z=>absurd z (by simp)),r,q⟩
end
def zo (sp:Sp)(dvs:List V)(E:XK)(t:TA):TE:=fun σ H Q=>t σ H fun vs H1=>sp (vs++dvs) H1 Q E
inductive G3 (C:Addr) (m:Str) (sp:Sp) (dvs:List V) (E:XK) (t:TA) (σ:St) (Q:VK) (x:V) (H:Hp):Prop
 | mk (a dx:Addr) (fs:List (Str×V)) (e:x=.ref a) (o:H a=some (.ins C dx fs)) (l:fs.lookup m=none) (h:t σ H fun vs H2=>sp (x::(vs++dvs)) H2 Q E):G3 C m sp dvs E t σ Q x H
def zp (C:Addr)(m:Str)(sp:Sp)(dvs:List V)(E:XK)(ta:TE)(t:TA):TE:=fun σ H Q=>ta σ H fun x H1=>G3 C m sp dvs E t σ Q x H1
def DL (C:Addr)(sp:Sp)(dvs:List V)(E:XK)(t:TA):TE:=fun σ H Q=>t σ H fun vs H1=>∀ x dx,H1 x=none->H1 dx=none->dx≠x ->
 sp (.ref x::(vs++dvs)) (upd (upd H1 dx (.own x)) x (.ins C dx [])) (fun v H2=>v=.non/\Q (.ref x) H2) E
def d9 (K:PySem.W.Frag)(fd:FuncData)(ps:List Str)(ds:List Value):Prop :=
 ∀ (s:Shared)(us:List Value),K.In s.heap->(us++ds).length=ps.length->BindsTo s fd ⟨us,[]⟩ (ps.zip (us++ds))
theorem d9.all {K:PySem.W.Frag}{fd:FuncData}{ps:List Str}(h:∀ us:List Value,us.length=ps.length->bindArgs fd ⟨us,[]⟩=pure (ps.zip us)):d9 K fd ps []:=fun s us _ hl=>by
 rw[Jw]at hl ⊢;exact .of_eq (h us hl)
def dD (CX:rP)(X:Cx)(E:XK):Prop:=∀ (pins:List (Addr×Obj))(σ:St)(H:Hp)(s:Shared)(e:Value)(s':Shared),ax X pins σ H s->CX X.stack H s E e s'->X.xe e s'
section
variable {X:Cx}{CX:rP}{k:Nat}{f C:Addr}{fd:FuncData}{ps:List Str}{sp:Sp}{dvs:List V}{ds:List Value}{E:XK}{x m:Str}{p pos apos:Pos}{e o:Expr}{es:List Expr}{ta:TE}{t:TA}
theorem yq {pins:List (Addr×Obj)}{σ:St}{H:Hp}{s:Shared}{Q:VK}{us:List Value}{vs:List V}(F:aS X.prog X.w X.K X.mg X.base CX k f fd ps sp)(hr:cx k X.A)(hb:d9 X.K fd ps ds)(hd:aQ dvs ds)(hx:dD CX X E)
  (I:ax X pins σ H s) (r:aQ vs us) (h:sp (vs++dvs) H Q E):wpAny (model X.prog X.w) X.A (call (.ref f) us) (EP X pins σ Q) X.xe s:=by
 have r2:aQ (vs++dvs) (us++ds):=r.append hd
 have hl:(us++ds).length=ps.length:=by rw[<-r2.length];exact F.len _ _ _ _ h
 refine Ka (Jx (F.run X.A X.stack s H ⟨us,[]⟩ (us++ds) (vs++dvs) Q E hr I.env0 (hb s us I.kIn hl) r2 h) fun r s' hq=>?_)
 cases r with
 | error e=>exact hx pins σ H s e s' I hq
 | ok fl =>
  cases fl with
  | ret u=>exact I.after hq
  | next=>exact False.elim hq
  | brk=>exact False.elim hq
  | cont=>exact False.elim hq
theorem zc (F:aS X.prog X.w X.K X.mg X.base CX k f fd ps sp)(hr:cx k X.A)(hg:Gl X x)(hm:X.mg x=some (.ref f))(hk:PySem.W.keepIn X.K (.ref f)=true)(hb:d9 X.K fd ps ds)(hd:aQ dvs ds)(hx:dD CX X E)
  (ha:PA X (e::es) t) (hdb:(x == ("__debug__" : Str))=false:=by decide) (he:starEach (e::es) X.env=(false,eval e X.env)::starEach es X.env:=by rfl) (hpl:(backTo pos (starEach es X.env)).any (·.1)=false:=by rfl) :
  PE X (.Call (.Name x p) (e::es) [] pos) (zo sp dvs E t):=by
 intro pins s σ H Q I h;refine IX (gj I hg hm ?_ hdb);refine PySem.W.callWith_K (h₀:=X.base) I.ok.mod.kin hk (bc (ha pos pins s σ H _ I h) fun us s1 ⟨vs,H1,I1,r,q⟩=>⟨I1.kIn,?_⟩) he hpl;exact yq F hr hb hd hx I1 r q
theorem Dc {pl:Sem Bool}(he:PE X o ta)(c:zy X.K C)(hm:Cs X.K C m f)(F:aS X.prog X.w X.K X.mg X.base CX k f fd ps sp)(hr:cx k X.A)(hb:d9 X.K fd ps ds)(hd:aQ dvs ds)(hx:dD CX X E)(ha:PA X (e::es) t)
  (hst:starEach (e::es) X.env=(false,eval e X.env)::starEach es X.env:=by rfl) (hpl:(backTo pos (starEach es X.env)).any (·.1)=false:=by rfl)
  (ht:eval (.Call (.Attribute o m apos) (e::es) [] pos) X.env=(do
   let ov <-eval o X.env
   standAt apos.atName
   let (f,first) <-holding [ov] (getMethod ov m pl)
   callWith pos f first (backTo pos (starEach (e::es) X.env)) (backToKw pos (keywordEach [] X.env))):=by rfl) :
  PE X (.Call (.Attribute o m apos) (e::es) [] pos) (zp C m sp dvs E ta t):=by
 intro pins s σ H Q I h;refine PySem.W.methodCall_KW (pl:=pl) (bc (he pins s σ H _ I h) fun u s1 ⟨x,H1,I1,rx,a,dx,fs,ex,ea,l,q⟩=>?_) ht;subst ex;obtain rfl:u=Value.ref a:=rx;refine qr I1 ea c hm l ?_;refine PySem.W.callWith_K (first:=[.ref a]) (h₀:=X.base) I.ok.mod.kin hm.kp (bc (ha pos pins s1 σ H1 _ I1 q) fun us s2 ⟨vs,H2,I2,r,q2⟩=>⟨I2.kIn,?_⟩) hst hpl;exact yq (us:=.ref a::us) (vs:=.ref a::vs) F hr hb hd hx I2 (.cons rfl r) q2
theorem BH {pl:Sem Bool}(he:PE X o ta)(c:zy X.K C)(hm:Cs X.K C m f)(F:aS X.prog X.w X.K X.mg X.base CX k f fd ps sp)(hr:cx k X.A)(hb:d9 X.K fd ps ds)(hd:aQ dvs ds)(hx:dD CX X E)
  (ht:eval (.Call (.Attribute o m apos) [] [] pos) X.env=(do
   let ov <-eval o X.env
   standAt apos.atName
   let (f,first) <-holding [ov] (getMethod ov m pl)
   callWith pos f first (backTo pos (starEach [] X.env)) (backToKw pos (keywordEach [] X.env))):=by rfl) :
  PE X (.Call (.Attribute o m apos) [] [] pos) (zp C m sp dvs E ta vI):=by
 intro pins s σ H Q I h;refine PySem.W.methodCall_KW (pl:=pl) (bc (he pins s σ H _ I h) fun u s1 ⟨x,H1,I1,rx,a,dx,fs,ex,ea,l,q⟩=>?_) ht;subst ex;obtain rfl:u=Value.ref a:=rx;refine qr I1 ea c hm l ?_;exact PySem.W.callWith_K0 (first:=[.ref a]) I1.kIn hm.kp (yq (us:=[.ref a]) (vs:=[.ref a]) F hr hb hd hx I1 (.cons rfl .nil) q)
structure Mk (K:PySem.W.Frag)(C f:Addr):Prop where
 makes:PySem.W.makesIn K C=true
 init:PySem.W.findIn K (.ref C) "__init__" = some (some (.ref f))
 fn:PySem.W.isFn K (.ref f)=true
 kp:PySem.W.keepIn K (.ref C)=true
theorem BZ {pins:List (Addr×Obj)}{σ:St}{H:Hp}{s:Shared}{Q:VK}{us:List Value}{vs:List V}(M:Mk X.K C f)(F:aS X.prog X.w X.K X.mg X.base CX k f fd ps sp)(hr:cx (k+1) X.A)(hb:d9 X.K fd ps ds)(hd:aQ dvs ds)
  (hx:dD CX X E) (I:ax X pins σ H s) (r:aQ vs us)
  (h:∀ x dx,H x=none->H dx=none->dx≠x->sp (.ref x::(vs++dvs)) (upd (upd H dx (.own x)) x (.ins C dx [])) (fun v H2=>v=.non/\Q (.ref x) H2) E) :
  wpAny (model X.prog X.w) X.A (call (.ref C) us) (EP X pins σ Q) X.xe s:=by
 have hq:=h (s.heap.objs.size+1) s.heap.objs.size (I.hok.fresh (Nat.le_succ _)) (I.hok.fresh (Hv _)) (Ib (Nat.lt_succ_self _));have I2:=ax.made (C:=C) I;have r2:aQ (V.ref (s.heap.objs.size+1)::(vs++dvs)) (Value.ref (s.heap.objs.size+1)::(us++ds)):=.cons rfl (r.append hd)
 have hl:(Value.ref (s.heap.objs.size+1)::us++ds).length=ps.length:=by
  have e:=r2.length;rw[F.len _ _ _ _ hq]at e;exact e.symm
 refine Ka (Bg (f:=f) I.kIn M.makes M.init (J0.mp M.fn) (Jx (F.run _ X.stack _ _ ⟨Value.ref (s.heap.objs.size+1)::us,[]⟩ (Value.ref (s.heap.objs.size+1)::(us++ds)) _ _ E (hr.make C us [])
  (I2.env0.make C us []) (hb _ (Value.ref (s.heap.objs.size+1)::us) I2.kIn hl) r2 hq) fun r s' hq'=>?_))
 cases r with
 | error e=>exact hx pins σ _ _ e s' I2 hq'
 | ok fl =>
  cases fl with
  | ret u =>
   obtain⟨v,H',I3,rv,ev,q3⟩:=I2.after hq';subst ev;exact⟨rv,⟨V.ref (s.heap.objs.size+1),H',I3,rfl,q3⟩⟩
  | next=>exact False.elim hq'
  | brk=>exact False.elim hq'
  | cont=>exact False.elim hq'
theorem BG (M:Mk X.K C f)(F:aS X.prog X.w X.K X.mg X.base CX k f fd ps sp)(hr:cx (k+1) X.A)(hg:Gl X x)(hm:X.mg x=some (.ref C))(hb:d9 X.K fd ps ds)(hd:aQ dvs ds)(hx:dD CX X E)
  (hdb:(x == ("__debug__" : Str))=false:=by decide):PE X (.Call (.Name x p) [] [] pos) (DL C sp dvs E vI):=by
 intro pins s σ H Q I h;refine IX (gj I hg hm ?_ hdb);exact PySem.W.callWith_K0 I.kIn M.kp (BZ (us:=[]) M F hr hb hd hx I .nil h)
end
section
variable {X:Cx}{CX:rP}{k:Nat}{f C:Addr}{fd:FuncData}{ps ks:List Str}{sp:Sp}{E:XK}{x m:Str}{p pos apos kpos:Pos}{e o:Expr}{es:List Expr}{kws:List Keyword}{te ta:TE}{t tk:TA}{nm:Option Str}
variable {g:List Value->List Value->List Value}{gV:List V->List V->List V}
end
structure au (N P:List Str)(sc:Scope):Prop where
 kind:sc.kind=.function
 co:sc.isCoroutine=false
 gen:sc.isGenerator=false
 nd:N.Nodup
 pre:N.take P.length=P
 par:∀ x∈P,sc.names.lookup x=some .local\/sc.names.lookup x=some .cell
 nofree:∀ y∈sc.names,y.2≠.free
theorem tD {kindOf:Str->Option NameKind}{x:Str}:∀ {binds:List (Str×Value)}{m:Str->Option Value},(∀ v,(x,v)∉binds)->bindL kindOf binds m x=m x
 | [],_,_=>rfl
 | (n,v)::r,m,h=>by
  unfold bindL;rw[tD fun w hw=>h w (HL _ hw)];split
  ·have:x≠n:=by rintro rfl;exact h v HV
   simp[this]
  ·rfl
theorem tu {kindOf:Str->Option NameKind}{x:Str}:∀ {binds:List (Str×Value)}{m:Str->Option Value},(∀ v,(x,v)∉binds)->bindC kindOf binds m x=m x
 | [],_,_=>rfl
 | (n,v)::r,m,h=>by
  unfold bindC;rw[tu fun w hw=>h w (HL _ hw)];split
  ·rfl
  ·have:x≠n:=by rintro rfl;exact h v HV
   simp[this]
theorem tz {kindOf:Str->Option NameKind}{x:Str}{v:Value}:∀ {P:List Str}{vs:List Value}{i:Nat}{m:Str->Option Value},P.Nodup->P[i]? = some x->vs[i]? = some v->kindOf x=some .local ->
  bindL kindOf (P.zip vs) m x=some v
 | [],_,_,_,_,h,_,_=>by simp at h
 | _::_,[],_,_,_,_,h,_=>by simp at h
 | p::P,w::vs,0,m,nd,h1,h2,hk=>by
  simp at h1 h2;subst h1;subst h2
  show bindL kindOf ((p,w)::P.zip vs) m p=_
  unfold bindL;rw[tD fun v hv=>(Iz.mp nd).1 (List.of_mem_zip hv).1,Hw hk];simp
 | p::P,w::vs,i+1,m,nd,h1,h2,hk=>by
  show bindL kindOf ((p,w)::P.zip vs) m x=_
  unfold bindL;exact tz (i:=i) (Iz.mp nd).2 (by simpa using h1) (by simpa using h2) hk
theorem tq {kindOf:Str->Option NameKind}{x:Str}{v:Value}:∀ {P:List Str}{vs:List Value}{i:Nat}{m:Str->Option Value},P.Nodup->P[i]? = some x->vs[i]? = some v->kindOf x≠some .local ->
  bindC kindOf (P.zip vs) m x=some v
 | [],_,_,_,_,h,_,_=>by simp at h
 | _::_,[],_,_,_,_,h,_=>by simp at h
 | p::P,w::vs,0,m,nd,h1,h2,hk=>by
  simp at h1 h2;subst h1;subst h2
  show bindC kindOf ((p,w)::P.zip vs) m p=_
  unfold bindC;rw[tu fun v hv=>(Iz.mp nd).1 (List.of_mem_zip hv).1,Hu hk];simp
 | p::P,w::vs,i+1,m,nd,h1,h2,hk=>by
  show bindC kindOf ((p,w)::P.zip vs) m x=_
  unfold bindC;exact tq (i:=i) (Iz.mp nd).2 (by simpa using h1) (by simpa using h2) hk
def kA (N:List Str)(vs:List V):St:=vs.map some++List.replicate (N.length-vs.length) none
def oX (CX:rP)(P:Program)(w:World)(K:PySem.W.Frag)(mg:Str->Option Value)(base:Heap)(N:List Str)(qual:Str)(scope:Scope)(f:Addr)(cd:Value)(A:Around)(outer:List Env)(s:Shared)(H:Hp)(E:XK):Cx where
 prog:=P
 w:=w
 K:=K
 mg:=mg
 base:=base
 A:=A.deeper (envOfC qual scope s.heap.objs.size f cd)
 N:=N
 s₀:=s
 H₀:=H
 env:=envOfC qual scope s.heap.objs.size f cd
 outer:=outer
 stack:=envOfC qual scope s.heap.objs.size f cd::outer
 ex:=[]
 calm:=true
 fn:=fun _=>true
 pn:=[]
 xe:=fun e s'=>wpAny (model P w) (A.deeper (envOfC qual scope s.heap.objs.size f cd)) (leaving (envOfC qual scope s.heap.objs.size f cd) e) (fun _ s''=>CX outer H s E e s'') (fun e' s''=>CX outer H s E e' s'') s'
theorem v0 {sc:Scope}{n:Nat}{x:Str}(h:sc.names.lookup x=some .cell):∃ c,(cellsFrom n sc.names []).lookup x=some c:=by
 have q:=PySem.W.cellsFrom_some sc.names n [] (.inl h);exact IJ.mp q
theorem zP {CX:rP}{P:Program}{w:World}{K:PySem.W.Frag}{mg:Str->Option Value}{base:Heap}{N ps:List Str}{qual:Str}{scope:Scope}{f:Addr}{cd:Value}{A:Around}{outer:List Env}{s s1:Shared}{H:Hp}{E:XK}{us:List Value}{vs:List V}
  (S:au N ps scope) (hd:A.handled=none) (e0:uk P w K mg base A outer s H) (hl:vs.length=ps.length) (r:aQ vs us)
  (x:InCallC s s.heap.objs.size (bindL (envOfC qual scope s.heap.objs.size f cd).kindOf (ps.zip us) fun _=>none) (cellsFrom (s.heap.objs.size+1) scope.names []) (bindC (envOfC qual scope s.heap.objs.size f cd).kindOf (ps.zip us) fun _=>none) s1) :
  ax (oX CX P w K mg base N qual scope f cd A outer s H E) [] (kA N vs) H s1:=by
 have hpl:ps.length<=N.length:=by have:=JJ List.length S.pre;rw[Io]at this;omega
 obtain⟨h1,tk,rfl,hk⟩:=x.done;have noA:∀ b:Addr,b∉(oX CX P w K mg base N qual scope f cd A outer s H E).ex:=fun b z=>absurd (show b∈([]:List Addr) from z) (by simp)
 refine⟨⟨e0.mod,S.kind,rfl,rfl,Hv _,fun y z c h1 h2=>?_,fun y hy=>?_,fun y c _ h=>?_,fun _=>hd,Around.frames_deeper e0.frames,.inr ⟨rfl,rfl⟩,fun b z=>absurd z (noA b),e0.bs,e0.bsz,fun b _ _=>noA b,fun b z=>absurd z (noA b),e0.funs,e0.frf⟩,
  rfl,e0.bare,Un.kept hk,⟨_,x.toInCall.ns,fun i y v h1 h2 h3=>?_⟩,fun y c h=>⟨_,x.cell y c h⟩,e0.hok.fresh (Hv _),fun y c h=>?_,fun p hp=>absurd (show p∈([]:List (Addr×Obj)) from hp) (by simp),e0.hok.kept hk,?_⟩
 ·exact name_of_addr x.apart (Ja h1) (Ja h2)
 ·have hy:scope.names.lookup y=some .cell\/scope.names.lookup y=some .free:=hy
  rcases hy with hy | hy
  ·exact v0 hy
  ·exact absurd rfl (S.nofree _ (Ja hy))
 ·exact Ju (x.above y c (Ja h))
 ·have hi:i<vs.length:=by
   unfold kA at h2
   by_cases hi:i<vs.length
   ·exact hi
   ·rw[List.getElem?_append_right (by simpa using hi)]at h2
    rw[List.getElem?_replicate]at h2;split at h2<;>cases h2
  have ha:vs[i]? = some v:=by
   unfold kA at h2;rw[List.getElem?_append_left (by simpa using hi),List.getElem?_map]at h2
   cases e:vs[i]? with
   | none=>rw[e]at h2;cases h2
   | some a=>rw[e]at h2;cases h2;rfl
  obtain⟨u,hu,rv⟩:=r.get ha
  have hp:ps[i]? = some y:=by
   rw[<-S.pre,List.getElem?_take_of_lt (by omega)];exact h1
  have ndP:ps.Nodup:=by rw[<-S.pre];exact S.nd.sublist (JL _ _)
  refine⟨u,rv,?_⟩;rcases S.par y (Hx hp) with k | k
  ·exact .inl ⟨k,tz ndP hp hu k⟩
  ·obtain⟨c,e⟩:=v0 (n:=s.heap.objs.size+1) k
   refine .inr ⟨.inl k,c,e,?_⟩;have q:=x.cell y c e;rw[tq ndP hp hu (by show scope.names.lookup y≠_;rw[k];decide)]at q;exact q
 ·exact e0.hok.fresh (Ju (x.above y c (Ja h)))
 ·unfold kA
  show _=N.length
  rw[Ia,Hs,List.length_replicate];omega
theorem AZ {CX:rP}{P:Program}{w:World}{K:PySem.W.Frag}{mg:Str->Option Value}{base:Heap}{k:Nat}{f:Addr}{name qual:Str}{params:Arguments}{body:List Stmt}{scope:Scope}{dV kV doc pm cdv ct oc:Value}{an od:Option Addr}
  {osl:Array (Option Value)} {N ps:List Str} {sp:Sp} (lk:K.lookup f=some ⟨oc,od,.func (PySem.W.fnOf name qual params body scope dV kV doc pm an cdv ct),osl⟩) (hcd:PySem.W.codeIn K cdv qual=true) (S:au N ps scope)
  (len:∀ vs H Q E,sp vs H Q E->vs.length=ps.length)
  (hbody:∀ (A:Around)(outer:List Env)(s:Shared)(H:Hp)(vs:List V)(Q:VK)(E:XK),cx k (A.deeper (envOfC qual scope s.heap.objs.size f cdv))->sp vs H Q E ->
   ∃ t,vR (oX CX P w K mg base N qual scope f cdv A outer s H E) body t/\t { nx:=fun _ H'=>Q .non H',rt:=Q } (kA N vs) H) :
  aS P w K mg base CX (k+1) f (PySem.W.fnOf name qual params body scope dV kV doc pm an cdv ct) ps sp:=by
 refine⟨len,fun A outer s H args us vs Q E hr e0 hb r hsp=>?_⟩;have hl:=len _ _ _ _ hsp;have KX:K.In s.heap:=e0.mod.kin.keeps fun b o e=>(e0.bs b o e).1;have lim:s.heap.NoLimit:=e0.mod.nolimit.keeps fun b o e=>(e0.bs b o e).1
 have hkind:∀ y∈ps.zip us,scope.names.lookup y.1=some .local\/(scope.names.lookup y.1=some .cell/\((cellsFrom (s.heap.objs.size+1) scope.names []).lookup y.1).isSome=true):=fun ⟨n,v⟩ hy=>by
  rcases S.par n (List.of_mem_zip hy).1 with q | q
  ·exact .inl q
  ·exact .inr ⟨q,PySem.W.cellsFrom_some _ _ _ (.inl q)⟩
 refine codeAny_call_function hr.depth (KX _ _ lk) rfl S.co S.gen rfl (PySem.W.codeRec_of KX hcd) (hb _ _ _ _ ?_);refine wpAny_newFunctionEnv_cells S.kind hkind fun env he s1 x=>?_;subst he;refine⟨lim.keeps x.toInCall.keep,codeAny_func ?_⟩;obtain⟨t,ht,hq⟩:=hbody A outer s H vs Q E (hr.deeper _) hsp;have I:ax (oX CX P w K mg base N qual scope f cdv A outer s H E) [] (kA N vs) H s1:=zP S hr.hd e0 hl r x;refine Il (ht [] s1 (kA N vs) H _ I hq) (fun fl s' hs=>?_) fun e s' hs=>hs
 have fin:∀ {σ':St}{H':Hp}{v:V}{u:Value},ax (oX CX P w K mg base N qual scope f cdv A outer s H E) [] σ' H' s'->aO v u->Q v H'->CE outer P w H s Q u s' :=
  fun {σ' H' v u} J rv q=>⟨v,H',J.os,J.bare,J.base,J.hok,rv,q⟩
 cases fl with
 | ret u =>
  obtain⟨v,σ',H',J,rv,q⟩:=hs;exact fin J rv q
 | next =>
  obtain⟨σ',H',J,q⟩:=hs;exact fin (v:=V.non) (u:=Value.none) J rfl q
 | brk =>
  obtain⟨_,_,_,q⟩:=hs;exact False.elim q
 | cont =>
  obtain⟨_,_,_,q⟩:=hs;exact False.elim q
section
variable {X:Cx}{x:Str}{p pos:Pos}{e:Expr}{es:List Expr}{t:TA}{id T:String}{r:List V->Hp->VK->Prop}
def G7 (r:List V->Hp->VK->Prop)(t:TA):TE:=fun σ H Q=>t σ H fun vs H1=>r vs H1 Q
theorem aU (hc:eX X (.builtin id) r)(hg:Gl X x)(hm:X.mg x=none)(hv:bootBuiltins x=some (.builtin id))(ha:PA X (e::es) t)(hn:x≠"__name__":=by decide)(hdb:(x == ("__debug__" : Str))=false:=by decide)
  (he:starEach (e::es) X.env=(false,eval e X.env)::starEach es X.env:=by rfl) (hpl:(backTo pos (starEach es X.env)).any (·.1)=false:=by rfl):PE X (.Call (.Name x p) (e::es) [] pos) (G7 r t):=by
 intro pins s σ H Q I h;refine IX (mY I hg hm hv ?_ hn hdb);exact PyProof.Rows.callWith_builtin1 (bc (ha pos pins s σ H _ I h) fun us s1 ⟨vs,H1,I1,r1,q1⟩=>hc pins s1 σ H1 vs us Q I1 r1 q1) he hpl
theorem dS (hc:eX X (.type T) r)(hg:Gl X x)(hm:X.mg x=none)(hv:bootBuiltins x=some (.type T))(ha:PA X (e::es) t)(hn:x≠"__name__":=by decide)(hdb:(x == ("__debug__" : Str))=false:=by decide)
  (he:starEach (e::es) X.env=(false,eval e X.env)::starEach es X.env:=by rfl) (hpl:(backTo pos (starEach es X.env)).any (·.1)=false:=by rfl):PE X (.Call (.Name x p) (e::es) [] pos) (G7 r t):=by
 intro pins s σ H Q I h;refine IX (mY I hg hm hv ?_ hn hdb);exact JH (bc (ha pos pins s σ H _ I h) fun us s1 ⟨vs,H1,I1,r1,q1⟩=>hc pins s1 σ H1 vs us Q I1 r1 q1) he hpl
end
end L2
namespace HT
open PySem PyProof.Rows
section
open PySem.SeqAt
open PySem.AutoSeq1 (wpAny_loadPart')
open PySem.MeetsSeq PySem.MeetsSeq2 PySem.MeetsSeq3
end
section
variable {prog:Program}{w:World}{A:Around}{E:Value->Shared->Prop}{s:Shared}
def sIx (n d:Nat):Option Int->Nat
 | none=>d
 | some v=>if v<0 then (v+(n:Int)).toNat else min v.toNat n
theorem sIx_none (n d:Nat):sIx n d none=d:=rfl
theorem sIx_nat (n d k:Nat):sIx n d (some (k:Int))=min k n:=by
 show (if (k:Int)<0 then ((k:Int)+(n:Int)).toNat else min (k:Int).toNat n)=min k n
 rw[Hu (by omega),JM]
theorem Ez (n d:Nat)(hd:d<=n)(o:Option Int):sIx n d o<=n:=by
 cases o with
 | none=>exact hd
 | some v =>
  show (if v<0 then (v+(n:Int)).toNat else min v.toNat n)<=n
  by_cases hv:v<0
  ·rw[Hw hv];omega
  ·rw[Hu hv];exact Nat.min_le_right _ _
theorem yH (v:Int)(n d:Nat):(if v<0 then max (v+(n:Int)) 0 else min v (n:Int))=((sIx n d (some v):Nat):Int):=by
 show (if v<0 then max (v+(n:Int)) 0 else min v (n:Int))=(((if v<0 then (v+(n:Int)).toNat else min v.toNat n):Nat):Int)
 by_cases hv:v<0
 ·simp only[Hw hv];omega
 ·simp only[Hu hv];omega
theorem xz (lo hi:Option Int)(n:Nat):Builtin.Slice.sliceAdjust lo hi 1 (n:Int)=(((sIx n 0 lo:Nat):Int),((sIx n n hi:Nat):Int)):=by
 have h1:¬ ((1:Int)<0):=by omega
 unfold Builtin.Slice.sliceAdjust;simp only[h1,if_false];refine Prod.ext ?_ ?_
 ·cases lo with
  | none=>rfl
  | some v=>exact yH v n 0
 ·cases hi with
  | none=>rfl
  | some v=>exact yH v n n
theorem ym (i j:Nat):Builtin.Slice.slicePlaces (i:Int) (j:Int) 1=j-i:=by
 unfold Builtin.Slice.slicePlaces
 have h1:(1:Int)>0:=by omega
 simp only[h1,if_true,Int.ediv_one];split<;>omega
theorem rC {v:Value}{o:Option Int}{Q:Option Int->Shared->Prop}(p:IsPart v o)(h:Q o s):wpAny (model prog w) A (Builtin.Slice.slicePartIndex v) Q E s:=by
 cases p with
 | none=>exact slicePart_none h
 | int i t=>exact slicePart_int h
theorem nL {sl:Addr}{vl vu:Value}{lo hi:Option Int}{n:Nat}{Q:Int×Int×Nat->Shared->Prop}(hs:s.heap.IsSliceOf sl vl vu .none)(pl:IsPart vl lo)(pu:IsPart vu hi)
  (h:Q (((sIx n 0 lo:Nat):Int),1,sIx n n hi-sIx n 0 lo) s):wpAny (model prog w) A (Builtin.Slice.sliceApplied (.ref sl) (pure (n:Int))) Q E s:=by
 obtain⟨os,hos,hcs,hds⟩:=id hs;unfold Builtin.Slice.sliceApplied Builtin.Slice.sliceFields;refine Ht (Ht (J4 hos hds (x:=vl) rfl (Ht (J4 hos hds (x:=vu) rfl (Ht (J4 hos hds (x:=.none) rfl (Hz ?_)))))));refine Ht (slicePart_none ?_)
 show wpAny _ _ (if ((1:Int) == 0)=true then _ else _) _ _ s
 rw[Hu (by decide)];refine Ht (rC pl (Ht (rC pu (Ht (Hz ?_)))))
 show wpAny _ _ (match Builtin.Slice.sliceAdjust lo hi 1 (n:Int) with | (lo,hi)=>pure (lo,(1:Int),Builtin.Slice.slicePlaces lo hi 1)) _ _ s
 rw[xz lo hi n]
 show wpAny _ _ (pure (((sIx n 0 lo:Nat):Int),(1:Int),Builtin.Slice.slicePlaces ((sIx n 0 lo:Nat):Int) ((sIx n n hi:Nat):Int) 1)) _ _ s
 rw[ym];exact Hz h
theorem BL (xs:Array Value)(i k:Nat):((List.range k).filterMap fun (m:Nat)=>xs[((i:Int)+(m:Int)*1).toNat]?).toArray=((xs.toList.drop i).take k).toArray:=by
 have e:(fun (m:Nat)=>xs[((i:Int)+(m:Int)*1).toNat]?)=fun m=>xs[i+m]?:=by
  funext m
  have:((i:Int)+(m:Int)*1).toNat=i+m:=by omega
  rw[this]
 rw[e];have:=pick_run xs i k;rw[List.filterMap_map]at this;have e2:((fun x=>xs[x]?) ∘ fun x=>i+x)=fun m=>xs[i+m]?:=rfl;rw[e2]at this;rw[this]
theorem getItem_tuple_cut {t sl:Addr}{items:Array Value}{vl vu:Value}{lo hi:Option Int}{Q:Value->Shared->Prop}(ht:IsTup s.heap t items)(hs:s.heap.IsSliceOf sl vl vu .none)(pl:IsPart vl lo)(pu:IsPart vu hi)
  (hw:¬ (sIx items.size 0 lo=0/\sIx items.size items.size hi=items.size))
  (h:Q (.ref s.heap.objs.size) { s with heap:=s.heap.push { cls:=.type "tuple",data:=.seq ((items.toList.drop (sIx items.size 0 lo)).take (sIx items.size items.size hi-sIx items.size 0 lo)).toArray } })
  (hsz:items.size<=sizeLine):wpAny (model prog w) A (getItem (.ref t) (.ref sl)) Q E s:=by
 have htake:sizeOk (.seq ((items.toList.drop (sIx items.size 0 lo)).take (sIx items.size items.size hi-sIx items.size 0 lo)).toArray):=by
  show ((items.toList.drop (sIx items.size 0 lo)).take (sIx items.size items.size hi-sIx items.size 0 lo)).toArray.size<=sizeLine
  rw[HU,Io,JT,Jp];omega
 have hj:sIx items.size items.size hi<=items.size:=Ez _ _ (Hv _) hi;obtain⟨os,hos,hcs,hds⟩:=id hs;have hTs:s.TypeIs (.ref sl) "slice":=⟨os,hos,hcs⟩;unfold getItem
 try with_reducible refine Jf ?_
 first | refine Ht (Hz ?_) | skip
 refine Ht (wpAny_sequenceKey ht.typeIs (by decide) ?_)
 refine Ht (wpAny_callSpecial?_slot (name:=Str.ofString "__getitem__") ht.typeIs PyProof.Rows.slot_tuple_getitem
  (JU PyProof.Rows.slot_tuple_getitem ht.typeIs entry_tuple_getitem ?_ (args_tuple_getitem _ _)))
 show wpAny _ _ (Builtin.Tuple.tupleItemsOf (.ref t) >>= _) _ _ s
 refine Ht (tupleItemsOf_ ht ?_);refine Ht (wpAny_typeOf hTs ?_);rw[Hw (by decide)];refine Ht (nL hs pl pu ?_)
 have hno:¬ ((((sIx items.size 0 lo:Nat):Int) == 0&&(1:Int) == 1&&(sIx items.size items.size hi-sIx items.size 0 lo) == items.size)=true):=by
  intro q;rw[Jd,Jd]at q;have q1:((sIx items.size 0 lo:Nat):Int)=0:=eq_of_beq q.1.1;have q2:sIx items.size items.size hi-sIx items.size 0 lo=items.size:=eq_of_beq q.2;exact hw ⟨by omega,by omega⟩
 show wpAny _ _ (if (((sIx items.size 0 lo:Nat):Int) == 0&&(1:Int) == 1&&(sIx items.size items.size hi-sIx items.size 0 lo) == items.size)=true then _ else _) _ _ s
 rw[Hu hno,BL]
 first
  | exact Ht (m:=Builtin.Tuple.tupleExact _) (IM (Hz ⟨_,rfl,Hz h⟩) htake)
  | exact Ht (m:=Builtin.Tuple.tupleExact _) (IM (Ht (Hz (Hz ⟨_,rfl,Hz h⟩))) htake)
  | exact Ht (Ht (m:=Builtin.Tuple.tupleExact _) (IM (Hz (Hz ⟨_,rfl,Hz h⟩)) htake))
  | exact Ht (Ht (m:=Builtin.Tuple.tupleExact _) (IM (Hz ⟨_,rfl,Hz h⟩) htake))
end
end HT
namespace L2
open PySem PySem.Spec PyProof.Rows
abbrev TO:=St->Hp->(Option Int->Hp->Prop)->Prop
def PO (X:Cx)(e:Option Expr)(t:TO):Prop :=
 ∀ (pins:List (Addr×Obj))(s:Shared)(σ:St)(H:Hp)(Q:Option Int->Hp->Prop),ax X pins σ H s->t σ H Q ->
  wpAny (model X.prog X.w) X.A (evalPart e X.env) (fun u s'=>∃ o H',ax X pins σ H' s'/\IsPart u o/\Q o H') X.xe s
def zq:TO:=fun _ H Q=>Q none H
def FL (t:TE):TO:=fun σ H Q=>t σ H fun x H1=>∃ i,x=.int i/\Q (some i) H1
section
variable {X:Cx}{e:Expr}{te:TE}{lo hi:Option Expr}{tl th:TO}{pos p2:Pos}
theorem pF:PO X none zq:=by
 intro pins s σ H Q I h;rw[evalPart_none];exact Hz ⟨none,H,I,.none,h⟩
theorem jW (h:PE X e te):PO X (some e) (FL te):=by
 intro pins s σ H Q I hw;rw[evalPart_some];refine bc (h pins s σ H _ I hw) fun u s1 ⟨x,H1,I1,r1,q1⟩=>?_;obtain⟨i,rfl,q⟩:=q1;obtain⟨t,rfl⟩:=r1;exact⟨some i,H1,I1,.int i t,q⟩
def F9 (X:Cx)(r:V->Option Int->Option Int->Hp->VK->Prop):Prop :=
 ∀ (pins:List (Addr×Obj))(s:Shared)(σ:St)(H:Hp)(x:V)(v vl vu:Value)(lo hi:Option Int)(sl:Addr)(Q:VK),ax X pins σ H s->aO x v->s.heap.IsSliceOf sl vl vu .none->IsPart vl lo->IsPart vu hi->r x lo hi H Q ->
  ∃ T id,typeLookup (.type T) "__getitem__" = pure (some (.builtin id))/\s.TypeIs v T/\wpAny (model X.prog X.w) X.A (getItem v (.ref sl)) (EP X pins σ Q) X.xe s
def Hl (r:V->Option Int->Option Int->Hp->VK->Prop)(te:TE)(tl th:TO):TE:=fun σ H Q=>te σ H fun x H1=>tl σ H1 fun l H2=>th σ H2 fun u H3=>r x l u H3 Q
theorem jG {r:V->Option Int->Option Int->Hp->VK->Prop}(hr:F9 X r)(he:PE X e te)(hl:PO X lo tl)(hu:PO X hi th):PE X (.Subscript e (.Slice lo hi none p2) pos) (Hl r te tl th):=by
 intro pins s σ H Q I h;refine Subscript_ (bc (he pins s σ H _ I h) fun v s1 ⟨x,H1,I1,r1,q1⟩=>?_);refine wpAny_Slice (bc (hl pins s1 σ H1 _ I1 q1) fun vl s2 ⟨l,H2,I2,pl,q2⟩=>bc (hu pins s2 σ H2 _ I2 q2) fun vu s3 ⟨u,H3,I3,pu,q3⟩=>?_);rw[evalPart_none];refine Hz ?_;have I4:ax X pins σ H3 { s3 with heap:=s3.heap.push { cls:=.type "slice",data:=.fields #[vl,vu,.none] } }:=I3.kept (t':=s3.toks) fun b ob q=>Heap.get?_push_of_some _ q;obtain⟨T,id,hT,ht,hg⟩:=hr pins { s3 with heap:=s3.heap.push { cls:=.type "slice",data:=.fields #[vl,vu,.none] } } σ H3 x v vl vu l u s3.heap.objs.size Q I4 r1 (Heap.IsSliceOf.new ..) pl pu q3
 show wpAny (model X.prog X.w) X.A (subscriptTail e (.Slice lo hi none p2) v (.ref s3.heap.objs.size)) (EP X pins σ Q) X.xe { s3 with heap:=s3.heap.push { cls:=.type "slice",data:=.fields #[vl,vu,.none] } }
 exact tail_any (ops:=[.ref s3.heap.objs.size,v]) ht hT hg (by with_unfolding_all rfl)
def iA (xs:List V)(lo hi:Option Int):List V:=(xs.drop (HT.sIx xs.length 0 lo)).take (HT.sIx xs.length xs.length hi-HT.sIx xs.length 0 lo)
theorem oC (xs:List V)(lo hi:Option Int):(iA xs lo hi).length<=xs.length:=by
 unfold iA;rw[Io,JT];omega
def Gw (K:PySem.W.Frag):V->Option Int->Option Int->Hp->VK->Prop:=fun x lo hi H Q=>∃ a xs,x=.ref a/\dC K H a xs /\
 ¬ (HT.sIx xs.length 0 lo=0/\HT.sIx xs.length xs.length hi=xs.length)/\∀ p,H p=none->Q (.ref p) (upd H p (.tup (iA xs lo hi)))
theorem EA:F9 X (Gw X.K):=by
 intro pins s σ H x v vl vu lo hi sl Q I rx hs pl pu h;obtain⟨a,xs,rfl,hx,hw,q⟩:=h;cases rx;obtain⟨its,r,ht,hz⟩:=I.tuple hx
 have hlen:its.toArray.size=xs.length:=by rw[HU];exact r.length.symm
 refine⟨"tuple",_,PyProof.Rows.slot_tuple_getitem.lookup,ht.typeIs,?_⟩;refine HT.getItem_tuple_cut ht hs pl pu (by rw[hlen];exact hw) ?_ (by rw[hlen];exact hz);rw[hlen];refine⟨.ref s.heap.objs.size,_,I.laid (t':=s.toks) (o:=.tup (iA xs lo hi)) (fun b ob q=>Heap.get?_push_of_some _ q) (Hv _) ?_,rfl,q _ (I.hok.fresh (Hv _))⟩;exact⟨Ix (oC xs lo hi) hz,_,(r.drop (HT.sIx xs.length 0 lo)).take (HT.sIx xs.length xs.length hi-HT.sIx xs.length 0 lo),IsTup.new _ _⟩
end
def Cq (n:Nat)(i:Int):Option Nat:=if 0<=i then (if i<n then some i.toNat else none) else if -(n:Int)<=i then some (i+n).toNat else none
def ur {α:Type}(xs:List α)(i:Int):Option α:=(Cq xs.length i).bind fun j=>xs[j]?
theorem CS {n:Nat}{i:Int}{j:Nat}(h:Cq n i=some j):seqIndex? i n=some j/\j<n/\-(n:Int)<=i/\i<n:=by
 unfold Cq at h
 by_cases h0:0<=i
 ·rw[Hw h0]at h
  by_cases h1:i<n
  ·rw[Hw h1]at h
   have e:i.toNat=j:=Hy h;exact⟨by rw[seqIndex_of h0 h1,e],by omega,by omega,h1⟩
  ·rw[Hu h1]at h;cases h
 ·rw[Hu h0]at h
  by_cases h1 : -(n:Int)<=i
  ·rw[Hw h1]at h
   have e:(i+n).toNat=j:=Hy h;exact⟨by rw[seqIndex_neg (by omega) h1,e],by omega,h1,by omega⟩
  ·rw[Hu h1]at h;cases h
theorem yG {α:Type}{xs:List α}{i:Int}{v:α}(h:ur xs i=some v):∃ j,seqIndex? i xs.length=some j/\xs[j]? = some v/\j<xs.length/\-(xs.length:Int)<=i/\i<xs.length:=by
 unfold ur at h
 cases e:Cq xs.length i with
 | none=>rw[e]at h;cases h
 | some j =>
  rw[e]at h;obtain⟨h1,h2,h3,h4⟩:=CS e;exact⟨j,h1,h,h2,h3,h4⟩
theorem jR {α:Type}{xs:List α}{j:Nat}{v:α}(h:xs[j]? = some v):ur xs (j:Int)=some v:=by
 have hj:j<xs.length:=(List.getElem?_eq_some_iff.mp h).1
 have e:Cq xs.length (j:Int)=some j:=by
  unfold Cq;rw[Hw (by omega),Hw (by omega)];simp
 unfold ur;rw[e];exact h
theorem vZ {α:Type}(xs:List α)(v:α):ur (xs++[v]) (-1)=some v:=by
 have hl:(xs++[v]).length=xs.length+1:=by simp
 have e:Cq (xs++[v]).length (-1)=some xs.length:=by
  unfold Cq;rw[hl,Hu (by decide),Hw (by omega)]
  congr 1
  omega
 unfold ur;rw[e]
 show (xs++[v])[xs.length]? = some v
 simp
def Ct (b:Expr):Prop:=∀ o i,subscripted b false o i=operate [o,i] (getItem o i)
def EY (X:Cx)(r:R2):Prop :=
 ∀ (value slice:Expr)(pins:List (Addr×Obj))(s:Shared)(σ:St)(H:Hp)(x y:V)(v u:Value)(Q:VK),ax X pins σ H s->aO x v->aO y u->r x y H Q ->
  subscripted slice false v u=operate [v,u] (getItem v u)->wpAny (model X.prog X.w) X.A (subscriptTail value slice v u) (EP X pins σ Q) X.xe s
def GS (X:Cx)(id:String)(r:V->List V->Hp->VK->Prop):Prop :=
 ∀ (pins:List (Addr×Obj))(s:Shared)(σ:St)(H:Hp)(x:V)(xs:List V)(v:Value)(us:List Value)(Q:VK),ax X pins σ H s->aO x v->aQ xs us->r x xs H Q ->
  wpAny (model X.prog X.w) X.A (call (.builtin id) (v::us)) (EP X pins σ Q) X.xe s
section
variable {X:Cx}{a b:Expr}{ta tb:TE}{pos:Pos}
theorem bh {r:R2}(hr:EY X r)(ha:PE X a ta)(hb:PE X b tb)(hs:Ct b):PE X (.Subscript a b pos) (FZ r ta tb):=by
 intro pins s σ H Q I h;exact Subscript_ (D2 ha hb I h fun v u s2 x y H2 I2 rx ry q=>hr a b pins s2 σ H2 x y v u Q I2 rx ry q (hs _ _))
inductive GZ (K:PySem.W.Frag) (x y:V) (H:Hp) (Q:VK):Prop
 | mk (p:Addr) (xs:List V) (i:Int) (v:V) (e1:x=.ref p) (e2:y=.int i) (q:aL K H p xs) (a:ur xs i=some v) (h:Q v H):GZ K x y H Q
def Fx (K:PySem.W.Frag):R2:=fun x y H Q=>GZ K x y H Q
inductive G0 (K:PySem.W.Frag) (x y:V) (H:Hp) (Q:VK):Prop
 | mk (p:Addr) (xs:List V) (i:Int) (v:V) (e1:x=.ref p) (e2:y=.int i) (q:dC K H p xs) (a:ur xs i=some v) (h:Q v H):G0 K x y H Q
def Fy (K:PySem.W.Frag):R2:=fun x y H Q=>G0 K x y H Q
theorem ff:EY X (Fx X.K):=by
 intro value slice pins s σ H x y v u Q I rx ry h hs;obtain⟨p,xs,i,z,rfl,rfl,hq,he,q⟩:=h;cases rx;obtain⟨t,rfl⟩:=ry;obtain⟨its,r,pl,hz⟩:=I.list hq;obtain⟨j,h1,h2,h3,h4,h5⟩:=yG he;obtain⟨w,ew,rw'⟩:=r.get h2;have hl:=r.length;have hn:=uL;have fin:EP X pins σ Q w s:=⟨z,H,I,rw',q⟩
 by_cases h0:0<=i
 ·have hj:i.toNat=j:=by
   rw[seqIndex_of h0 h5]at h1;exact Hy h1
  exact item_listR pl.isList h0 (by omega) (by rw[hj];simpa using ew) fin hs
 ·have hj:(i+(its.toArray.size:Int)).toNat=j:=by
   rw[seqIndex_neg (by omega) h4]at h1;rw[HU,<-hl];exact Hy h1
  exact subscriptTail_builtinR (x:=w) pl.isList.typeIs slot_list_getitem.lookup
   (wpAny_getItem_list_neg (Q:=fun r s'=>r=w/\EP X pins σ Q r s') pl.isList (by omega) (by rw[HU]<;>omega) (by omega) (by rw[hj];simpa using ew) ⟨rfl,fin⟩) hs
theorem bi:EY X (Fy X.K):=by
 intro value slice pins s σ H x y v u Q I rx ry h hs;obtain⟨p,xs,i,z,rfl,rfl,hq,he,q⟩:=h;cases rx;obtain⟨t,rfl⟩:=ry;obtain⟨its,r,pl,hz⟩:=I.tuple hq;obtain⟨j,h1,h2,h3,h4,h5⟩:=yG he;obtain⟨w,ew,rw'⟩:=r.get h2;have hl:=r.length;have hn:=uL;have fin:EP X pins σ Q w s:=⟨z,H,I,rw',q⟩
 exact subscriptTail_builtinR (x:=w) pl.typeIs slot_tuple_getitem.lookup
  (getItem_tuple (j:=j) (Q:=fun r s'=>r=w/\EP X pins σ Q r s') pl (by omega) (by omega) (by rw[HU,<-hl];exact h1) (by simpa using ew) ⟨rfl,fin⟩) hs
theorem vt (lo hi:Option Int)(n:Nat):(sliceBounds lo hi none n).1=((HT.sIx n 0 lo:Nat):Int)/\(sliceBounds lo hi none n).2.1=((HT.sIx n n hi:Nat):Int)/\(sliceBounds lo hi none n).2.2=1:=by
 refine⟨?_,?_,rfl⟩
 ·cases lo with
  | none=>simp[sliceBounds,HT.sIx]
  | some i =>
   simp only[sliceBounds,HT.sIx,Option.getD_none,show (1:Int)>0 by decide,if_true]
   by_cases h:i<0
   ·simp only[h,if_true]<;>omega
   ·simp only[h,if_false]<;>omega
 ·cases hi with
  | none=>simp[sliceBounds,HT.sIx]
  | some i =>
   simp only[sliceBounds,HT.sIx,Option.getD_none,show (1:Int)>0 by decide,if_true]
   by_cases h:i<0
   ·simp only[h,if_true]<;>omega
   ·simp only[h,if_false]<;>omega
theorem sO (its:List Value)(lo hi:Option Int):slicePick its.toArray lo hi none=((its.drop (HT.sIx its.length 0 lo)).take (HT.sIx its.length its.length hi-HT.sIx its.length 0 lo)).toArray:=by
 obtain⟨h1,h2,h3⟩:=vt lo hi its.toArray.size;unfold slicePick;rw[h1,h2,h3];simp only[sliceRange_one,pick_run,HU]<;>rfl
inductive FA (K:PySem.W.Frag) (x:V) (lo:Option Int) (hi:Option Int) (H:Hp) (Q:VK):Prop
 | mk (a:Addr) (xs:List V) (h_0:x=.ref a) (h_1:aL K H a xs) (h_2:∀ p,H p=none->Q (.ref p) (upd H p (.lst (iA xs lo hi)))):FA K x lo hi H Q
theorem pG:F9 X (FA X.K):=by
 intro pins s σ H x v vl vu lo hi sl Q I rx hs pl pu h;obtain⟨a,xs,rfl,hx,q⟩:=h;cases rx;obtain⟨its,r,ht,hz⟩:=I.list hx;have hlen:=r.length;refine⟨"list",_,slot_list_getitem.lookup,ht.isList.typeIs,?_⟩;refine wpAny_getItem_list_slice ht.isList hs pl pu .none (by simp) ?_ (by rw[HU]<;>omega);rw[sO,<-hlen];refine⟨.ref s.heap.objs.size,_,I.laid (t':=s.toks) (o:=.lst (iA xs lo hi)) (fun b ob q=>Heap.get?_push_of_some _ q) (Hv _) ?_,rfl,q _ (I.hok.fresh (Hv _))⟩;exact⟨Ix (oC xs lo hi) hz,_,0,(r.drop (HT.sIx xs.length 0 lo)).take (HT.sIx xs.length xs.length hi-HT.sIx xs.length 0 lo),Heap.get?_push_size _ rfl⟩
def jy:V->Bool
 | .non=>true
 | .bl _=>true
 | .int _=>true
 | .str _=>true
 | _=>false
def xI:V->V->Bool
 | .non,.non=>true
 | .bl a,.bl b=>a == b
 | .bl a,.int b=>(if a then 1 else 0) == b
 | .int a,.bl b=>a == (if b then 1 else 0)
 | .int a,.int b=>a == b
 | .str a,.str b=>a == b
 | _,_=>false
theorem AW {A:Around}{s:Shared}{y x:V}{u v:Value}(ry:aO y u)(rx:aO x v)(fy:jy y=true)(fx:jy x=true):SeqAt.EqAt A s u v (xI y x):=by
 cases y with
 | non =>
  cases ry
  cases x with
  | non=>cases rx;exact SeqAt.EqAt.same _
  | bl b=>cases rx;exact SeqAt.EqAt.none_bool b
  | int b=>obtain⟨t,rfl⟩:=rx;exact SeqAt.EqAt.none_int b t
  | str b=>obtain⟨t,rfl⟩:=rx;exact SeqAt.EqAt.none_str b t
  | _=>exact absurd (show false=true from fx) HN
 | bl a =>
  cases ry
  cases x with
  | non=>cases rx;exact SeqAt.EqAt.bool_none a
  | bl b=>cases rx;exact SeqAt.EqAt.bool_bool a b
  | int b=>obtain⟨t,rfl⟩:=rx;exact SeqAt.EqAt.bool_int a b t
  | str b=>obtain⟨t,rfl⟩:=rx;exact SeqAt.EqAt.bool_str a b t
  | _=>exact absurd (show false=true from fx) HN
 | int a =>
  obtain⟨t',rfl⟩:=ry
  cases x with
  | non=>cases rx;exact SeqAt.EqAt.int_none a t'
  | bl b=>cases rx;exact SeqAt.EqAt.int_bool a t' b
  | int b=>obtain⟨t,rfl⟩:=rx;exact SeqAt.EqAt.int_int a t' b t
  | str b=>obtain⟨t,rfl⟩:=rx;exact SeqAt.EqAt.int_str a t' b t
  | _=>exact absurd (show false=true from fx) HN
 | str a =>
  obtain⟨t',rfl⟩:=ry
  cases x with
  | non=>cases rx;exact SeqAt.EqAt.str_none a t'
  | bl b=>cases rx;exact SeqAt.EqAt.str_bool a t' b
  | int b=>obtain⟨t,rfl⟩:=rx;exact SeqAt.EqAt.str_int a t' b t
  | str b=>obtain⟨t,rfl⟩:=rx;exact SeqAt.EqAt.str_str a t' b t
  | _=>exact absurd (show false=true from fx) HN
 | _=>exact absurd (show false=true from fy) HN
def CF (x:V)(u:Value):Bool:=match u with
 | .none=>xI .non x
 | .bool b=>xI (.bl b) x
 | .int i _=>xI (.int i) x
 | .str z _=>xI (.str z) x
 | _=>false
theorem AX {x y:V}{u:Value}(r:aO y u)(f:jy y=true):CF x u=xI y x:=by
 cases y with
 | non=>cases r;rfl
 | bl b=>cases r;rfl
 | int i=>obtain⟨t,rfl⟩:=r;rfl
 | str z=>obtain⟨t,rfl⟩:=r;rfl
 | _=>exact absurd (show false=true from f) HN
theorem uq {x:V}:∀ {xs:List V}{us:List Value},aQ xs us->xs.all jy=true->us.any (CF x)=xs.any fun y=>xI y x
 | _,_,.nil,_=>rfl
 | y::xs,u::us,.cons r t,f=>by
  rw[List.all_cons,Jd]at f;rw[Jg,Jg,AX r f.1,uq t f.2]
theorem qB {A:Around}{s:Shared}{x:V}{v:Value}(rx:aO x v)(fx:jy x=true):∀ {xs:List V}{us:List Value},aQ xs us->xs.all jy=true->∀ u∈us,SeqAt.EqAt A s u v (CF x u)
 | _,_,.nil,_=>fun u hu=>by cases hu
 | y::xs,u::us,.cons r t,f=>fun u' hu=>by
  rw[List.all_cons,Jd]at f;rcases HW.mp hu with rfl | hu
  ·rw[AX r f.1];exact AW r rx f.1 fx
  ·exact qB rx fx t f.2 u' hu
def D5 (x:V)(xs:List V):Bool:=xs.any fun y=>xI y x
inductive Gv (K:PySem.W.Frag) (neg:Bool) (x:V) (y:V) (H:Hp) (Q:VK):Prop
 | mk (p:Addr) (xs:List V) (h_0:y=.ref p) (h_1:(aL K H p xs\/dC K H p xs)) (h_2:jy x=true) (h_3:xs.all jy=true) (h_4:Q (.bl (if neg then !D5 x xs else D5 x xs)) H):Gv K neg x y H Q
theorem lR:ph X (compareOp .NotIn) (Gv X.K true):=by
 intro pins s σ H x y v u Q I rx ry h;obtain⟨p,xs,rfl,hq,fx,fs,q⟩:=h;cases ry;rcases hq with hq | hq
 ·obtain⟨its,r,pl,hz⟩:=I.list hq
  refine SeqAt.notIn_listAt (CF x) pl.isList (fun w hw=>qB rx fx r fs w (by simpa using hw)) ⟨.bl _,H,I,rfl,?_⟩;rw[show its.toArray.any (CF x)=its.any (CF x) by simp,uq r fs];exact q
 ·obtain⟨its,r,pl,hz⟩:=I.tuple hq
  refine SeqAt.notIn_tupleAt (CF x) pl (fun w hw=>qB rx fx r fs w (by simpa using hw)) ⟨.bl _,H,I,rfl,?_⟩;rw[show its.toArray.any (CF x)=its.any (CF x) by simp,uq r fs];exact q
theorem bR:eX X (.builtin "len") (fun xs H Q=>∃ p ys,xs=[.ref p]/\(aL X.K H p ys\/dC X.K H p ys)/\Q (.int ys.length) H):=by
 intro pins s σ H xs us Q I r h;obtain⟨p,ys,rfl,hq,q⟩:=h;obtain⟨u,rfl,rx⟩:=jP r;cases rx;have hn:=uL;rcases hq with hq | hq
 ·obtain⟨its,r',pl,hz⟩:=I.list hq
  have hlen:=r'.length;exact Calls.call_len_list pl.isList (by simp only[HU]<;>omega) ⟨.int ys.length,H,I.tok _,⟨s.toks+1,by rw[HU,hlen]⟩,q⟩
 ·obtain⟨its,r',pl,hz⟩:=I.tuple hq
  have hlen:=r'.length;exact len_tuple pl (by simp only[HU]<;>omega) ⟨.int ys.length,H,I.tok _,⟨s.toks+1,by rw[HU,hlen]⟩,q⟩
theorem e8:eX X (.type "list") (fun xs H Q=>∃ p ys,xs=[.ref p]/\(aL X.K H p ys\/dC X.K H p ys)/\∀ l,H l=none->Q (.ref l) (upd H l (.lst ys))):=by
 intro pins s σ H xs us Q I r h;obtain⟨p,ys,rfl,hq,q⟩:=h;obtain⟨u,rfl,rx⟩:=jP r;cases rx
 have fin:∀ (its:List Value),aQ ys its->ys.length<=sizeLine->∀ (h':Heap)(c':Nat),(∀ b o',s.heap.get? b=some o'->h'.get? b=some o') ->
   h'.get? s.heap.objs.size=some { cls:=.type "list",dict:=none,data:=.seq its.toArray c',slots:=#[] }->EP X pins σ Q (.ref s.heap.objs.size) { s with heap:=h' }:=fun its r' hz h' c' kp e =>
  ⟨.ref s.heap.objs.size,_,I.laid (t':=s.toks) kp (Hv _) (show bb X.prog X.w _ h' _ (.lst ys) from ⟨hz,its,c',r',e⟩),rfl,q _ (I.hok.fresh (Hv _))⟩
 rcases hq with hq | hq
 ·obtain⟨its,r',pl,hz⟩:=I.list hq
  have hlen:=r'.length;obtain⟨o,ho,hc,n,hd⟩:=pl.isList;exact call_list_seq p (.inl rfl) ho hc hd (fun h' c' kp e=>fin its r' hz h' c' kp e) (by simp only[HU]<;>omega)
 ·obtain⟨its,r',pl,hz⟩:=I.tuple hq
  have hlen:=r'.length;obtain⟨o,ho,hc,n,hd⟩:=pl;exact call_list_seq p (.inr rfl) ho hc hd (fun h' c' kp e=>fin its r' hz h' c' kp e) (by simp only[HU]<;>omega)
def GP (K:PySem.W.Frag)(T:String)(x:V)(H:Hp):Prop:=match x with
 | .str _=>T="str"
 | .int _=>T="int"
 | .ref p=>(T="list"/\∃ xs,aL K H p xs)\/(T="tuple"/\∃ o,K.lookup p=some o/\o.cls=.type "tuple"/\o.dict=none) \/
   (T="dict"/\((∃ kvs,H p=some (.dK kvs))\/∃ kvs,H p=some (.dT kvs)))\/(T="set"/\∃ S n,H p=some (.set S n))
 | _=>False
theorem Cc {pins:List (Addr×Obj)}{σ:St}{H:Hp}{s:Shared}{T:String}{x:V}{v:Value}(I:ax X pins σ H s)(r:aO x v)(ty:GP X.K T x H) :
  s.TypeIs v T/\∀ a,v=.ref a->∃ ob,s.heap.get? a=some ob/\ob.dict=none:=by
 cases x with
 | str z =>
  obtain⟨t,rfl⟩:=r;cases (show T="str" from ty);exact⟨typeIs_str s z t,fun _ e=>nomatch e⟩
 | int i =>
  obtain⟨t,rfl⟩:=r;cases (show T="int" from ty);exact⟨typeIs_int s i t,fun _ e=>nomatch e⟩
 | ref p =>
  cases r;rcases ty with ⟨rfl,xs,hq⟩ | ⟨rfl,o,hk,hc,hd⟩ | ⟨rfl,hk⟩ | ⟨rfl,S,n,hk⟩
  ·obtain⟨its,_,pl,_⟩:=I.list hq
   refine⟨pl.isList.typeIs,fun a e=>?_⟩;cases e;obtain⟨o,n,e,c,hd,_⟩:=pl;exact⟨o,e,hd⟩
  ·refine⟨⟨o,I.kIn p o hk,hc⟩,fun a e=>?_⟩
   cases e;exact⟨o,I.kIn _ o hk,hd⟩
  ·have z:∃ o,s.heap.get? p=some o/\o.ExactDict:=by
    rcases hk with ⟨kvs,hk⟩ | ⟨kvs,hk⟩
    ·obtain⟨_,_,_,_,o,_,_,e,ex,_⟩:=I.hok p _ hk
     exact⟨o,e,ex⟩
    ·obtain⟨_,_,_,_,o,_,_,e,ex,_⟩:=I.hok p _ hk
     exact⟨o,e,ex⟩
   obtain⟨o,e,ex⟩:=z;refine⟨⟨o,e,ex.1⟩,fun a e2=>?_⟩;cases e2;exact⟨o,e,ex.2.1⟩
  ·obtain⟨o,_,_,_,e,ex,_⟩:=I.hok p _ hk
   refine⟨⟨o,e,ex.1⟩,fun a e2=>?_⟩;cases e2;exact⟨o,e,ex.2.1⟩
 | _=>exact False.elim ty
def GB (K:PySem.W.Frag)(T:String)(r:V->List V->Hp->VK->Prop)(to:TE):TE:=fun σ H Q=>to σ H fun x H1=>GP K T x H1/\r x [] H1 Q
def Hg (K:PySem.W.Frag)(T:String)(r:V->List V->Hp->VK->Prop)(to:TE)(t:TA):TE:=fun σ H Q=>to σ H fun x H1=>GP K T x H1/\t σ H1 fun xs H2=>r x xs H2 Q
variable {o e:Expr}{es:List Expr}{to:TE}{t:TA}{name:Str}{apos cpos:Pos}{T id:String}{r:V->List V->Hp->VK->Prop}
theorem BC (pa:PlainAttrs T)(slot:Slot T name id)(hty:typeOf (.builtin id)=pure (.type "method_descriptor"))(hm:GS X id r)(ho:PE X o to)
  (hbase:attributeBase o name X.env (eval o X.env)=eval o X.env:=by rfl) (hline:(apos.endLine == cpos.line)=true:=by rfl):PE X (.Call (.Attribute o name apos) [] [] cpos) (GB X.K T r to):=by
 intro pins s σ H Q I h;refine wpAny_Call_method0_late hbase hline (bc (ho pins s σ H _ I h) fun v s1 ⟨x,H1,I1,r1,ty,q1⟩=>?_);obtain⟨h1,h2⟩:=Cc I1 r1 ty;exact⟨T,id,pa,slot,hty,h1,h2,JG rfl (PySem.evalArgs_none (hm pins s1 σ H1 x [] v [] Q I1 r1 .nil q1))⟩
theorem gm (pa:PlainAttrs T)(slot:Slot T name id)(hty:typeOf (.builtin id)=pure (.type "method_descriptor"))(hm:GS X id r)(ho:PE X o to)(ha:PA X (e::es) t)
  (hbase:attributeBase o name X.env (eval o X.env)=eval o X.env:=by rfl)
  (hfew:((backTo cpos (starEach (e::es) X.env)).all (fun x=>!x.1)&&(backToKw cpos (keywordEach [] X.env)).all (fun x=>x.1.isSome)
   && decide ((e::es).length+([]:List Keyword).length+(if ([]:List Keyword).isEmpty then 0 else 1)<30))=true:=by rfl)
  (hline:(apos.endLine == cpos.line)=true:=by rfl) (hs:starEach (e::es) X.env=(false,eval e X.env)::starEach es X.env:=by rfl) (hplain:(backTo cpos (starEach es X.env)).any (·.1)=false:=by rfl) :
  PE X (.Call (.Attribute o name apos) (e::es) [] cpos) (Hg X.K T r to t):=by
 intro pins s σ H Q I h;refine wpAny_Call_method_late hbase hfew hline rfl (bc (ho pins s σ H _ I h) fun v s1 ⟨x,H1,I1,r1,ty,q1⟩=>?_);obtain⟨h1,h2⟩:=Cc I1 r1 ty;refine⟨T,id,pa,slot,hty,h1,h2,?_⟩;have hA:=ha cpos pins s1 σ H1 _ I1 q1;rw[hs]at hA ⊢;refine JG (by show (false||(backTo cpos (starEach es X.env)).any (·.1))=false;rw[hplain]<;>rfl) (Ji ?_);exact bc hA fun us s2 ⟨vs,H2,I2,r2,q2⟩=>hm pins s2 σ H2 x vs v us Q I2 r1 r2 q2
end
def F7 (X:Cx)(id:String)(r:V->List V->Hp->VK->Prop):Prop :=
 ∀ (pins:List (Addr×Obj))(s:Shared)(σ:St)(H:Hp)(x:V)(xs:List V)(v:Value)(us:List Value)(Q:VK),ax X pins σ H s->aO x v->aQ xs us->r x xs H Q ->
  wpAny (model X.prog X.w) X.A (call (.builtin id) (v::us)) (EP X pins σ Q) X.xe s
theorem aQ.one:∀ {x:V}{us:List Value},aQ [x] us->∃ u,us=[u]/\aO x u
 | _,_,.cons r .nil=>⟨_,rfl,r⟩
theorem aQ.two:∀ {x y:V}{us:List Value},aQ [x,y] us->∃ u v,us=[u,v]/\aO x u/\aO y v
 | _,_,_,.cons r (.cons q .nil)=>⟨_,_,rfl,r,q⟩
theorem aQ.zero:∀ {us:List Value},aQ [] us->us=[]
 | _,.nil=>rfl
theorem aQ.dropLast {xs:List V}{us:List Value}(h:aQ xs us):aQ xs.dropLast us.dropLast:=by
 induction h with
 | nil=>exact .nil
 | cons r t ih =>
  cases t with
  | nil=>exact .nil
  | cons q t'=>exact .cons r ih
theorem aQ.reverse {xs:List V}{us:List Value}(h:aQ xs us):aQ xs.reverse us.reverse:=by
 induction h with
 | nil=>exact .nil
 | cons r t ih=>rw[List.reverse_cons,List.reverse_cons];exact aQ.append ih (.cons r .nil)
theorem xJ {α:Type}(l:List α):l.eraseIdx (l.length-1)=l.dropLast:=by
 induction l with
 | nil=>rfl
 | cons a r ih =>
  cases r with
  | nil=>rfl
  | cons b r =>
   have e:(a::b::r).length-1=((b::r).length-1)+1:=by
    have h1:(a::b::r).length=r.length+2:=rfl;have h2:(b::r).length=r.length+1:=rfl;omega
   rw[e,List.eraseIdx_cons_succ,ih]
   all_goals rfl
section
variable {X:Cx}{pins:List (Addr×Obj)}{σ:St}{H:Hp}{s:Shared}{l b:Addr}{xs ys zs:List V}
theorem ax.lset {its its':List Value}{n:Nat}{f:Array Value->Array Value}{t':Nat}(I:ax X pins σ H s)(hH:H l=some (.lst xs))
  (e:s.heap.get? l=some { cls:=.type "list",data:=.seq its.toArray n }) (hf:f its.toArray=its'.toArray) (hv:aQ ys its') (hz:ys.length<=sizeLine) :
  ax X pins σ (upd H l (.lst ys)) { s with heap:=s.heap.update l (Obj.mapSeq f),toks:=t' }:=by
 have q:=PySem.IsL.update e f;rw[hf]at q;refine I.write (x:=l) (e:=l) (by rw[hH];exact trivial) (.inl rfl) (fun b' u hb hu=>(Heap.get?_update_other s.heap (Obj.mapSeq f) (Ik hb)).trans hu) ⟨_,q⟩ ?_;exact⟨hz,its',_,hv,q⟩
theorem ax.lnew {its:List Value}{t':Nat}(I:ax X pins σ H s)(hv:aQ ys its)(hz:ys.length<=sizeLine) :
  ax X pins σ (upd H s.heap.objs.size (.lst ys)) { s with heap:=s.heap.push { cls:=.type "list",data:=.seq its.toArray },toks:=t' } :=
 I.laid (fun _ _ q=>Heap.get?_push_of_some _ q) (Hv _) ⟨hz,its,0,hv,Heap.get?_push_size _ rfl⟩
theorem ax.fresh (I:ax X pins σ H s):H s.heap.objs.size=none:=I.hok.fresh (Hv _)
theorem ax.lstM (I:ax X pins σ H s)(hH:H l=some (.lst xs)):xs.length<=sizeLine/\∃ (its:List Value)(n:Nat),aQ xs its/\xs.length=its.length/\s.heap.get? l=some { cls:=.type "list",data:=.seq its.toArray n }:=by
 obtain⟨z,its,n,r,e⟩:=I.hok l _ hH;exact⟨z,its,n,r,r.length,e⟩
theorem Bp {n:Nat}(h:n<=sizeLine):Builtin.List.listTooLong n=false:=by
 unfold Builtin.List.listTooLong;exact Ih (by omega)
end
section
variable {X:Cx}
inductive zd (x:V) (vs:List V) (H:Hp) (Q:VK):Prop
 | mk (l:Addr) (xs:List V) (y:V) (h_0:x=.ref l) (h_1:vs=[y]) (h_2:H l=some (.lst xs)) (h_3:xs.length<sizeLine) (h_4:Q .non (upd H l (.lst (xs++[y])))):zd x vs H Q
theorem cm:F7 X "list.append" zd:=by
 intro pins s σ H x vs v us Q I rx rv h;obtain⟨l,xs,y,rfl,rfl,hH,hz,q⟩:=h;cases rx;obtain⟨u,rfl,ru⟩:=rv.one;obtain⟨z,its,n,r,hl,e⟩:=I.lstM hH;refine call_meets F.slot_list_append ⟨_,e,rfl⟩ F.entry_list_append (F.args_list_append_2 _ _) (PySem.list_append l its.toArray n u (by rw[HU];omega)) ⟨e,?_⟩;refine⟨.non,_,I.lset (its':=its++[u]) hH e (by simp) (r.append (.cons ru .nil)) ?_,rfl,q⟩;rw[Ia,IC];omega
inductive ze (x:V) (vs:List V) (H:Hp) (Q:VK):Prop
 | mk (l b:Addr) (xs zs:List V) (h_0:x=.ref l) (h_1:vs=[.ref b]) (h_2:H l=some (.lst xs)) (h_3:H b=some (.lst zs)) (h_4:xs.length+zs.length<=sizeLine) (h_5:Q .non (upd H l (.lst (xs++zs)))):ze x vs H Q
theorem tW:F7 X "list.extend" ze:=by
 intro pins s σ H x vs v us Q I rx rv h;obtain⟨l,b,xs,zs,rfl,rfl,hH,hB,hz,q⟩:=h;cases rx;obtain⟨u,rfl,ru⟩:=rv.one;cases ru;obtain⟨z,its,n,r,hl,e⟩:=I.lstM hH;obtain⟨z2,its2,n2,r2,hl2,e2⟩:=I.lstM hB
 have hsz:its.toArray.size+its2.toArray.size<=sizeLine:=by rw[HU,HU];omega
 have hlong:¬ (!its.toArray.isEmpty&&Builtin.List.listTooLong (its.toArray.size+its2.toArray.size))=true:=by
  rw[Bp hsz,Bool.and_false];exact HN
 refine call_meets F.slot_list_extend ⟨_,e,rfl⟩ F.entry_list_extend (F.args_list_extend_2 _ _)
  (AutoSeq1.list_extend_list_list_0 l its.toArray n b its2.toArray n2 hlong (by rw[HU];omega) (by omega)) ⟨e,e2,?_⟩
 refine⟨.non,_,I.lset (its':=its++its2) hH e (by simp) (r.append r2) ?_,rfl,q⟩;rw[Ia];omega
inductive Fz (x:V) (vs:List V) (H:Hp) (Q:VK):Prop
 | mk (l:Addr) (xs:List V) (y:V) (h_0:x=.ref l) (h_1:vs=[]) (h_2:H l=some (.lst xs)) (h_3:xs[xs.length-1]? = some y) (h_4:Q y (upd H l (.lst xs.dropLast))):Fz x vs H Q
theorem Bj:F7 X "list.pop" Fz:=by
 intro pins s σ H x vs v us Q I rx rv h;obtain⟨l,xs,y,rfl,rfl,hH,hy,q⟩:=h;cases rx;have hus:=rv.zero;subst hus;obtain⟨z,its,n,r,hl,e⟩:=I.lstM hH;obtain⟨u,hu,ru⟩:=r.get hy
 have hy':its.toArray[its.toArray.size-1]? = some u:=by
  show its.toArray[its.length-1]? = some u
  rw[<-Array.getElem?_toList,<-hl];exact hu
 refine call_meets F.slot_list_pop ⟨_,e,rfl⟩ F.entry_list_pop (F.args_list_pop_1 _) (MeetsSeq.list_pop_last l its.toArray n u hy' (by rw[HU];omega)) ⟨e,?_⟩;refine⟨y,_,I.lset (its':=its.dropLast) hH e ?_ r.dropLast ?_,ru,q⟩
 ·show its.toArray.eraseIdxIfInBounds (its.toArray.size-1)=its.dropLast.toArray
  rw[HU,List.eraseIdxIfInBounds_toArray,xJ]
 ·rw[IY]
  omega
inductive Fu (x:V) (y:V) (H:Hp) (Q:VK):Prop
 | mk (l b:Addr) (xs zs:List V) (h_0:x=.ref l) (h_1:y=.ref b) (h_2:H l=some (.lst xs)) (h_3:H b=some (.lst zs)) (h_4:xs.length+zs.length<=sizeLine) (h_5:∀ p,H p=none->Q (.ref p) (upd H p (.lst (xs++zs)))):Fu x y H Q
theorem Bq:ph X (binaryOp .Add) Fu:=by
 intro pins s σ H x y v u Q I rx ry h;obtain⟨l,b,xs,zs,rfl,rfl,hH,hB,hz,q⟩:=h;cases rx;cases ry;obtain⟨z,its,n,r,hl,e⟩:=I.lstM hH;obtain⟨z2,its2,n2,r2,hl2,e2⟩:=I.lstM hB;refine PySem.P.add_list e e2 ?_ (by rw[HU,HU];omega)
 have ea:its.toArray++its2.toArray=(its++its2).toArray:=by simp
 rw[ea];exact⟨.ref _,_,I.lnew (t':=s.toks) (r.append r2) (by rw[Ia];omega),rfl,q _ I.fresh⟩
end
section
variable {prog:Program}{w:World}{A:Around}{E:Value->Shared->Prop}{s:Shared}
end
section
variable {X:Cx}
end
section
variable {κ:Type} [DecidableEq κ]
def cH (kvs:List (κ×V))(k:κ):Option V:=(kvs.find? fun kv=>decide (kv.1=k)).map (·.2)
def dq (kvs:List (κ×V))(k:κ)(v:V):List (κ×V) :=
 if (kvs.any fun kv=>decide (kv.1=k))=true then kvs.map (fun kv=>if kv.1=k then (kv.1,v) else kv) else kvs++[(k,v)]
def qe (kvs:List (κ×V))(k:κ):List (κ×V):=kvs.filter fun kv=>decide (kv.1≠k)
theorem h8 {p:κ×V}{r:List (κ×V)}{k:κ}(e:p.1=k):cH (p::r) k=some p.2:=by simp[cH,List.find?_cons,e]
theorem gf {p:κ×V}{r:List (κ×V)}{k:κ}(e:¬ p.1=k):cH (p::r) k=cH r k:=by simp[cH,List.find?_cons,e]
theorem hZ (k:κ):∀ kvs:List (κ×V),(kvs.any fun kv=>decide (kv.1=k))=(cH kvs k).isSome
 | []=>rfl
 | p::r=>by
  rw[Jg]
  by_cases e:p.1=k
  ·simp only[h8 e,HY e,Bool.true_or,Option.isSome_some]
  ·rw[gf e,Ih e,Bool.false_or];exact hZ k r
theorem eC (kvs:List (κ×V))(k:κ)(v:V):(dq kvs k v).length<=kvs.length+1:=by
 unfold dq;split
 ·rw[Hs];omega
 ·rw[Ia,IN,List.length_nil];omega
theorem BR {kvs:List (κ×V)}{k:κ}(v:V)(h:cH kvs k=none):dq kvs k v=kvs++[(k,v)]:=by
 unfold dq;rw[hZ,h];exact Hu (by decide)
theorem gW.isSome_eq {o:Option V}{u:Option Value}(r:gW o u):o.isSome=u.isSome:=by
 cases o with
 | none=>cases u with
  | none=>rfl
  | some _=>exact (show False from r).elim
 | some _=>cases u with
  | none=>exact (show False from r).elim
  | some _=>rfl
theorem gW.getD {o:Option V}{u:Option Value}{d:V}{d':Value}(r:gW o u)(rd:aO d d'):aO (o.getD d) (u.getD d'):=by
 cases o with
 | none=>cases u with
  | none=>exact rd
  | some _=>exact (show False from r).elim
 | some _=>cases u with
  | none=>exact (show False from r).elim
  | some _=>exact r
theorem KV.val {kvs:List (κ×V)}{vs:List (κ×Value)}(r:KV kvs vs)(k:κ):gW (cH kvs k) (valueAt vs k):=by
 unfold KV at r
 induction r with
 | nil=>exact True.intro
 | @cons p q ps qs h t ih =>
  obtain⟨h1,h2⟩:=h
  by_cases e:p.1=k
  ·have e':q.1=k:=h1.symm.trans e
   have b:valueAt (q::qs) k=some q.2:=by simp[valueAt,List.find?_cons,e']
   rw[h8 e,b];exact h2
  ·have e':¬ q.1=k:=fun z=>e (h1.trans z)
   have b:valueAt (q::qs) k=valueAt qs k:=by simp[valueAt,List.find?_cons,e']
   rw[gf e,b];exact ih
theorem KV.any {kvs:List (κ×V)}{vs:List (κ×Value)}(r:KV kvs vs)(k:κ):(kvs.any fun kv=>decide (kv.1=k))=vs.any fun kv=>decide (kv.1=k):=by
 unfold KV at r
 induction r with
 | nil=>rfl
 | cons h t ih=>rw[Jg,Jg,ih,h.1]
theorem KV.repl {kvs:List (κ×V)}{vs:List (κ×Value)}(r:KV kvs vs)(k:κ){y:V}{u:Value}(ry:aO y u) :
  KV (kvs.map fun kv=>if kv.1=k then (kv.1,y) else kv) (vs.map fun kv=>if kv.1=k then (kv.1,u) else kv):=by
 unfold KV at r ⊢
 induction r with
 | nil=>exact .nil
 | @cons p q ps qs h t ih =>
  rw[Iw,Iw];refine .cons ?_ ih;obtain⟨h1,h2⟩:=h
  by_cases e:p.1=k
  ·rw[Hw e,Hw (h1.symm.trans e)];exact⟨h1,ry⟩
  ·rw[Hu e,Hu (fun z=>e (h1.trans z))];exact⟨h1,h2⟩
theorem KV.put {kvs:List (κ×V)}{vs:List (κ×Value)}(r:KV kvs vs)(k:κ){y:V}{u:Value}(ry:aO y u):KV (dq kvs k y) (stored vs k u):=by
 unfold dq stored;rw[r.any k]
 by_cases e:(vs.any fun kv=>decide (kv.1=k))=true
 ·rw[Hw e,Hw e];exact r.repl k ry
 ·rw[Hu e,Hu e];exact Paired.snoc r ⟨rfl,ry⟩
theorem KV.drop {kvs:List (κ×V)}{vs:List (κ×Value)}(r:KV kvs vs)(k:κ):KV (qe kvs k) (without vs k):=by
 unfold KV at r ⊢;unfold qe without
 induction r with
 | nil=>exact .nil
 | @cons p q ps qs h t ih =>
  obtain⟨h1,h2⟩:=h;rw[List.filter_cons,List.filter_cons]
  by_cases e:p.1=k
  ·have a:¬ decide (p.1≠k)=true:=by simp[e]
   have b:¬ decide (q.1≠k)=true:=by simp[h1.symm.trans e]
   rw[Hu a,Hu b];exact ih
  ·have e':¬ q.1=k:=fun z=>e (h1.trans z)
   have a:decide (p.1≠k)=true:=by simp[e]
   have b:decide (q.1≠k)=true:=by simp[e']
   rw[Hw a,Hw b];exact .cons ⟨h1,h2⟩ ih
theorem KV.keys {kvs:List (κ×V)}{vs:List (κ×Value)}(r:KV kvs vs):kvs.map (·.1)=vs.map (·.1):=by
 unfold KV at r
 induction r with
 | nil=>rfl
 | cons h t ih=>rw[Iw,Iw,ih,h.1]
theorem KV.length {kvs:List (κ×V)}{vs:List (κ×Value)}(r:KV kvs vs):kvs.length=vs.length:=Ic r
theorem AS (kvs:List (κ×V))(k:κ):(qe kvs k).length<=kvs.length:=IV _ _
end
theorem kq {P:Program}{w:World}{k:bP}{u:Value}(r:aO (kV k) u):(be P w).is k u=true:=by
 cases k with
 | inl i=>obtain⟨t,e⟩:=(show ∃ t,u=Value.int i t from r);subst e;exact wC P w i t
 | inr x=>obtain⟨t,e⟩:=(show ∃ t,u=Value.str x t from r);subst e;exact wD P w x t
theorem tO {P:Program}{w:World}:∀ {ks:List bP}{us:List Value},aQ (ks.map kV) us->ItemsAre (be P w) ks us
 | [],_,r=>by rw[List.map_nil]at r;cases r;exact .nil
 | k::ks,_,r=>by
  rw[Iw]at r
  cases r with
  | cons h t=>exact .cons (kq h) (tO t)
abbrev KT (H:Hp):List (List bP×V)->List (List bP×Addr×Value)->Prop:=Paired fun p q=>p.1=q.1/\H q.2.1=some (.tup (p.1.map kV))/\aO p.2 q.2.2
theorem KT.val {H:Hp}{kvs:List (List bP×V)}{xs:List (List bP×Addr×Value)}(r:KT H kvs xs)(k:List bP):gW (cH kvs k) ((atKey xs k).map (·.2)):=by
 induction r with
 | nil=>exact True.intro
 | @cons p q ps qs h t ih =>
  obtain⟨h1,_,h2⟩:=h
  by_cases e:p.1=k
  ·have e':q.1=k:=h1.symm.trans e
   have b:atKey (q::qs) k=some q.2:=by simp[atKey,List.find?_cons,e']
   rw[h8 e,b];exact h2
  ·have e':¬ q.1=k:=fun z=>e (h1.trans z)
   have b:atKey (q::qs) k=atKey qs k:=by simp[atKey,List.find?_cons,e']
   rw[gf e,b];exact ih
theorem KT.repl {H:Hp}{kvs:List (List bP×V)}{xs:List (List bP×Addr×Value)}(r:KT H kvs xs)(k:List bP){y:V}{u:Value}(ry:aO y u) :
  KT H (kvs.map fun kv=>if kv.1=k then (kv.1,y) else kv) (xs.map (putAt k u)):=by
 induction r with
 | nil=>exact .nil
 | @cons p q ps qs h t ih =>
  rw[Iw,Iw];refine .cons ?_ ih;obtain⟨h1,h2,h3⟩:=h;unfold putAt
  by_cases e:p.1=k
  ·rw[Hw e,Hw (h1.symm.trans e)];exact⟨h1,h2,ry⟩
  ·rw[Hu e,Hu (fun z=>e (h1.trans z))];exact⟨h1,h2,h3⟩
theorem KT.put {H:Hp}{kvs:List (List bP×V)}{xs:List (List bP×Addr×Value)}(r:KT H kvs xs)(k:List bP){b:Addr}{y:V}{u:Value}(hb:H b=some (.tup (k.map kV)))(ry:aO y u) :
  KT H (dq kvs k y) (storedH xs k b u):=by
 have e:(kvs.any fun kv=>decide (kv.1=k))=(atKey xs k).isSome:=by
  rw[hZ,(r.val k).isSome_eq,JB]
 unfold dq storedH;rw[e]
 by_cases q:(atKey xs k).isSome=true
 ·rw[Hw q,Hw q];exact r.repl k ry
 ·rw[Hu q,Hu q];exact Paired.snoc r ⟨rfl,hb,ry⟩
theorem KT.keeps {H H':Hp}{kvs:List (List bP×V)}{xs:List (List bP×Addr×Value)}(r:KT H kvs xs)(ht:∀ b ys,H b=some (.tup ys)->H' b=some (.tup ys)):KT H' kvs xs :=
 Paired.mapP r fun _ _ z=>⟨z.1,ht _ _ z.2.1,z.2.2⟩
section
variable {P:Program}{w:World}{H:Hp}{h:Heap}{a:Addr}
theorem DK {u:HO}(ok:i7 P w H h)(e:Rd H a u):bb P w H h a u:=e.ok ok
theorem qd {kvs:List (bP×V)}(ok:i7 P w H h)(e:Rd H a (.dK kvs)):kvs.length<=sizeLine/\(a == sysModules)=false/\∃ vs,KV kvs vs/\h.DictOf (be P w) a vs :=
 show bb P w H h a (.dK kvs) from DK ok e
theorem wg {kvs:List (bP×V)}(ok:i7 P w H h)(e:H a=some (.dK kvs)):kvs.length<=sizeLine/\(a == sysModules)=false/\∃ vs,KV kvs vs/\h.DictOf (be P w) a vs:=qd ok (.inl e)
theorem mV {ks:List bP}(ok:i7 P w H h)(e:H a=some (.tup (ks.map kV))):(tupleKind (be P w)).is h ks a:=by
 obtain⟨_,its,r,o,h1,h2,n,h3⟩:=(show bb P w H h a (.tup (ks.map kV)) from ok a _ e);exact⟨o,its.toArray,n,h1,h2,h3,by simpa using tO r⟩
theorem qh {kvs:List (List bP×V)}(ok:i7 P w H h)(e:Rd H a (.dT kvs)):kvs.length<=sizeLine/\(a == sysModules)=false /\
  ∃ xs,KT H kvs xs/\h.DictOfH (tupleKind (be P w)) a xs:=by
 obtain⟨z,y,xs,r,o,es,ep,h1,h2,h3,h4,h5⟩:=(show bb P w H h a (.dT kvs) from DK ok e);refine⟨z,y,xs,r,o,es,ep,h1,h2,h3,h4,fun x hx=>?_,h5⟩
 have all:∀ {l:List (List bP×V)}{m:List (List bP×Addr×Value)},KT H l m->∀ x∈m,(tupleKind (be P w)).is h x.1 x.2.1:=by
  intro l m q
  induction q with
  | nil=>intro x hx;exact nomatch hx
  | @cons p q ps qs hq t ih =>
   intro x hx;rcases HW.mp hx with e | hx
   ·subst e
    exact mV ok (by rw[<-hq.1];exact hq.2.1)
   ·exact ih x hx
 exact all r x hx
theorem Fa {kvs:List (List bP×V)}(ok:i7 P w H h)(e:H a=some (.dT kvs)):kvs.length<=sizeLine/\(a == sysModules)=false /\
  ∃ xs,KT H kvs xs/\h.DictOfH (tupleKind (be P w)) a xs:=qh ok (.inl e)
end
def bM (H:Hp)(a:Addr)(y:V)(r:Option V):Prop :=
 (∃ kvs k,Rd H a (.dK kvs)/\y=kV k/\r=cH kvs k)\/∃ kvs k b,Rd H a (.dT kvs)/\y=.ref b/\H b=some (.tup (k.map kV))/\r=cH kvs k
def gF (H:Hp)(a:Addr)(y v:V)(H':Hp):Prop :=
 (∃ kvs k,H a=some (.dK kvs)/\y=kV k/\kvs.length<sizeLine/\H'=upd H a (.dK (dq kvs k v))) \/
 ∃ kvs k b,H a=some (.dT kvs)/\y=.ref b/\H b=some (.tup (k.map kV))/\kvs.length<sizeLine/\H'=upd H a (.dT (dq kvs k v))
theorem bM.k {H:Hp}{a:Addr}{kvs:List (bP×V)}{k:bP}(e:H a=some (.dK kvs)):bM H a (kV k) (cH kvs k):=.inl ⟨kvs,k,.inl e,rfl,rfl⟩
theorem bM.t {H:Hp}{a b:Addr}{kvs:List (List bP×V)}{k:List bP}(e:H a=some (.dT kvs))(eb:H b=some (.tup (k.map kV))):bM H a (.ref b) (cH kvs k):=.inr ⟨kvs,k,b,.inl e,rfl,eb,rfl⟩
theorem gF.k {H:Hp}{a:Addr}{kvs:List (bP×V)}{k:bP}{v:V}(e:H a=some (.dK kvs))(hl:kvs.length<sizeLine):gF H a (kV k) v (upd H a (.dK (dq kvs k v))):=.inl ⟨kvs,k,e,rfl,hl,rfl⟩
theorem gF.t {H:Hp}{a b:Addr}{kvs:List (List bP×V)}{k:List bP}{v:V}(e:H a=some (.dT kvs))(eb:H b=some (.tup (k.map kV)))(hl:kvs.length<sizeLine) :
  gF H a (.ref b) v (upd H a (.dT (dq kvs k v))):=.inr ⟨kvs,k,b,e,rfl,eb,hl,rfl⟩
section
variable {X:Cx}{pins:List (Addr×Obj)}{σ:St}{H:Hp}{s:Shared}{a:Addr}{y v:V}{u r:Value}{o:Option V}{A:Around}{E:Value->Shared->Prop}
theorem ax.big (I:ax X pins σ H s):sysModules<s.heap.objs.size:=by
 have h:mainGlobals<s.heap.objs.size:=(I.mod.glob.keeps I.bk).lt;exact Nat.lt_trans (by decide) h
theorem zH {Q:Value->Shared->Prop}(hu:A.units+1<cLine)(I:ax X pins σ H s)(g:bM H a y (some v))(ry:aO y u)(h:∀ w' s',ax X pins σ H s'->aO v w'->Q w' s') :
  wpAny (model X.prog X.w) A (getItem (.ref a) u) Q E s:=by
 rcases g with ⟨kvs,k,e,ey,l⟩ | ⟨kvs,k,b,e,ey,eb,l⟩
 ·subst ey
  obtain⟨z,hd,vs,rel,dd⟩:=qd I.hok e;obtain⟨w',hw,rw'⟩:=gW.some_of (v:=v) (o:=valueAt vs k) (by rw[l];exact rel.val k);exact wpAny_getItem_of (kq ry) dd.mapOf hw (h w' _ (I.tok _) rw')
 ·subst ey
  cases (show u=Value.ref b from ry);obtain⟨z,hd,xs,rel,dd⟩:=qh I.hok e;obtain⟨w',hw,rw'⟩:=gW.some_of (v:=v) (o:=(atKey xs k).map (·.2)) (by rw[l];exact rel.val k);obtain⟨p,hp,hp2⟩:=Option.map_eq_some_iff.mp hw;refine wpAny_getItem_heap (J2 hu) (mV I.hok eb) dd hp ?_;rw[hp2];exact h w' _ (I.tok _) rw'
theorem Gf {Q:Value->Shared->Prop}(hu:A.units+1<cLine)(I:ax X pins σ H s)(g:bM H a y o)(ry:aO y u)(h:∀ s',ax X pins σ H s'->Q (.bool o.isSome) s') :
  wpAny (model X.prog X.w) A (compareOp .In u (.ref a)) Q E s:=by
 rcases g with ⟨kvs,k,e,ey,l⟩ | ⟨kvs,k,b,e,ey,eb,l⟩
 ·subst ey
  obtain⟨z,hd,vs,rel,dd⟩:=qd I.hok e;refine wpAny_in_of (kq ry) hd dd.mapOf ?_;rw[<-(rel.val k).isSome_eq,<-l];exact h _ (I.tok _)
 ·subst ey
  cases (show u=Value.ref b from ry);obtain⟨z,hd,xs,rel,dd⟩:=qh I.hok e;refine wpAny_in_heap (J2 hu) (mV I.hok eb) hd dd ?_;have q:=(rel.val k).isSome_eq;rw[JB]at q;rw[<-q,<-l];exact h _ (I.tok _)
theorem CC {Q:Value->Shared->Prop}(hu:A.units+1<cLine)(I:ax X pins σ H s)(g:bM H a y o)(ry:aO y u)(h:∀ s',ax X pins σ H s'->Q (.bool (!o.isSome)) s') :
  wpAny (model X.prog X.w) A (compareOp .NotIn u (.ref a)) Q E s:=by
 rcases g with ⟨kvs,k,e,ey,l⟩ | ⟨kvs,k,b,e,ey,eb,l⟩
 ·subst ey
  obtain⟨z,hd,vs,rel,dd⟩:=qd I.hok e;refine wpAny_notIn_of (kq ry) hd dd.mapOf ?_;rw[<-(rel.val k).isSome_eq,<-l];exact h _ (I.tok _)
 ·subst ey
  cases (show u=Value.ref b from ry);obtain⟨z,hd,xs,rel,dd⟩:=qh I.hok e;refine wpAny_notIn_heap (J2 hu) (mV I.hok eb) hd dd ?_;have q:=(rel.val k).isSome_eq;rw[JB]at q;rw[<-q,<-l];exact h _ (I.tok _)
theorem jS {h':Heap}{t':Nat}{ob:HO}(I:ax X pins σ H s)(mu:EZ (H a))(hs:Heap.SameBut a s.heap h')(he:∃ q,h'.get? a=some q)(new:bb X.prog X.w (upd H a ob) h' a ob) :
  ax X pins σ (upd H a ob) { s with heap:=h',toks:=t' } :=
 I.write (x:=a) (e:=a) mu (.inl rfl) (fun b q hb z=>(hs.2 b hb).trans z) he new
theorem qc {P:Program}{w:World}{H':Hp}{h':Heap}{kvs:List (bP×V)}{vs:List (bP×Value)}(z:kvs.length<=sizeLine)(hd:(a == sysModules)=false)(rel:KV kvs vs)(dd:h'.DictOf (be P w) a vs) :
  bb P w H' h' a (.dK kvs):=⟨z,hd,vs,rel,dd⟩
theorem zI {H':Hp}{Q:Unit->Shared->Prop}(hu:A.units+1<cLine)(I:ax X pins σ H s)(g:gF H a y v H')(ry:aO y u)(rv:aO v r)(h:∀ s',ax X pins σ H' s'->Q () s') :
  wpAny (model X.prog X.w) A (setItem (.ref a) u r) Q E s:=by
 rcases g with ⟨kvs,k,e,ey,l,eH⟩ | ⟨kvs,k,b,e,ey,eb,l,eH⟩
 ·subst ey eH
  obtain⟨z,hd,vs,rel,dd⟩:=wg I.hok e
  have hz:vs.length<=sizeLine:=by rw[<-rel.length];exact z
  have hl:(dq kvs k v).length<=sizeLine:=by have:=eC kvs k v;omega
  refine wpAny_setItem_pairs (hsz:=hz) (kq ry) dd fun h' dd' hs=>h _ ?_;have he:∃ q,h'.get? a=some q:=let ⟨q,_,_,hq,_⟩:=dd';⟨q,hq⟩;exact jS I (by rw[e];exact True.intro) hs he (qc hl hd (rel.put k rv) dd')
 ·subst ey eH
  cases (show u=Value.ref b from ry);obtain⟨z,hd,xs,rel,dd⟩:=Fa I.hok e
  have hz:xs.length<=sizeLine:=by rw[<-Ic rel];exact z
  have hl:(dq kvs k v).length<=sizeLine:=by have:=eC kvs k v;omega
  refine wpAny_setItem_heap (hsz:=hz) (J2 hu) (mV I.hok eb) dd fun h' dd' hs=>h _ ?_;obtain⟨q,es,ep,hq,h2,h3,h4,_,h5⟩:=dd';refine jS I (by rw[e];exact True.intro) hs ⟨q,hq⟩ ⟨hl,hd,_,(rel.put k eb rv).keeps fun c ys ec=>?_,q,es,ep,hq,h2,h3,h4,h5⟩;rw[ae (bY ec e (fun z=>nomatch z))];exact ec
end
section
variable {X:Cx}{pins:List (Addr×Obj)}{σ:St}{H:Hp}{s:Shared}{a:Addr}{kvs:List (bP×V)}{k:bP}{u:Value}{A:Around}{E:Value->Shared->Prop}
theorem E9 {v:V}{more:List Value}{Q:Value->Shared->Prop}(I:ax X pins σ H s)(e:H a=some (.dK kvs))(ry:aO (kV k) u)(l:cH kvs k=some v)(hm:more=[]\/∃ x,more=[x])
  (h:∀ w' s',ax X pins σ (upd H a (.dK (qe kvs k))) s'->aO v w'->Q w' s'):wpAny (model X.prog X.w) A (call (.builtin "dict.pop") (.ref a::u::more)) Q E s:=by
 obtain⟨z,hd,vs,rel,dd⟩:=wg I.hok e;obtain⟨w',hw,rw'⟩:=gW.some_of (v:=v) (o:=valueAt vs k) (by rw[<-l];exact rel.val k)
 have hp:(keyPart u).isSome=true:=by
  cases k with
  | inl i=>obtain⟨t,q⟩:=(show ∃ t,u=Value.int i t from ry);subst q;rfl
  | inr x=>obtain⟨t,q⟩:=(show ∃ t,u=Value.str x t from ry);subst q;rfl
 have ha:argsOk "dict.pop" ⟨.ref a::u::more,[]⟩:=by
  rcases hm with q | ⟨x,q⟩
  ·subst q;exact PySem.F.args_dict_pop_2 _ _
  ·subst q;exact PySem.F.args_dict_pop_3 _ _ _
 refine call_meetsIn PySem.F.slot_dict_pop dd.typeIs PySem.F.entry_dict_pop ha (meets_dict_pop_there (be X.prog X.w) a (kq ry) more hm hp)
  ⟨vs,w',dd,by rw[<-rel.length];exact z,hw,fun h' dd' hs=>h w' _ ?_ rw'⟩
 have he:∃ q,h'.get? a=some q:=let ⟨q,_,_,hq,_⟩:=dd';⟨q,hq⟩;exact jS I (by rw[e];exact True.intro) hs he (qc (Ix (AS kvs k) z) hd (rel.drop k) dd')
end
def E3 (i:Expr):Prop:=∀ ov iv,subscripted i false ov iv=operate [ov,iv] (getItem ov iv)
theorem Ds {prog:Program}{w:World}{A:Around}{E:Value->Shared->Prop}{s:Shared}{env:Env}{value slice:Expr}{pos:Pos}{T id:String}{Q:Value->Shared->Prop}
  (hl:typeLookup (.type T) "__getitem__" = pure (some (.builtin id))) (hs:E3 slice)
  (h:wpAny (model prog w) A (eval value env) (fun o s₁=>wpAny (model prog w) A (eval slice env) (fun i s₂=>s₂.TypeIs o T/\wpAny (model prog w) A (getItem o i) Q E s₂) E s₁) E s) :
  wpAny (model prog w) A (eval (.Subscript value slice pos) env) Q E s:=by
 refine Subscript_ (Il h (fun o s₁ h₁=>Il h₁ (fun i s₂ h₂=>?_) fun _ _ x=>x) fun _ _ x=>x);obtain⟨hT,h₂⟩:=h₂;unfold subscriptTail;refine Ht ?_;rw[getitemInPython_of_ne hT.not_modules];refine Ht (wpAny_specialOf hT hl ?_)
 have fin:wpAny (model prog w) A (subscripted slice false o i) (fun r s₃=>wpAny (model prog w) A (letTemporaryGo value o r >>= fun _=>pure r) Q E s₃) E s₂:=by
  rw[hs o i];exact wpAny_operating (Il h₂ (fun r s₃ h₃=>Ht (wpAny_letTemporaryGo (Hz h₃))) fun _ _ x=>x)
 first
  | exact Hz (Ht fin)
  | exact Ht (Hz (Ht fin))
  | exact Ht fin
theorem wf {X:Cx}{pins:List (Addr×Obj)}{σ:St}{H:Hp}{s:Shared}{a:Addr}{y:V}{o:Option V}(I:ax X pins σ H s)(g:bM H a y o):s.TypeIs (.ref a) "dict":=by
 rcases g with ⟨kvs,k,e,_,_⟩ | ⟨kvs,k,b,e,_,_,_⟩
 ·obtain⟨_,_,vs,_,dd⟩:=qd I.hok e
  exact dd.typeIs
 ·obtain⟨_,_,xs,_,dd⟩:=qh I.hok e
  exact dd.typeIs
inductive G1 (x y:V) (Q:VK) (H:Hp):Prop
 | mk (a:Addr) (v:V) (e:x=.ref a) (g:bM H a y (some v)) (h:Q v H):G1 x y Q H
def FF (td ty:TE):TE:=fun σ H Q=>td σ H fun x H1=>ty σ H1 fun y H2=>G1 x y Q H2
def GD (ty td:TE):TE:=fun σ H Q=>ty σ H fun y H1=>td σ H1 fun x H2=>∃ a o,x=.ref a/\bM H2 a y o/\Q (.bl o.isSome) H2
def Dv (ty td:TE):TE:=fun σ H Q=>ty σ H fun y H1=>td σ H1 fun x H2=>∃ a o,x=.ref a/\bM H2 a y o/\Q (.bl (!o.isSome)) H2
def FB (td ty tv:TE):TS:=fun D σ H=>tv σ H fun v H1=>td σ H1 fun x H2=>ty σ H2 fun y H3=>∃ a H4,x=.ref a/\gF H3 a y v H4/\D.nx σ H4
section
variable {X:Cx}{o i e value:Expr}{pos pos' tpos:Pos}{td ty tv:TE}
theorem cF (hu:X.A.units+1<cLine)(ho:PE X o td)(hi:PE X i ty)(hs:E3 i):PE X (.Subscript o i pos) (FF td ty):=by
 intro pins s σ H Q I h;refine Ds PySem.F.slot_dict_getitem.lookup hs (bc (ho pins s σ H _ I h) fun u s1 ⟨x,H1,I1,rx,q1⟩=>bc (hi pins s1 σ H1 _ I1 q1) fun iv s2 ⟨y,H2,I2,ry,a,v,ex,g,q2⟩=>?_);subst ex;obtain rfl:u=Value.ref a:=rx;exact⟨wf I2 g,zH hu I2 g ry fun w' s3 I3 rw'=>⟨v,H2,I3,rw',q2⟩⟩
theorem iH (hu:X.A.units+1<cLine)(hi:PE X i ty)(ho:PE X o td):PC X .In i o (GD ty td):=by
 intro pins s σ H Q I h;refine bc (hi pins s σ H _ I h) fun iv s1 ⟨y,H1,I1,ry,q1⟩=>bc (ho pins s1 σ H1 _ I1 q1) fun u s2 ⟨x,H2,I2,rx,a,ov,ex,g,q2⟩=>?_;subst ex;obtain rfl:u=Value.ref a:=rx;exact Gf hu I2 g ry fun s3 I3=>⟨.bl ov.isSome,H2,I3,rfl,q2⟩
theorem fG (hu:X.A.units+1<cLine)(hi:PE X i ty)(ho:PE X o td):PC X .NotIn i o (Dv ty td):=by
 intro pins s σ H Q I h;refine bc (hi pins s σ H _ I h) fun iv s1 ⟨y,H1,I1,ry,q1⟩=>bc (ho pins s1 σ H1 _ I1 q1) fun u s2 ⟨x,H2,I2,rx,a,ov,ex,g,q2⟩=>?_;subst ex;obtain rfl:u=Value.ref a:=rx;exact CC hu I2 g ry fun s3 I3=>⟨.bl (!ov.isSome),H2,I3,rfl,q2⟩
theorem cR (hu:X.A.units+1<cLine)(ho:PE X o td)(hi:PE X i ty)(hv:PE X value tv)(hs:swapsWith value (some (.Subscript o i pos')) pos.line X.env=pure false) :
  PS X (.Assign [.Subscript o i pos'] value pos) (FB td ty tv):=by
 intro pins s σ H D I h;refine wpAny_Assign_Subscript (bc (hv pins s σ H _ I h) fun r s1 ⟨v,H1,I1,rv,q1⟩=>bc (ho pins s1 σ H1 _ I1 q1) fun u s2 ⟨x,H2,I2,rx,q2⟩=>bc (hi pins s2 σ H2 _ I2 q2) fun iv s3 ⟨y,H3,I3,ry,a,H4,ex,g,q3⟩=>?_) hs;subst ex;obtain rfl:u=Value.ref a:=rx;exact zI hu I3 g ry rv fun s4 I4=>⟨σ,H4,I4,q3⟩
end
theorem lu {P:Program}{w:World}{H:Hp}(h:Heap)(hb:sysModules<h.objs.size):bb P w H (h.push { cls:=.type "dict",data:=.dict #[] }) h.objs.size (.dK []) :=
 ⟨Ip _,I0.mpr (Ik (Ib hb)),[],.nil,Heap.DictOf.new h⟩
theorem AT {P:Program}{w:World}{H:Hp}(h:Heap)(hb:sysModules<h.objs.size):bb P w H (h.push { cls:=.type "dict",data:=.dict #[] }) h.objs.size (.dT []) :=
 ⟨Ip _,I0.mpr (Ik (Ib hb)),[],.nil,_,#[],0,Heap.get?_push_size _ rfl,⟨rfl,rfl,rfl⟩,rfl,rfl,JS⟩
def EF:TE:=fun _ H Q=>∀ p,H p=none->Q (.ref p) (upd H p (.dK []))
def EG:TE:=fun _ H Q=>∀ p,H p=none->Q (.ref p) (upd H p (.dT []))
section
variable {X:Cx}{pos:Pos}
theorem fQ:PE X (.Dict [] [] pos) EF:=fun pins s σ H Q I h =>
 wpAny_Dict_empty ⟨.ref s.heap.objs.size,_,I.laid (a:=s.heap.objs.size) (o:=.dK []) (t':=s.toks) (fun _ _ q=>Heap.get?_push_of_some _ q) (Hv _) (lu s.heap I.big),rfl,h _ (I.hok.fresh (Hv _))⟩
theorem xa:PE X (.Dict [] [] pos) EG:=fun pins s σ H Q I h =>
 wpAny_Dict_empty ⟨.ref s.heap.objs.size,_,I.laid (a:=s.heap.objs.size) (o:=.dT []) (t':=s.toks) (fun _ _ q=>Heap.get?_push_of_some _ q) (Hv _) (AT s.heap I.big),rfl,h _ (I.hok.fresh (Hv _))⟩
end
def yy:List (TE×TE)->St->Hp->(List (V×V)->Hp->Prop)->Prop
 | [],_,H,Q=>Q [] H
 | (tk,tv)::r,σ,H,Q=>tk σ H fun x H1=>tv σ H1 fun y H2=>yy r σ H2 fun ps H3=>Q ((x,y)::ps) H3
abbrev VV:List (V×V)->List (Value×Value)->Prop:=Paired fun p q=>aO p.1 q.1/\aO p.2 q.2
def FV (X:Cx)(pos:Pos)(keys:List (Option Expr))(values:List Expr)(trs:List (TE×TE)):Prop :=
 ∀ (pins:List (Addr×Obj))(s:Shared)(σ:St)(H:Hp)(Q:List (V×V)->Hp->Prop),ax X pins σ H s->yy trs σ H Q ->
  wpAny (model X.prog X.w) X.A (evalPairs (pairTrees keys values X.env pos)) (fun vs s'=>∃ ps H',ax X pins σ H' s'/\VV ps vs/\Q ps H') X.xe s
theorem Dg {X:Cx}{pos:Pos}:FV X pos [] [] []:=fun pins s σ H Q I h=>pairTrees_nil_walk ⟨[],H,I,.nil,h⟩
theorem BO {X:Cx}{pos:Pos}{k v:Expr}{ks:List (Option Expr)}{vs:List Expr}{tk tv:TE}{trs:List (TE×TE)}(hk:PE X k tk)(hv:PE X v tv)(hr:FV X pos ks vs trs) :
  FV X pos (some k::ks) (v::vs) ((tk,tv)::trs):=fun pins s σ H Q I h =>
 pairTrees_cons_walk (bc (hk pins s σ H _ I h) fun u s1 ⟨x,H1,I1,rx,q1⟩=>bc (hv pins s1 σ H1 _ I1 q1) fun w2 s2 ⟨y,H2,I2,ry,q2⟩ =>
  bc (hr pins s2 σ H2 _ I2 q2) fun ws s3 ⟨ps,H3,I3,rel,q3⟩=>⟨(x,y)::ps,H3,I3,.cons ⟨rx,ry⟩ rel,q3⟩)
def m6 (kvs more:List (bP×V)):List (bP×V):=more.foldl (fun acc kv=>dq acc kv.1 kv.2) kvs
theorem KV.merge:∀ {more:List (bP×V)}{rs:List (bP×Value)}{kvs:List (bP×V)}{vs:List (bP×Value)},KV more rs->KV kvs vs->KV (m6 kvs more) (merged vs rs):=by
 intro more rs kvs vs r;unfold KV at r
 induction r generalizing kvs vs with
 | nil=>intro q;exact q
 | @cons p q ps qs h t ih =>
  intro r0
  have e:KV (dq kvs p.1 p.2) (stored vs q.1 q.2):=by
   have:=r0.put p.1 h.2;rw[<-h.1];exact this
  exact ih e
theorem kr:∀ (more kvs:List (bP×V)),(m6 kvs more).length<=kvs.length+more.length
 | [],kvs=>by show kvs.length<=kvs.length+0;omega
 | p::r,kvs=>by
  have h1:=kr r (dq kvs p.1 p.2);have h2:=eC kvs p.1 p.2
  show (m6 (dq kvs p.1 p.2) r).length<=_
  rw[IN];omega
theorem p9 {P:Program}{w:World}:∀ {kvs:List (bP×V)}{ws:List (Value×Value)},VV (kvs.map fun kv=>(kV kv.1,kv.2)) ws->∃ rs,Carries (be P w) ws rs/\KV kvs rs
 | [],_,r=>by rw[List.map_nil]at r;cases r;exact⟨[],True.intro,.nil⟩
 | p::kvs,_,r=>by
  rw[Iw]at r
  cases r with
  | @cons a b as bs h t =>
   obtain⟨rs,c,q⟩:=p9 (P:=P) (w:=w) t;obtain⟨b1,b2⟩:=b;exact⟨(p.1,b2)::rs,⟨kq h.1,rfl,c⟩,.cons ⟨rfl,h.2⟩ q⟩
def FG (trs:List (TE×TE)):TE:=fun σ H Q=>∀ p,H p=none->yy trs σ (upd H p (.dK [])) fun ps H2=>H2 p=some (.dK [])/\∃ kvs:List (bP×V),ps=kvs.map (fun kv=>(kV kv.1,kv.2))/\kvs.length<=15/\Q (.ref p) (upd H2 p (.dK (m6 [] kvs)))
theorem Db {X:Cx}{pos:Pos}{keys:List (Option Expr)}{values:List Expr}{trs:List (TE×TE)}(h:FV X pos keys values trs)(hall:keys.all (·.isSome)=true)(hl:keys.length=values.length)(h0:keys≠[])
  (h15:keys.length<=15):PE X (.Dict keys values pos) (FG trs):=by
 intro pins s σ H Q I q;have hn:=I.hok.fresh (Hv s.heap.objs.size);have I1:=I.laid (a:=s.heap.objs.size) (o:=.dK []) (h':=s.heap.push { cls:=.type "dict",data:=.dict #[] }) (t':=s.toks) (fun _ _ q=>Heap.get?_push_of_some _ q) (Hv _) (lu s.heap I.big);refine wpAny_Dict_walk (knd:=be X.prog X.w) hall hl h0 h15 (bc (h pins _ σ _ _ I1 (q _ hn)) fun ws s2 ⟨ps,H2,I2,rel,e,kvs,ep,lk,q2⟩=>?_);subst ep;obtain⟨rs,c,rk⟩:=p9 (P:=X.prog) (w:=X.w) rel;obtain⟨z,hd,vs0,r0,dd⟩:=wg I2.hok e;cases r0;refine⟨rs,c,dd,fun h' dd' hs=>⟨.ref s.heap.objs.size,_,?_,rfl,q2⟩⟩
 have hz:(m6 [] kvs).length<=sizeLine:=by
  have h1:=kr kvs [];rw[List.length_nil]at h1;rw[Jt];omega
 have he:∃ q,h'.get? s.heap.objs.size=some q:=let ⟨q,_,_,hq,_⟩:=dd';⟨q,hq⟩;exact jS I2 (by rw[e];exact True.intro) hs he (qc hz hd (rk.merge .nil) dd')
structure M1 (X:Cx)(o:Expr)(m:Str)(apos:Pos)(e:Expr)(cpos:Pos):Prop where
 base:attributeBase o m X.env (eval o X.env)=eval o X.env
 few:((backTo cpos (starEach [e] X.env)).all (fun x=>!x.1)&&(backToKw cpos (keywordEach [] X.env)).all (fun x=>x.1.isSome)
  && decide (([e]:List Expr).length+([]:List Keyword).length+(if ([]:List Keyword).isEmpty then 0 else 1)<30))=true
 line:(apos.endLine == cpos.line)=true
 trees:backTo cpos (starEach [e] X.env)=[(false,eval e X.env)]
structure M2 (X:Cx)(o:Expr)(m:Str)(apos:Pos)(e f:Expr)(cpos:Pos):Prop where
 base:attributeBase o m X.env (eval o X.env)=eval o X.env
 few:((backTo cpos (starEach [e,f] X.env)).all (fun x=>!x.1)&&(backToKw cpos (keywordEach [] X.env)).all (fun x=>x.1.isSome)
  && decide (([e,f]:List Expr).length+([]:List Keyword).length+(if ([]:List Keyword).isEmpty then 0 else 1)<30))=true
 line:(apos.endLine == cpos.line)=true
 trees:backTo cpos (starEach [e,f] X.env)=[(false,eval e X.env),(false,eval f X.env)]
def FS (H:Hp)(a:Addr):Prop:=(∃ kvs,Rd H a (.dK kvs))\/∃ kvs,Rd H a (.dT kvs)
theorem xT {X:Cx}{pins:List (Addr×Obj)}{σ:St}{H:Hp}{s:Shared}{a:Addr}(I:ax X pins σ H s)(d:FS H a) :
  s.TypeIs (.ref a) "dict"/\(∀ b,Value.ref a=.ref b->∃ ob,s.heap.get? b=some ob/\ob.dict=none)/\(a == sysModules)=false:=by
 rcases d with ⟨kvs,e⟩ | ⟨kvs,e⟩
 ·obtain⟨_,hd,vs,_,dd⟩:=qd I.hok e
  refine⟨dd.typeIs,fun b q=>?_,hd⟩;cases q;obtain⟨ob,_,_,h1,h2,_⟩:=dd;exact⟨ob,h1,h2.2.1⟩
 ·obtain⟨_,hd,xs,_,dd⟩:=qh I.hok e
  refine⟨dd.typeIs,fun b q=>?_,hd⟩;cases q;obtain⟨ob,_,_,h1,h2,_⟩:=dd;exact⟨ob,h1,h2.2.1⟩
section
variable {X:Cx}{pins:List (Addr×Obj)}{σ:St}{H:Hp}{s:Shared}{a:Addr}{y d:V}{u r:Value}{o:Option V}{A:Around}{E:Value->Shared->Prop}
theorem D3 {Q:Value->Shared->Prop}(hu:A.units+1<cLine)(I:ax X pins σ H s)(g:bM H a y o)(ry:aO y u)(rd:aO d r)(h:∀ w' s',ax X pins σ H s'->aO (o.getD d) w'->Q w' s') :
  wpAny (model X.prog X.w) A (call (.builtin "dict.get") [.ref a,u,r]) Q E s:=by
 rcases g with ⟨kvs,k,e,ey,l⟩ | ⟨kvs,k,b,e,ey,eb,l⟩
 ·subst ey
  obtain⟨z,hd,vs,rel,dd⟩:=qd I.hok e;refine call_meetsIn PySem.F.slot_dict_get dd.typeIs PySem.F.entry_dict_get (PySem.F.args_dict_get_3 _ _ _) (meets_dict_get_default (be X.prog X.w) a (kq ry) hd r) ⟨_,dd.mapOf,h _ _ (I.tok _) ?_⟩;rw[l];exact (rel.val k).getD rd
 ·subst ey
  cases (show u=Value.ref b from ry);obtain⟨z,hd,xs,rel,dd⟩:=qh I.hok e;refine call_meetsIn PySem.F.slot_dict_get dd.typeIs PySem.F.entry_dict_get (PySem.F.args_dict_get_3 _ _ _) (meetsH_dict_get_default (tupleKind (be X.prog X.w)) a b hd r) ⟨J2 hu,k,xs,mV I.hok eb,dd,h _ _ (I.tok _) ?_⟩;rw[l];exact (rel.val k).getD rd
end
def EE (td ty tx:TE):TE:=fun σ H Q=>td σ H fun x H1=>∃ a,x=.ref a/\FS H1 a/\ty σ H1 fun y H2=>tx σ H2 fun z H3=>∃ o,bM H3 a y o/\Q (o.getD z) H3
def EH (td ty:TE):TE:=fun σ H Q=>td σ H fun x H1=>∃ a,x=.ref a/\FS H1 a/\ty σ H1 fun y H2=>∃ kvs k v,H2 a=some (.dK kvs)/\y=kV k/\cH kvs k=some v/\Q v (upd H2 a (.dK (qe kvs k)))
section
variable {X:Cx}{o e f:Expr}{apos cpos:Pos}{td ty tx:TE}
theorem lV (hu:X.A.units+1<cLine)(ho:PE X o td)(he:PE X e ty)(hf:PE X f tx)(m:M2 X o "get" apos e f cpos):PE X (.Call (.Attribute o "get" apos) [e,f] [] cpos) (EE td ty tx):=by
 intro pins s σ H Q I h;refine wpAny_Call_method m.base m.few m.line PySem.F.plainAttrs_dict PySem.F.slot_dict_get PySem.F.type_dict_get (bc (ho pins s σ H _ I h) fun u s1 ⟨x,H1,I1,rx,a,ex,d,q1⟩=>?_);subst ex;obtain rfl:u=Value.ref a:=rx;obtain⟨t1,t2,_⟩:=xT I1 d;refine⟨t1,t2,?_⟩;rw[m.trees]
 refine JG rfl (Ji (IP (bc (he pins s1 σ H1 _ I1 q1) fun iv s2 ⟨y,H2,I2,ry,q2⟩ =>
  IP (bc (hf pins s2 σ H2 _ I2 q2) fun fv s3 ⟨z,H3,I3,rz,ov,g,q3⟩=>JA ?_))))
 exact D3 hu I3 g ry rz fun w' s4 I4 rw'=>⟨_,H3,I4,rw',q3⟩
theorem q8 (ho:PE X o td)(he:PE X e ty)(m:M1 X o "pop" apos e cpos):PE X (.Call (.Attribute o "pop" apos) [e] [] cpos) (EH td ty):=by
 intro pins s σ H Q I h;refine wpAny_Call_method m.base m.few m.line PySem.F.plainAttrs_dict PySem.F.slot_dict_pop PySem.F.type_dict_pop (bc (ho pins s σ H _ I h) fun u s1 ⟨x,H1,I1,rx,a,ex,d,q1⟩=>?_);subst ex;obtain rfl:u=Value.ref a:=rx;obtain⟨t1,t2,_⟩:=xT I1 d;refine⟨t1,t2,?_⟩;rw[m.trees];refine JG rfl (Ji (IP (bc (he pins s1 σ H1 _ I1 q1) fun iv s2 ⟨y,H2,I2,ry,kvs,k,v,ea,ey,l,q2⟩=>JA ?_)));subst ey;exact E9 I2 ea ry l (.inl rfl) fun w' s3 I3 rw'=>⟨v,_,I3,rw',q2⟩
end
section
variable {X:Cx}{pins:List (Addr×Obj)}{σ:St}{H:Hp}{s:Shared}{a:Addr}{kvs:List (bP×V)}{A:Around}{E:Value->Shared->Prop}
end
section
variable {X:Cx}{pins:List (Addr×Obj)}{σ:St}{H:Hp}{s:Shared}{a:Addr}{y:V}{u:Value}{A:Around}{E:Value->Shared->Prop}
end
end L2
namespace Att
open PySem PySem.W PySem.Calls PyProof.Rows
theorem oZ {P:Params}{h:Heap}:∀ (ns:List Int)(vs:List Value),WellAll P h vs (ns.map WData.int)->IntsAre vs ns:=by
 intro ns
 induction ns with
 | nil =>
  intro vs w;rw[List.map_nil]at w;cases w;exact .nil
 | cons n ns ih =>
  intro vs w;rw[Iw]at w
  cases w with
  | cons a b =>
   cases a;exact .cons _ _ (ih _ b)
theorem Au {l:OpenLaw}{n:Nat}(hn:l.most=some n){P:Params}{h:Heap}{args:List WData}{vals:List Value}
  (hpre:l.row.toRowW.claim.pre args=true) (hwl:WellAll P h vals args) :
  ∃ a vs ns,vals=[Value.ref a]/\args=[WData.list (ns.map WData.int)]/\h.get? a=some { cls:=.type "list",data:=.seq vs.toArray }/\IntsAre vs ns/\ns.length<=n:=by
 have hsh:WShape.hasAll [] args [.list .int]=true:=(pre_splitW hpre).1;have hc:l.pre.holds [] { args:=args }=true:=(pre_splitW hpre).2;obtain⟨d,r,rfl,h1,h2⟩:=hasAllW_cons hsh;obtain rfl:=hasAllW_nil h2;obtain⟨xs,rfl,h3⟩:=hasW_list h1;obtain⟨ns,rfl⟩:=items_int h3
 have hlen:ns.length<=n:=by
  unfold OpenLaw.pre at hc
  have h4:(WTm.not (.lt (.lit (.int (n:Int))) (.len (.arg 0)))).holds [] { args:=[.list (ns.map .int)] }=true:=by
   have h4:=(holds_andW hc).1;rw[hn]at h4;exact h4
  have h5:=condW_of h4 (w_not (w_lt w_lit (w_len_list (w_arg rfl))));rw[Hs]at h5;refine Nat.le_of_not_lt fun q=>?_
  have q':(n:Int)<((ns.length:Nat):Int):=by omega
  first
   | (rw[HY q']at h5;exact absurd h5 (by decide))
   | (simp at h5;omega)
 cases hwl with
 | cons w1 w2 =>
  cases w2
  cases w1 with
  | list ho hall=>exact⟨_,_,ns,rfl,rfl,ho,oZ ns _ hall,hlen⟩
theorem Al (l:OpenLaw)(args:List WData):l.row.toRowW.claim.post args (.bool true) args=true :=
 postW_of (r:=l.row.toRowW) (X:=(true == true))
  (show WShape.has [] (.bool true) .bool=true by first | rfl | decide | simp[WShape.has,WShape.arms,WShape.armsAll])
  (show (WTm.eq .res (.lit (.bool true))).value [] { args:=args,res:=some (.bool true),after:=args }=some (.bool (true == true)) from w_eq_bool (w_res rfl) w_lit) rfl
theorem attach_call {l:OpenLaw}{n:Nat}{q:Program}{loose:List Str}{XP:(Str->Option Value)->Heap->Prop}{YP:World->Heap->Prop}{d:DefRec}
  (hn:l.most=some n) (hdf:d.params.defaults=[])
  (call:∀ (w:World)(s₀ s₁:Shared)(mg mb:Str->Option Value)(fa:Addr)(o:Obj)(pm cd doc:Value)(a:Addr)(vs:List Value)(ns:List Int),
   Ground q loose [] XP w s₀ mg mb s₁.heap->YP w s₁.heap ->
   s₁.heap.get? fa=some o->o.data=.func (docDef d.name d.params d.body d.scope pm cd doc)->s₁.heap.CodeRec cd d.name->mg d.name=some (.ref fa) ->
   s₁.heap.get? a=some { cls:=.type "list",data:=.seq vs.toArray }->IntsAre vs ns->ns.length<=n->s₁.gens = #[] ->
   codeAny (model l.prog w) callerA (.call (.ref fa) ⟨[.ref a],[]⟩) (fun r s'=>r=.ok (.ret (.bool true))/\OldK s₁.heap s'.heap/\s'.os=s₁.os/\AllBare s'.gens) s₁) :
  WalkO q loose XP YP l.row.toRowW d [] (fun f vs=>PySem.call f vs):=by
 intro w s₀ s₁ mg mb G Y fa o pm cd doc dV kV ho hd hcd hD hmg hg args vals as hpre hlay hrd hwl hlo;obtain rfl:dV=.none:=Dflts.none hD hdf;obtain rfl:kV=.none:=Dflts.noKw hD;obtain⟨a,vs,ns,rfl,rfl,hobj,hints,hlen⟩:=Au hn hpre hwl;refine enter_call (Jx (call w s₀ s₁ mg mb fa o pm cd doc a vs ns G Y ho (fd_plain hd) hcd hmg hobj hints hlen hg) fun r s' hq=>?_);obtain⟨rfl,h2,h3,h4⟩:=hq;exact⟨.inl ⟨.bool true,.bool true,[],rfl,fun _=>rfl,.bool true,Al l _,fun _=>⟨List.Pairwise.nil,fun _ hm=>(nomatch hm)⟩⟩,h2,h3,h4⟩
section
variable {prog:Program}{w:World}{A:Around}{E:Value->Shared->Prop}{s:Shared}{K:Frag}
def Gq (h:Heap):Heap:={ h with objs:=#[] }
def Go (h:Heap)(L d:Addr):List (Addr×Obj):=(List.range h.objs.size).filterMap fun a=>if a=L\/a=d then none else (h.get? a).map fun o=>(a,o)
end
end Att
namespace L2
open PySem PySem.Spec PyProof.Rows
theorem uf:∀ {vs:List Value}{ns:List Int},IntsAre vs ns->aQ (ns.map V.int) vs
 | _,_,.nil=>.nil
 | _,_,.cons n t h=>.cons ⟨t,rfl⟩ (uf h)
def cB (s:Stmt)(j:Nat):Stmt:=match s with
 | .ClassDef _ _ _ body _ _ _ _ _ _ _=>body.getD j (.Pass ⟨0,0,0,0⟩)
 | _=>.Pass ⟨0,0,0,0⟩
def e9 (s:Stmt):Arguments:=match s with
 | .FunctionDef _ a _ _ _ _ _ _ _ _=>a
 | _=>{ posonlyargs:=[],args:=[],vararg:=none,kwonlyargs:=[],kw_defaults:=[],kwarg:=none,defaults:=[] }
def c8 (s:Stmt):List Stmt:=match s with
 | .FunctionDef _ _ b _ _ _ _ _ _ _=>b
 | _=>[]
def ai (s:Stmt):Scope:=match s with
 | .FunctionDef _ _ _ _ _ _ sc _ _ _=>sc
 | _=>{ kind:=.function,names:=[],isGenerator:=false,isCoroutine:=false }
abbrev cJ:rP:=fun _ _ _ _ _ _=>False
abbrev E0:XK:=fun _ _ _=>False
theorem eF {X:Cx}:dD cJ X E0:=fun _ _ _ _ _ _ _ h=>h.elim
structure dv (K:PySem.W.Frag)(x qual:Str)(st:Stmt)(f:Addr)(fd:FuncData):Prop where
 ex:∃ (oc:Value)(od:Option Addr)(kV doc pm:Value)(an:Option Addr)(cdv ct:Value)(osl:Array (Option Value)),
  fd=PySem.W.fnOf x qual (e9 st) (c8 st) (ai st) .none kV doc pm an cdv ct/\K.lookup f=some ⟨oc,od,.func fd,osl⟩/\PySem.W.codeIn K cdv qual=true
 kp:PySem.W.keepIn K (.ref f)=true
section
variable {P:Program}{w:World}{K:PySem.W.Frag}{mg:Str->Option Value}{base:Heap}
theorem dv.ok {x qual:Str}{st:Stmt}{f:Addr}{fd:FuncData}{N ps:List Str}{k:Nat}{sp:Sp}(F:dv K x qual st f fd)(S:au N ps (ai st))(len:∀ vs H Q E,sp vs H Q E->vs.length=ps.length)
  (hbody:∀ (cdv:Value)(A:Around)(outer:List Env)(s:Shared)(H:Hp)(vs:List V)(Q:VK)(E:XK),cx k (A.deeper (envOfC qual (ai st) s.heap.objs.size f cdv))->sp vs H Q E ->
   ∃ t,vR (oX cJ P w K mg base N qual (ai st) f cdv A outer s H E).nox (c8 st) t/\t { nx:=fun _ H'=>Q .non H',rt:=Q } (kA N vs) H):aS P w K mg base cJ (k+1) f fd ps sp:=by
 obtain⟨oc,od,kV,doc,pm,an,cdv,ct,osl,rfl,lk,hcd⟩:=F.ex;refine AZ lk hcd S len fun A outer s H vs Q E hr hsp=>?_;obtain⟨t,h,q⟩:=hbody cdv A outer s H vs Q E hr hsp;exact⟨t,h.nox,q⟩
theorem dv.binds {x qual:Str}{st:Stmt}{f:Addr}{fd:FuncData}{ps:List Str}(F:dv K x qual st f fd)
  (h:∀ (kV doc pm:Value)(an:Option Addr)(cdv ct:Value)(us:List Value),us.length=ps.length->bindArgs (PySem.W.fnOf x qual (e9 st) (c8 st) (ai st) .none kV doc pm an cdv ct) ⟨us,[]⟩=pure (ps.zip us)):d9 K fd ps []:=by
 obtain⟨oc,od,kV,doc,pm,an,cdv,ct,osl,rfl,lk,hcd⟩:=F.ex;exact .all (h kV doc pm an cdv ct)
theorem A1 {x qual:Str}{st:Stmt}{f:Addr}{oc:Value}{od an:Option Addr}{osl:Array (Option Value)}{kV doc pm cdv ct:Value}(l:K.lookup f=some ⟨oc,od,.func (PySem.W.fnOf x qual (e9 st) (c8 st) (ai st) .none kV doc pm an cdv ct),osl⟩)
  (c:PySem.W.codeIn K cdv qual=true) (k:PySem.W.keepIn K (.ref f)=true):dv K x qual st f (PySem.W.fnOf x qual (e9 st) (c8 st) (ai st) .none kV doc pm an cdv ct):=⟨⟨oc,od,kV,doc,pm,an,cdv,ct,osl,rfl,l,c⟩,k⟩
end
theorem cr {A:Around}{k:Nat}(hr:cx k A):A.units+1<cLine:=Js (Nat.add_le_add_left (by decide:1<=64) _) hr.units
theorem aG {n:Nat}(h:n<=1000):n<sizeLine:=Js h (by decide)
section
variable {X:Cx}
theorem pv (i:Nat){x:Str}{pos:Pos}(hN:X.N[i]? = some x:=by rfl)(hv:E7 X.env.scope x:=by first | exact Or.inl rfl | exact Or.inr (Or.inl rfl) | exact Or.inr (Or.inr rfl))(hd:(x == ("__debug__" : Str))=false:=by decide)
  (hcd:(x == ("__classdict__" : Str))=false:=by decide):PE X (.Name x pos) (B1 i):=BI hN hv hd hcd
end
theorem aR {A B:Prop}(h:B):if false=true then A else B:=by
 rw[Hu HN];exact h
theorem bZ {A B:Prop}(h:A):if true=true then A else B:=by
 rw[Hw rfl];exact h
theorem xV {c A B:Prop} [Decidable c] (h1:c->A)(h2:¬ c->B):if c then A else B:=by
 by_cases h:c
 ·rw[Hw h]
  exact h1 h
 ·rw[Hu h]
  exact h2 h
def aB (H H':Hp):Prop:=∀ b o,H b=some o->H' b=some o
theorem aB.refl (H:Hp):aB H H:=fun _ _ h=>h
theorem aB.trans {H H1 H2:Hp}(a:aB H H1)(b:aB H1 H2):aB H H2:=fun c o h=>b c o (a c o h)
theorem aB.free {H H':Hp}(e:aB H H'){l:Addr}(h:H' l=Option.none):H l=Option.none:=by
 cases q:H l with
 | none=>rfl
 | some o =>
  rw[e l o q]at h;cases h
theorem aB.seq {K:PySem.W.Frag}{H H':Hp}{a:Addr}{xs:List V}(e:aB H H')(h:aL K H a xs):aL K H' a xs:=by
 rcases h with (h | ⟨o,h⟩) | h
 ·exact .inl (.inl (e _ _ h))
 ·exact .inl (.inr ⟨o,e _ _ h⟩)
 ·exact .inr h
section
variable {κ:Type} [DecidableEq κ]
theorem lP:∀ {l:List κ}{k:κ},l.Nodup->¬ k∈l->(l++[k]).Nodup
 | [],k,_,_=>by simp
 | a::r,k,h,hk=>by
  obtain⟨h1,h2⟩:=Iz.mp h
  show (a::(r++[k])).Nodup
  refine Iz.mpr ⟨fun m=>?_,lP h2 fun m=>hk (HW.mpr (Or.inr m))⟩;rcases Ie.mp m with q | q
  ·exact h1 q
  ·exact hk (HW.mpr (Or.inl (HR.mp q).symm))
end
end L2
set_option maxHeartbeats 4000000
namespace L2
open PySem PySem.Spec PyProof.Rows
structure sV (so sc:Scope)(N N':List Str)(src:List (Option Nat)):Prop where
 kind:sc.kind=.function
 nocell:∀ y∈sc.names,y.2≠.cell
 loc:∀ y∈sc.names,y.2=.local->sc.names.lookup y.1=some .local
 fre:∀ y∈sc.names,y.2=.free->so.names.lookup y.1=some .cell\/so.names.lookup y.1=some .free
 nd:N'.Nodup
 len:src.length=N'.length
 cap:∀ p∈N'.zip src,(match p.2 with | none=>true | some j=>decide (N[j]? = some p.1/\sc.names.lookup p.1=some .free))=true
def iz (src:List (Option Nat))(σ:St):St:=src.map fun o=>o.bind fun j=>(σ[j]?).join
def cz (X:Cx)(sc:Scope)(cl:List (Str×Addr))(C:Addr)(N':List Str)(s:Shared)(H:Hp)(ex:List Addr):Cx where
 prog:=X.prog
 w:=X.w
 K:=X.K
 mg:=X.mg
 base:=X.base
 A:=X.A
 N:=N'
 s₀:=s
 H₀:=H
 env:=compEnvC sc cl C X.env
 outer:=X.stack
 stack:=X.stack
 ex:=ex
 fn:=fun _=>false
 calm:=X.calm
 pn:=[]
 xe:=fun _ _=>False
theorem iu {env:Env}:∀ (names:List (Str×NameKind))(cs:List (Str×Addr)),(∀ y∈names,y.2=.free->∃ c,env.cells.lookup y.1=some c) ->
  (∀ x c,cs.lookup x=some c->env.cells.lookup x=some c) ->
  ∃ cl:List (Str×Addr),(forIn names cs fun x r=>if (x.2 == NameKind.free)=true then (do let a <-cellOf env x.1;pure (ForInStep.yield ((x.1,a)::r))) else pure (ForInStep.yield r):Sem (List (Str×Addr)))=pure cl /\
   (∀ x c,cl.lookup x=some c->env.cells.lookup x=some c)/\(∀ x,(∃ c,cs.lookup x=some c)->∃ c,cl.lookup x=some c)/\∀ y∈names,y.2=.free->∃ c,cl.lookup y.1=some c
 | [],cs,_,h2=>⟨cs,by rw[List.forIn_nil],h2,fun _ h=>h,fun _ h=>nomatch h⟩
 | (n,k)::r,cs,h1,h2=>by
  by_cases hk:k=.free
  ·subst hk
   obtain⟨c,hc⟩:=h1 (n,.free) HV rfl
   have h2':∀ x d,((n,c)::cs).lookup x=some d->env.cells.lookup x=some d:=fun x d e=>by
    rw[IK]at e;split at e
    ·rename_i hx
     cases e
     have:x=n:=by simpa using hx
     rw[this];exact hc
    ·exact h2 x d e
   obtain⟨cl,e,q1,q2,q3⟩:=iu r ((n,c)::cs) (fun y hy=>h1 y (HL _ hy)) h2';have has:∃ d,((n,c)::cs).lookup n=some d:=⟨c,by simp⟩;refine⟨cl,?_,q1,fun x ⟨d,hd⟩=>q2 x ?_,fun y hy hf=>?_⟩
   ·rw[List.forIn_cons,<-e]
    simp[cellOf,hc]
   ·rw[IK]
    split
    ·exact⟨_,rfl⟩
    ·exact⟨d,hd⟩
   ·rcases HW.mp hy with rfl | hy
    ·exact q2 _ has
    ·exact q3 y hy hf
  ·obtain⟨cl,e,q1,q2,q3⟩:=iu r cs (fun y hy=>h1 y (HL _ hy)) h2
   have hb:(k == NameKind.free)=false:=by simpa using hk
   refine⟨cl,?_,q1,q2,fun y hy hf=>?_⟩
   ·rw[List.forIn_cons,<-e]
    simp[hb]
   ·rcases HW.mp hy with rfl | hy
    ·exact absurd hf hk
    ·exact q3 y hy hf
theorem iw {sc:Scope}{env:Env}(h:∀ y∈sc.names,y.2=.free->∃ c,env.cells.lookup y.1=some c) :
  ∃ cl:List (Str×Addr),closureFor sc env=pure cl/\(∀ x c,cl.lookup x=some c->env.cells.lookup x=some c)/\∀ y∈sc.names,y.2=.free->∃ c,cl.lookup y.1=some c:=by
 obtain⟨cl,e,q1,_,q3⟩:=iu sc.names [] h (fun x c z=>by simp at z);refine⟨cl,?_,q1,q3⟩;unfold closureFor
 show (forIn sc.names [] _ >>= fun cs=>pure cs)=_
 refine Eq.trans (JJ (fun t=>t >>= fun cs=>pure cs) (Eq.trans ?_ e)) (by simp)
 congr 1
theorem lY {env:Env}:∀ {names:List (Str×NameKind)}{x:Str},(∀ y∈names,y.2≠.cell) ->
  ((names.map fun (n,k)=>if (k == NameKind.free&&env.scope.kind == .function&&env.kindOf n == some .cell) then (n,NameKind.cell) else (n,k)).lookup x=some .cell \/
    (names.map fun (n,k)=>if (k == NameKind.free&&env.scope.kind == .function&&env.kindOf n == some .cell) then (n,NameKind.cell) else (n,k)).lookup x=some .free)->(x,NameKind.free)∈names
 | [],_,_,h=>by simp at h
 | (n,k)::r,x,hc,h=>by
  have ih:=@lY env r x (fun y hy=>hc y (HL _ hy));have h:List.lookup x ((if (k == NameKind.free&&env.scope.kind == .function&&env.kindOf n == some .cell)=true then (n,NameKind.cell) else (n,k))::_)=some .cell\/List.lookup x ((if (k == NameKind.free&&env.scope.kind == .function&&env.kindOf n == some .cell)=true then (n,NameKind.cell) else (n,k))::_)=some .free:=h
  by_cases hb:(k == NameKind.free&&env.scope.kind == .function&&env.kindOf n == some .cell)=true
  ·rw[Hw hb]at h
   cases hx:x == n with
   | true =>
    have e:x=n:=by simpa using hx
    subst e
    have:k=NameKind.free:=by
     simp only[Jd,J0]at hb;exact hb.1.1
    subst this;exact HV
   | false =>
    simp only[IK,hx]at h;exact HL _ (ih h)
  ·rw[Hu hb]at h
   cases hx:x == n with
   | true =>
    have e:x=n:=by simpa using hx
    subst e;have hk:=hc (x,k) HV;simp only[IK,beq_self_eq_true,Option.some.injEq]at h;rcases h with h | h
    ·exact absurd h hk
    ·subst h;exact HV
   | false =>
    simp only[IK,hx]at h;exact HL _ (ih h)
theorem ky {env:Env}:∀ {names:List (Str×NameKind)}{x:Str},names.lookup x=some .free ->
  ((names.map fun (n,k)=>if (k == NameKind.free&&env.scope.kind == .function&&env.kindOf n == some .cell) then (n,NameKind.cell) else (n,k)).lookup x=some .cell \/
    (names.map fun (n,k)=>if (k == NameKind.free&&env.scope.kind == .function&&env.kindOf n == some .cell) then (n,NameKind.cell) else (n,k)).lookup x=some .free)
 | [],_,h=>by simp at h
 | (n,k)::r,x,h=>by
  have ih:=@ky env r x
  show List.lookup x ((if (k == NameKind.free&&env.scope.kind == .function&&env.kindOf n == some .cell)=true then (n,NameKind.cell) else (n,k))::_)=some .cell\/List.lookup x ((if (k == NameKind.free&&env.scope.kind == .function&&env.kindOf n == some .cell)=true then (n,NameKind.cell) else (n,k))::_)=some .free
  cases hx:x == n with
  | true =>
   simp only[IK,hx,Option.some.injEq]at h;subst h
   by_cases hb:(NameKind.free == NameKind.free&&env.scope.kind == .function&&env.kindOf n == some .cell)=true
   ·rw[Hw hb];left;simp only[IK,hx]
   ·rw[Hu hb];right;simp only[IK,hx]
  | false =>
   simp only[IK,hx]at h
   by_cases hb:(k == NameKind.free&&env.scope.kind == .function&&env.kindOf n == some .cell)=true
   ·rw[Hw hb];simp only[IK,hx];exact ih h
   ·rw[Hu hb];simp only[IK,hx];exact ih h
theorem eB {prog:Program}{w:World}{A:Around}{R:Result->Shared->Prop}{s:Shared}{elt target iter:Expr}{ifs:List Expr}{scope:Scope}{pos:Pos}{it acc:Value}{env:Env}(I:Nat->Shared->Prop)
  (turn:∀ n s,I n s->wpAny (model prog w) A (pyNext it) (fun r s₁=>match r with
   | none=>R (.ok .next) s₁
   | some v=>wpAny (model prog w) A (letOwnedTupleGo target it v) (fun _ s₁'=>wpAny (model prog w) A (assign target env v) (fun _ s₂ =>
     wpAny (model prog w) A (forIn ifs true fun c r=>if r=true then do let ok <-isTrue c env (eval c env);pure (ForInStep.yield ok) else pure (ForInStep.yield r)) (fun ok s₃ =>
      if ok=true then wpAny (model prog w) A (eval elt env) (fun x s₄ =>
       wpAny (model prog w) A (call (.builtin "list.append") [acc,x]) (fun _ s₅=>∃ m,m<n/\I m s₅) (fun _ _=>False) s₄) (fun _ _=>False) s₃
      else ∃ m,m<n/\I m s₃) (fun _ _=>False) s₂) (fun _ _=>False) s₁') (fun _ _=>False) s₁) (fun _ _=>False) s)
  (n:Nat) (h:I n s) :
  codeAny (model prog w) A (.compLoop (.ListComp elt [⟨target,iter,ifs,0⟩] scope pos) 0 it acc env) R s:=by
 refine codeAny_loop rfl I (fun n s hI=>?_) n h
 show wpAny _ A ((compTurn (.ListComp elt [⟨target,iter,ifs,0⟩] scope pos) 0 it acc env).onRaise (fun x=>do noteFrame x env;theTreesLotGoes x)) _ _ s
 refine wpAny_noted ?_;rw[compTurn_list];refine Ht (IT (Ht (Il (turn n s hI) (fun r s₁ h₁=>?_) fun _ _ h'=>h'.elim)))
 cases r with
 | none=>exact Hz h₁
 | some v =>
  refine Ht (Il h₁ (fun _ s₁' h₁'=>?_) fun _ _ h'=>h'.elim);refine Ht (Il h₁' (fun _ s₂ h₂=>Ht (Il h₂ (fun ok s₃ h₃=>?_) fun _ _ h'=>h'.elim)) fun _ _ h'=>h'.elim)
  cases ok with
  | false=>exact Hz ⟨rfl,h₃⟩
  | true =>
   exact Ht (Ht (Il h₃ (fun x s₄ h₄=>Ht (Il h₄ (fun _ s₅ h₅=>Hz (Hz ⟨rfl,h₅⟩)) fun _ _ h'=>h'.elim)) fun _ _ h'=>h'.elim))
def DE (X:Cx)(ifs:List Expr)(t:TT):Prop :=
 ∀ (pins:List (Addr×Obj))(s:Shared)(σ:St)(H:Hp)(Q:Bool->Hp->Prop),ax X pins σ H s->t σ H Q ->
  wpAny (model X.prog X.w) X.A (forIn ifs true fun c r=>if r=true then do let ok <-isTrue c X.env (eval c X.env);pure (ForInStep.yield ok) else pure (ForInStep.yield r)) (TP X pins σ Q) X.xe s
def sP:TT:=fun _ H Q=>Q true H
theorem fj {X:Cx}:DE X [] sP:=fun pins s σ H Q I h=>wpAny_tests_nil ⟨H,I,h⟩
theorem gr {X:Cx}{c:Expr}{t:TT}(h:PT X c t):DE X [c] t:=fun pins s σ H Q I hq=>wpAny_tests_one (h pins s σ H Q I hq)
def Aw (tt:TT)(te:TE)(a:Addr):TS:=fun D σ H=>tt σ H fun b H1=>if b=true then te σ H1 fun y H2=>∃ ys,H2 a=some (.lst ys)/\ys.length<sizeLine/\D.nx σ (upd H2 a (.lst (ys++[y]))) else D.nx σ H1
def i8 (J:It)(g:TG)(tb:TS)(D:im)(σ:St)(H:Hp):Prop:=∃ W:Nat->Nat->St->Hp->Prop,(∃ m,W 0 m σ H)/\∀ i m σ H,W i m σ H ->
 (J.stop i H/\D.nx σ H)\/(J.go i H/\∃ N:St->Hp->Prop,(∀ σ' H',N σ' H'->∃ m',m'<m/\W (i+1) m' σ' H')/\∀ x H',J.yld i H x H'->g x σ H' fun σ2 H2=>tb { D with nx:=N,ct:=N,bk:=D.nx } σ2 H2)
def FE (wi:TI)(g:TG)(tt:TT)(te:TE)(src:List (Option Nat)):TE:=fun σ H Q=>wi σ H fun J H1=>∀ a,H1 a=none ->
 i8 J g (Aw tt te a) { nx:=fun _ H'=>Q (.ref a) H',rt:=fun _ _=>False } (iz src σ) (upd H1 a (.lst []))
theorem lE {X:Cx}{pins:List (Addr×Obj)}{σ:St}{H:Hp}{s:Shared}{sc so:Scope}{N':List Str}{src:List (Option Nat)}{cl:List (Str×Addr)}{fp:List Addr}{h':Heap}
  (I:ax X pins σ H s) (hso:X.env.scope=so) (S:sV so sc X.N N' src) (q1:∀ x c,cl.lookup x=some c->X.env.cells.lookup x=some c) (q3:∀ y∈sc.names,y.2=.free->∃ c,cl.lookup y.1=some c)
  (hf:∀ b∈fp,gU X pins H b) (hlt:∀ b∈fp,b<s.heap.objs.size) (hns:h'.Ns s.heap.objs.size fun _=>none) (hk:∀ b o,s.heap.get? b=some o->h'.get? b=some o) (tk:Nat) :
  ax (cz X sc cl s.heap.objs.size N' s H fp) [] (iz src σ) H { s with heap:=h',toks:=tk }:=by
 have hb:∀ b∈fp,b≠s.heap.objs.size/\∀ x c,cl.lookup x=some c->c≠b:=fun b z=>⟨Ib (hlt b z),fun x c e=>(hf b z).2.2.2.2.1 x c (q1 x c e)⟩
 refine⟨⟨I.ok.mod,?_,I.ok.glob,I.ok.blt,Hv _,fun x y c h1 h2=>I.ok.inj x y c (q1 _ _ h1) (q1 _ _ h2),fun x hx=>?_,fun x c hx _=>(by cases hx),I.ok.hd,I.ok.frames,.inl rfl,hb,I.bs,Ix I.ok.bsz I.sz,fun b o e z=>?_,fun b z hz=>?_,I.stack,I.stkFree⟩,
  rfl,I.bare,Un.kept hk,⟨_,hns,fun i x v h1 h2 h3=>?_⟩,fun x c e=>?_,I.hok.fresh (Hv _),fun x c e=>I.freeC x c (q1 x c e),fun p hp=>absurd (show p∈([]:List (Addr×Obj)) from hp) (by simp),I.hok.kept hk,?_⟩
 ·show (relabel sc X.env).kind=_
  exact S.kind
 ·have hx':(x,NameKind.free)∈sc.names:=lY S.nocell hx
  exact q3 _ hx' rfl
 ·rcases (hf b z).2.2.2.1 with y | y
  ·exact I.ok.noex b o e y
  ·exact absurd (Ij (HQ e) (Ix I.ok.bsz y)) (JZ _)
 ·rcases HW.mp (I.stkSub b hz) with y | y
  ·exact (hf b z).2.1 y
  ·exact (hf b z).2.2.1 y
 ·-- the captured names
  have h1':N'[i]? = some x:=h1;have h2':(iz src σ)[i]? = some (some v):=h2;unfold iz at h2';rw[List.getElem?_map]at h2'
  cases hs:src[i]? with
  | none=>rw[hs]at h2';cases h2'
  | some o =>
   rw[hs]at h2';have h2'':(o.bind fun j=>(σ[j]?).join)=some v:=Hy h2'
   cases o with
   | none=>cases h2''
   | some j =>
    have hj:(σ[j]?).join=some v:=h2''
    have hσ:σ[j]? = some (some v):=by
     cases e:σ[j]? with
     | none=>rw[e]at hj;cases hj
     | some z=>rw[e]at hj;rw[show z=some v from hj]
    have hzip:(x,some j)∈N'.zip src:=by
     have:(N'.zip src)[i]? = some (x,some j):=by
      rw[List.getElem?_zip_eq_some];exact⟨h1',hs⟩
     exact Hx this
    have hc:=IZ (S.cap _ hzip);obtain⟨hN,hfr⟩:X.N[j]? = some x/\sc.names.lookup x=some .free:=hc;have hmem:(x,NameKind.free)∈sc.names:=Ja hfr;have hvis:=S.fre _ hmem rfl;rw[<-hso]at hvis;obtain⟨m,hn,hl⟩:=I.loc;obtain⟨u,ru,lk⟩:=hl j x v hN hσ (.inr hvis);refine⟨u,ru,.inr ⟨ky hfr,?_⟩⟩;obtain⟨c,hcl⟩:=q3 _ hmem rfl;refine⟨c,hcl,?_⟩;rcases lk with ⟨k,_⟩ | ⟨_,c',e',z⟩
    ·have k:X.env.scope.names.lookup x=some .local:=k
     rcases hvis with y | y<;>(rw[k]at y;cases y)
    ·have:=q1 x c hcl
     rw[e']at this;cases this;obtain⟨ob,e1,e2⟩:=z;exact⟨ob,hk _ _ e1,e2⟩
 ·obtain⟨v,ob,e1,e2⟩:=I.cell x c (q1 x c e)
  exact⟨v,ob,hk _ _ e1,e2⟩
 ·show (iz src σ).length=N'.length
  unfold iz;rw[Hs];exact S.len
theorem ju {X:Cx}{pins:List (Addr×Obj)}{σ:St}{H:Hp}{s:Shared}{l:Addr}{xs:List V}{y:V}{u:Value}{E:Value->Shared->Prop}(I:ax X pins σ H s)(hH:H l=some (.lst xs))(hz:xs.length<sizeLine)(ru:aO y u) :
  wpAny (model X.prog X.w) X.A (call (.builtin "list.append") [.ref l,u]) (fun _ s'=>ax X pins σ (upd H l (.lst (xs++[y]))) s') E s:=by
 obtain⟨z,its,n,r,hl,e⟩:=I.lstM hH;refine call_meets F.slot_list_append ⟨_,e,rfl⟩ F.entry_list_append (F.args_list_append_2 _ _) (PySem.list_append l its.toArray n u (by rw[HU];omega)) ⟨e,?_⟩;refine I.lset (its':=its++[u]) hH e (by simp) (r.append (.cons ru .nil)) ?_;rw[Ia,IC];omega
theorem gn {X:Cx}{elt tg iter:Expr}{ifs:List Expr}{sc so:Scope}{pos:Pos}{N':List Str}{src:List (Option Nat)}{wi:TI}{g:TG}{tt:TT}{te:TE}{N:List Str}(hso:X.env.scope=so)(hXN:X.N=N)(S:sV so sc N N' src)(hc:X.calm=true)(hi:PI X tg iter wi)
  (hb:∀ (cl:List (Str×Addr))(C:Addr)(s:Shared)(H:Hp)(ex:List Addr),PG (cz X sc cl C N' s H ex) tg g/\DE (cz X sc cl C N' s H ex) ifs tt/\PE (cz X sc cl C N' s H ex) elt te)
  (hs:∀ x,foldedSetIterable iter X.env x=pure x:=by intro _;rfl):PE X (.ListComp elt [⟨tg,iter,ifs,0⟩] sc pos) (FE wi g tt te src):=by
 subst hXN;intro pins s σ H Q I h
 obtain⟨cl,hcl,q1,q3⟩:=iw (sc:=sc) (env:=X.env) fun y hy hf=>by
  have:=S.fre y hy hf;rw[<-hso]at this;exact I.ok.has y.1 this
 rw[eval_ListComp];refine wpAny_comprehension_free (use:=none) rfl hs hcl S.kind S.loc (bc (hi pins s σ H _ I h) fun v s1 h1=>bc h1 fun itv s2 h2=>?_);obtain⟨it,fp,tn,J,H2,e,I2,T,st2,f2,hR⟩:=h2;subst e;refine IM ?_
 have I3:ax X pins σ (upd H2 s2.heap.objs.size (.lst [])) { s2 with heap:=s2.heap.push { cls:=.type "list",dict:=none,data:=.seq ([]:List Value).toArray } } :=
  I2.laid (t':=s2.toks) (fun b u q=>Heap.get?_push_of_some _ q) (Hv _) ⟨Ip _,[],0,.nil,Heap.get?_push_size _ rfl⟩
 have hfr:=I2.hok.fresh (Hv s2.heap.objs.size);obtain⟨W,⟨m0,w0⟩,turn⟩:=hR _ hfr
 have flt:∀ b∈fp,b<s2.heap.objs.size:=fun b hb=>by obtain⟨o,e,_⟩:=T.obj _ _ st2 b hb;exact HQ e
 generalize hs3:({ s2 with heap:=s2.heap.push { cls:=.type "list",dict:=none,data:=.seq ([]:List Value).toArray } }:Shared)=s3 at I3 ⊢
 have e3:s3.heap=s2.heap.push { cls:=.type "list",dict:=none,data:=.seq ([]:List Value).toArray }:=by rw[<-hs3]
 have sz3:s3.heap.objs.size=s2.heap.objs.size+1:=by rw[e3,JR]
 have hf3:∀ b∈fp,gU X pins (upd H2 s2.heap.objs.size (.lst [])) b:=fun b hb=>⟨by rw[ae (Ib (flt b hb))];exact (f2 b hb).1,(f2 b hb).2⟩
 have flt3:∀ b∈fp,b<s3.heap.objs.size:=fun b hb=>by rw[sz3];exact Jn (flt b hb)
 have st3:tn 0 s3.heap:=T.keep _ _ _ st2 fun b _ o e=>by rw[e3];exact Heap.get?_push_of_some _ e
 refine JP S.nocell (by intro y hy;simp at hy) (fun h4 hns4 hsb4=>?_) S.kind;have kp4:∀ b o,s3.heap.get? b=some o->h4.get? b=some o:=fun b o e=>hsb4.extBut b o (Ib (HQ e)) (Heap.get?_push_of_some _ e);have I4:=lE (h':=h4) I3 hso S q1 q3 hf3 flt3 (by simpa using hns4) kp4 (s3.toks+([]:List (Str×Value)).length);have st4:tn 0 h4:=T.keep _ _ _ st3 fun b _ o e=>kp4 b o e;generalize hC:s3.heap.objs.size=C at I4 hns4 hsb4 ⊢;obtain⟨hg,ht,he⟩:=hb cl C s3 (upd H2 s2.heap.objs.size (.lst [])) fp
 let Y:Cx:=cz X sc cl C N' s3 (upd H2 s2.heap.objs.size (.lst [])) fp
 have loop:∀ s5:Shared,s5={ s3 with heap:=h4,toks:=s3.toks+([]:List (Str×Value)).length }->codeAny (model X.prog X.w) X.A (.compLoop (.ListComp elt [⟨tg,iter,ifs,0⟩] sc pos) 0 (.ref it) (.ref s2.heap.objs.size) (compEnvC sc cl C X.env))
   (compPost (model X.prog X.w) X.A X.xe none (EP X pins σ Q) (.ref s2.heap.objs.size) C) s5:=by
  rintro s5 rfl
  have stat:∀ {H':Hp},(∀ b∈fp,H' b=none)->∀ b∈fp,gU Y [] H' b:=fun {H'} hn b hb=>by
   obtain⟨f0,f1,f2',f3,f4,f5⟩:=hf3 b hb;refine⟨hn b hb,?_,fun z=>?_,.inl hb,fun x c e=>f4 x c (q1 x c e),fun p hp=>absurd (show p∈([]:List (Addr×Obj)) from hp) (by simp)⟩
   ·show b≠C
    rw[<-hC];exact Ib (flt3 b hb)
   ·have z:b∈gY X.stack:=z
    rcases HW.mp (I3.stkSub b z) with y | y
    ·exact f1 y
    ·exact f2' y
  refine eB (fun n s'=>∃ i σ' H',ax Y [] σ' H' s'/\tn i s'.heap/\(∀ b∈fp,H' b=none)/\W i n σ' H') ?_ m0 ⟨0,_,_,I4,st4,fun b hb=>(hf3 b hb).1,w0⟩;rintro n s6 ⟨i,σ6,H6,I6,st6,fr6,w6⟩;rcases turn i n σ6 H6 w6 with ⟨stop,qn⟩ | ⟨go,Nx,hN,step⟩
  ·refine bc (T.done Y rfl rfl rfl hc i [] s6 σ6 H6 _ I6 (stat fr6) st6 stop) fun r s7 ⟨hr,I7⟩=>?_
   subst hr;obtain⟨m,hn,_⟩:=id I7.loc;refine⟨m,hn,fun h' hsb=>?_⟩
   have neC:∀ b o,s3.heap.get? b=some o->b≠C:=fun b o e=>by rw[<-hC];exact Ib (HQ e)
   have freeC:H6 C=none:=I7.free
   have un:Un (gY X.stack) fp (upd H2 s2.heap.objs.size (.lst [])) H6 s3.heap h' :=
    ⟨fun b o e n hb hx=>(hsb.2 b (neC b o e)).trans (I7.base.keep b o e n hb hx),fun b o e n hb hx=>by
      obtain⟨sl,q⟩:=I7.base.slot b o e n hb hx
      exact⟨sl,(hsb.2 b (neC b o e)).trans q⟩,I7.base.free,fun b o e hx=>by
      obtain⟨o',q⟩:=I7.base.there b o e hx
      exact⟨o',(hsb.2 b (neC b o e)).trans q⟩,I7.base.tups,I7.base.frzs,I7.base.tbls⟩
   have hok:i7 X.prog X.w H6 h':=fun b ob e=>by
    refine (I7.hok b ob e).stay (fun c w' hc' q=>(hsb.2 c ?_).trans q) (fun _ q=>q) fun _ _ q=>q;rintro rfl;rcases hc' with z | z
    ·rw[<-z,freeC]at e;cases e
    ·rw[freeC]at z;cases z
   have J7:ax X pins σ H6 { s7 with heap:=h' }:=I3.call' (ch:=fp) (s':={ s7 with heap:=h' }) I7.os un hok I7.bare fun b hb=>⟨(hf3 b hb).2.2.2.1,(hf3 b hb).2.1,(hf3 b hb).2.2.2.2.1,(hf3 b hb).2.2.2.2.2⟩;exact⟨.ref s2.heap.objs.size,H6,J7,rfl,qn⟩
  ·refine bc (T.item Y rfl rfl rfl hc i [] s6 σ6 H6 _ I6 (stat fr6) st6 go) fun r s7 ⟨u,hr,h7⟩=>?_
   subst hr;refine bc h7 fun _ s8 ⟨x,H8,I8,r8,y8,st8,fr8⟩=>?_;have I8':=I8.pinned (stat fr8) (T.obj _ _ st8);refine bc (hg _ s8 σ6 H8 x u _ I8' r8 (step x H8 y8)) fun _ s9 ⟨σ9,H9,I9,q9⟩=>?_
   have again:∀ {s':Shared}{σ7:St}{H7:Hp},ax Y ([]++iJ fp s8.heap) σ7 H7 s'->Nx σ7 H7->∃ m,m<n/\∃ i σ' H',ax Y [] σ' H' s'/\tn i s'.heap/\(∀ b∈fp,H' b=none)/\W i m σ' H':=fun {s' σ7 H7} I7 n7=>by
    obtain⟨m',hm,w7⟩:=hN σ7 H7 n7;refine⟨m',hm,i+1,σ7,H7,I7.unpinned,T.keep _ _ _ st8 fun b hb o e=>(I7.pin (b,o) (Ig _ (Ig _ (bQ hb e)))).1,fun b hb=>?_,w7⟩;obtain⟨o,e,d⟩:=T.obj _ _ st8 b hb;exact (I7.pin (b,o) (Ig _ (Ig _ (bQ hb e)))).2.1
   refine bc (ht _ s9 σ9 H9 _ I9 q9) fun ok s10 ⟨H10,I10,q10⟩=>?_
   cases ok with
   | false =>
    rw[Hu HN]at q10 ⊢;exact again I10 q10
   | true =>
    rw[Hw rfl]at q10 ⊢;refine bc (he _ s10 σ9 H10 _ I10 q10) fun y s11 ⟨yv,H11,I11,ry,ys,hys,hlen,q11⟩=>?_;exact bc (ju (X:=Y) I11 hys hlen ry) fun _ s12 I12=>again I12 q11
 exact codeAny_compStart_list (loop _ rfl) (T.self _ 0 _ _ _ st4 (loop _ rfl))
def ED (wi:TI)(g:TG)(tt:TT)(te:TE)(src:List (Option Nat))(i:Nat):TS:=fun D σ H=>wi σ H fun J H1=>∀ a,H1 a=none ->
 i8 J g (Aw tt te a) { nx:=fun _ H'=>D.nx (σ.set i (some (.ref a))) H',rt:=fun _ _=>False } (iz src σ) (upd H1 a (.lst []))
theorem jX {X:Cx}{ix:Nat}{x:Str}{px spos:Pos}{elt tg iter:Expr}{ifs:List Expr}{sc so:Scope}{pos:Pos}{N':List Str}{src:List (Option Nat)}{wi:TI}{g:TG}{tt:TT}{te:TE}{N:List Str}(hso:X.env.scope=so)(hXN:X.N=N)(S:sV so sc N N' src)(hc:X.calm=true)(hi:PI X tg iter wi)
  (hb:∀ (cl:List (Str×Addr))(C:Addr)(s:Shared)(H:Hp)(ex:List Addr),PG (cz X sc cl C N' s H ex) tg g/\DE (cz X sc cl C N' s H ex) ifs tt/\PE (cz X sc cl C N' s H ex) elt te)
  (hnd:X.N.Nodup) (hix:X.N[ix]? = some x) (hx:X.env.scope.names.lookup x=some .local)
  (hsw:swapsWith (.ListComp elt [⟨tg,iter,ifs,0⟩] sc pos) (some (.Name x px)) spos.line X.env=pure true:=by rfl)
  (hs:∀ x,foldedSetIterable iter X.env x=pure x:=by intro _;rfl):PS X (.Assign [.Name x px] (.ListComp elt [⟨tg,iter,ifs,0⟩] sc pos) spos) (ED wi g tt te src ix):=by
 subst hXN;intro pins s σ H D I h
 obtain⟨cl,hcl,q1,q3⟩:=iw (sc:=sc) (env:=X.env) fun y hy hf=>by
  have:=S.fre y hy hf;rw[<-hso]at this;exact I.ok.has y.1 this
 rw[exec_Assign_Name_used _ _ _ _ hsw];refine Ht (IT (Ht ?_))
 show wpAny _ X.A (do let _ <-comprehension (.ListComp elt [⟨tg,iter,ifs,0⟩] sc pos) sc X.env _ (newList []) false (eval iter X.env) (some (assign (.Name x px) X.env))) _ _ s
 refine Ht (Il (wpAny_comprehension_free (use:=some (assign (.Name x px) X.env)) (Q:=fun _ s'=>SP X pins D .next s') rfl hs hcl S.kind S.loc (bc (hi pins s σ H _ I h) fun v s1 h1=>bc h1 fun itv s2 h2=>?_)) (fun _ s' hq=>Hz (Hz hq)) fun _ _ e=>e);obtain⟨it,fp,tn,J,H2,e,I2,T,st2,f2,hR⟩:=h2;subst e;refine IM ?_
 have I3:ax X pins σ (upd H2 s2.heap.objs.size (.lst [])) { s2 with heap:=s2.heap.push { cls:=.type "list",dict:=none,data:=.seq ([]:List Value).toArray } } :=
  I2.laid (t':=s2.toks) (fun b u q=>Heap.get?_push_of_some _ q) (Hv _) ⟨Ip _,[],0,.nil,Heap.get?_push_size _ rfl⟩
 have hfr:=I2.hok.fresh (Hv s2.heap.objs.size);obtain⟨W,⟨m0,w0⟩,turn⟩:=hR _ hfr
 have flt:∀ b∈fp,b<s2.heap.objs.size:=fun b hb=>by obtain⟨o,e,_⟩:=T.obj _ _ st2 b hb;exact HQ e
 generalize hs3:({ s2 with heap:=s2.heap.push { cls:=.type "list",dict:=none,data:=.seq ([]:List Value).toArray } }:Shared)=s3 at I3 ⊢
 have e3:s3.heap=s2.heap.push { cls:=.type "list",dict:=none,data:=.seq ([]:List Value).toArray }:=by rw[<-hs3]
 have sz3:s3.heap.objs.size=s2.heap.objs.size+1:=by rw[e3,JR]
 have hf3:∀ b∈fp,gU X pins (upd H2 s2.heap.objs.size (.lst [])) b:=fun b hb=>⟨by rw[ae (Ib (flt b hb))];exact (f2 b hb).1,(f2 b hb).2⟩
 have flt3:∀ b∈fp,b<s3.heap.objs.size:=fun b hb=>by rw[sz3];exact Jn (flt b hb)
 have st3:tn 0 s3.heap:=T.keep _ _ _ st2 fun b _ o e=>by rw[e3];exact Heap.get?_push_of_some _ e
 refine JP S.nocell (by intro y hy;simp at hy) (fun h4 hns4 hsb4=>?_) S.kind;have kp4:∀ b o,s3.heap.get? b=some o->h4.get? b=some o:=fun b o e=>hsb4.extBut b o (Ib (HQ e)) (Heap.get?_push_of_some _ e);have I4:=lE (h':=h4) I3 hso S q1 q3 hf3 flt3 (by simpa using hns4) kp4 (s3.toks+([]:List (Str×Value)).length);have st4:tn 0 h4:=T.keep _ _ _ st3 fun b _ o e=>kp4 b o e;generalize hC:s3.heap.objs.size=C at I4 hns4 hsb4 ⊢;obtain⟨hg,ht,he⟩:=hb cl C s3 (upd H2 s2.heap.objs.size (.lst [])) fp
 let Y:Cx:=cz X sc cl C N' s3 (upd H2 s2.heap.objs.size (.lst [])) fp
 have loop:∀ s5:Shared,s5={ s3 with heap:=h4,toks:=s3.toks+([]:List (Str×Value)).length }->codeAny (model X.prog X.w) X.A (.compLoop (.ListComp elt [⟨tg,iter,ifs,0⟩] sc pos) 0 (.ref it) (.ref s2.heap.objs.size) (compEnvC sc cl C X.env))
   (compPost (model X.prog X.w) X.A X.xe (some (assign (.Name x px) X.env)) (fun _ s'=>SP X pins D .next s') (.ref s2.heap.objs.size) C) s5:=by
  rintro s5 rfl
  have stat:∀ {H':Hp},(∀ b∈fp,H' b=none)->∀ b∈fp,gU Y [] H' b:=fun {H'} hn b hb=>by
   obtain⟨f0,f1,f2',f3,f4,f5⟩:=hf3 b hb;refine⟨hn b hb,?_,fun z=>?_,.inl hb,fun x c e=>f4 x c (q1 x c e),fun p hp=>absurd (show p∈([]:List (Addr×Obj)) from hp) (by simp)⟩
   ·show b≠C
    rw[<-hC];exact Ib (flt3 b hb)
   ·have z:b∈gY X.stack:=z
    rcases HW.mp (I3.stkSub b z) with y | y
    ·exact f1 y
    ·exact f2' y
  refine eB (fun n s'=>∃ i σ' H',ax Y [] σ' H' s'/\tn i s'.heap/\(∀ b∈fp,H' b=none)/\W i n σ' H') ?_ m0 ⟨0,_,_,I4,st4,fun b hb=>(hf3 b hb).1,w0⟩;rintro n s6 ⟨i,σ6,H6,I6,st6,fr6,w6⟩;rcases turn i n σ6 H6 w6 with ⟨stop,qn⟩ | ⟨go,Nx,hN,step⟩
  ·refine bc (T.done Y rfl rfl rfl hc i [] s6 σ6 H6 _ I6 (stat fr6) st6 stop) fun r s7 ⟨hr,I7⟩=>?_
   subst hr;obtain⟨m,hn,_⟩:=id I7.loc;have freeC:H6 C=none:=I7.free;have J7:ax X pins σ H6 s7:=I3.call' (ch:=fp) (s':=s7) I7.os I7.base I7.hok I7.bare fun b hb=>⟨(hf3 b hb).2.2.2.1,(hf3 b hb).2.1,(hf3 b hb).2.2.2.2.1,(hf3 b hb).2.2.2.2.2⟩
   have hC3:∀ b o,s3.heap.get? b=some o->b≠C:=fun b o e=>by rw[<-hC];exact Ib (HQ e)
   have hlC:X.env.locals≠C:=by obtain⟨m3,⟨o3,_,_,e3',_⟩,_⟩:=I3.loc;exact hC3 _ _ e3'
   have hcC:∀ y c,X.env.cells.lookup y=some c->c≠C:=fun y c e=>by obtain⟨v3,o3,e3',_⟩:=I3.cell y c e;exact hC3 _ _ e3'
   have hpC:∀ p∈X.pn++pins,p.1≠C:=fun p hp=>hC3 _ _ (I3.pin p hp).1;refine wpAny_assign_Name (nU (i:=ix) (v:=.ref s2.heap.objs.size) J7 hnd hix (.inl hx) rfl (fun s8 I8 ⟨a8,sb8,ha8⟩=>?_) (.inr hx))
   have ha8C:C≠a8:=by
    rcases ha8 with z | z
    ·rw[z];exact Ik hlC
    ·exact Ik (hcC _ _ z)
   refine⟨m,hn.sameBut sb8 ha8C,fun h' hsb=>?_⟩
   have I9:ax X pins (σ.set ix (some (.ref s2.heap.objs.size))) H6 { s8 with heap:=h' } :=
    I8.turned (it:=C) (t':=s8.toks) (fun b o hb e=>(hsb.2 b hb).trans e) freeC (Ik hlC) (.inr (by rw[<-hC];exact I3.sz)) hcC hpC
   exact⟨_,H6,I9,qn⟩
  ·refine bc (T.item Y rfl rfl rfl hc i [] s6 σ6 H6 _ I6 (stat fr6) st6 go) fun r s7 ⟨u,hr,h7⟩=>?_
   subst hr;refine bc h7 fun _ s8 ⟨x,H8,I8,r8,y8,st8,fr8⟩=>?_;have I8':=I8.pinned (stat fr8) (T.obj _ _ st8);refine bc (hg _ s8 σ6 H8 x u _ I8' r8 (step x H8 y8)) fun _ s9 ⟨σ9,H9,I9,q9⟩=>?_
   have again:∀ {s':Shared}{σ7:St}{H7:Hp},ax Y ([]++iJ fp s8.heap) σ7 H7 s'->Nx σ7 H7->∃ m,m<n/\∃ i σ' H',ax Y [] σ' H' s'/\tn i s'.heap/\(∀ b∈fp,H' b=none)/\W i m σ' H':=fun {s' σ7 H7} I7 n7=>by
    obtain⟨m',hm,w7⟩:=hN σ7 H7 n7;refine⟨m',hm,i+1,σ7,H7,I7.unpinned,T.keep _ _ _ st8 fun b hb o e=>(I7.pin (b,o) (Ig _ (Ig _ (bQ hb e)))).1,fun b hb=>?_,w7⟩;obtain⟨o,e,d⟩:=T.obj _ _ st8 b hb;exact (I7.pin (b,o) (Ig _ (Ig _ (bQ hb e)))).2.1
   refine bc (ht _ s9 σ9 H9 _ I9 q9) fun ok s10 ⟨H10,I10,q10⟩=>?_
   cases ok with
   | false =>
    rw[Hu HN]at q10 ⊢;exact again I10 q10
   | true =>
    rw[Hw rfl]at q10 ⊢;refine bc (he _ s10 σ9 H10 _ I10 q10) fun y s11 ⟨yv,H11,I11,ry,ys,hys,hlen,q11⟩=>?_;exact bc (ju (X:=Y) I11 hys hlen ry) fun _ s12 I12=>again I12 q11
 exact codeAny_compStart_list (loop _ rfl) (T.self _ 0 _ _ _ st4 (loop _ rfl))
section
variable {X:Cx}
def ET (i j:Int):Prop:=0<j/\j<1152921504606846976
theorem Br:ph X (binaryOp .FloorDiv) (rI ET fun i j=>.int (i/j)):=Fj fun i j _ _ _ _ _ hc q=>by
 have h1:(0:Int)<j:=hc.1;have h2:j<1152921504606846976:=hc.2;refine floordiv_int (by omega) (by rw[Int.fdiv_eq_ediv_of_nonneg i (by omega)];exact q) (.inl (PyProof.noPylong_of_log2 ?_))
 have h0:j.natAbs≠0:=by omega
 have:j.natAbs.log2<60:=(Nat.log2_lt h0).mpr (by omega);omega
theorem p8:eX X (.builtin "isinstance") (fun xs H Q=>∃ x T t b,xs=[x,.ty T]/\j4 X.K H x t/\PySem.W.kitOne X.K t (.type T)=some b/\Q (.bl b) H):=by
 intro pins s σ H xs us Q I r h;obtain⟨x,T,t,b,rfl,ty,e,q⟩:=h
 cases r with
 | cons rx r2 =>
  cases r2 with
  | cons rt r3 =>
   cases r3;cases rt;exact zQ I rx ty e fun tk=>⟨.bl b,H,I.tok tk,rfl,q⟩
theorem oU {A:Around}{bs:List Bool}{its:List Value}(r:aQ (bs.map V.bl) its) :
  TruthOf X.prog X.w A (fun i v=>its.toArray[i]? = some v) (fun i=>bs.getD i false):=by
 intro i v s Q E hv hq
 have hv':its[i]? = some v:=by simpa using hv
 have hi:i<its.length:=(List.getElem?_eq_some_iff.mp hv').1;have hl:=r.length;rw[Hs]at hl;obtain⟨u,hu,ru⟩:=r.get (i:=i) (x:=V.bl (bs[i]'(by omega))) (by rw[List.getElem?_map,List.getElem?_eq_getElem (by omega)];rfl);rw[hv']at hu;cases hu;cases ru
 have e:bs.getD i false=bs[i]'(by omega):=by simp[List.getD,List.getElem?_eq_getElem (show i<bs.length by omega)]
 have hq':Q (bs.getD i false) s:=hq;rw[e]at hq';exact Jm hq'
theorem An (bs:List Bool):(List.range bs.length).all (fun i=>bs.getD i false)=bs.all id:=by
 have h:(List.range bs.length).map (fun i=>bs.getD i false)=bs:=by
  apply List.ext_getElem
  ·simp
  ·intro i h1 h2;simp[List.getD,List.getElem?_eq_getElem h2]
 have e:(List.range bs.length).all (fun i=>bs.getD i false)=((List.range bs.length).map (fun i=>bs.getD i false)).all id:=by rw[List.all_map];rfl
 rw[e,h]
theorem Ao (bs:List Bool):(List.range bs.length).any (fun i=>bs.getD i false)=bs.any id:=by
 have h:(List.range bs.length).map (fun i=>bs.getD i false)=bs:=by
  apply List.ext_getElem
  ·simp
  ·intro i h1 h2;simp[List.getD,List.getElem?_eq_getElem h2]
 have e:(List.range bs.length).any (fun i=>bs.getD i false)=((List.range bs.length).map (fun i=>bs.getD i false)).any id:=by rw[J8];rfl
 rw[e,h]
theorem tV {pins:List (Addr×Obj)}{σ:St}{H:Hp}{s:Shared}{A:Around}{E:Value->Shared->Prop}{p:Addr}{xs:List V}{its:List Value}{R:Value->Shared->Prop}(I:ax X pins σ H s)(hA:A.handled=none)(pl:PlainL s.heap p its.toArray)
  (h:∀ (I':Addr)(St:Nat->Heap->Prop)(s2:Shared),s2.heap.objs.size=s.heap.objs.size+1->I'=s.heap.objs.size->Walks X.prog X.w A I' [I',p] [I'] its.length (fun i v=>its.toArray[i]? = some v) St->St 0 s2.heap->(∀ b o,s.heap.get? b=some o->s2.heap.get? b=some o)->(∀ h' tk,(∀ b o,b∉[I']->s2.heap.get? b=some o->h'.get? b=some o)->ax X pins σ H { s2 with heap:=h',toks:=tk })->R (.ref I') s2) :
  wpAny (model X.prog X.w) A (pyIter (.ref p)) R E s:=by
 refine wpAny_pyIter_list pl.isList ?_
 have hlt:p<s.heap.objs.size:=by obtain⟨o,n,e,_⟩:=pl;exact HQ e
 have W:=Walks.list (prog:=X.prog) (w:=X.w) hA s.heap.objs.size p (Ib hlt) its.toArray;rw[HU]at W;refine h _ _ _ (by rw[JR]) rfl W ⟨⟨_,Heap.get?_push_size _ rfl,rfl,rfl⟩,pl.isList.at fun o e=>Heap.get?_push_of_some _ e⟩ (fun b o e=>Heap.get?_push_of_some _ e) fun h' tk kp=>?_;exact I.kept (t':=tk) fun b o e=>kp b o (by simpa using Ib (HQ e)) (Heap.get?_push_of_some _ e)
theorem tF (hc:X.calm=true):eX X (.builtin "all") (fun xs H Q=>∃ (p:Addr)(bs:List Bool),xs=[.ref p]/\aL X.K H p (bs.map V.bl)/\Q (.bl (bs.all id)) H):=by
 intro pins s σ H xs us Q I r h;obtain⟨p,bs,rfl,hq,q⟩:=h;obtain⟨u,rfl,rx⟩:=jP r;cases rx;obtain⟨its,rv,pl,hz⟩:=I.list hq;have hl:=rv.length;rw[Hs]at hl;refine call_all_walk (tV (xs:=bs.map V.bl) I (I.ok.hd hc) pl fun I' St s2 hs2 hI W st kp fin=>?_);refine⟨I',_,_,_,_,St,_,rfl,W,st,oU rv,fun h' tk k=>⟨.bl _,H,fin h' tk k,rfl,?_⟩⟩;rw[<-hl,An];exact q
theorem tI (hc:X.calm=true):eX X (.builtin "any") (fun xs H Q=>∃ (p:Addr)(bs:List Bool),xs=[.ref p]/\aL X.K H p (bs.map V.bl)/\Q (.bl (bs.any id)) H):=by
 intro pins s σ H xs us Q I r h;obtain⟨p,bs,rfl,hq,q⟩:=h;obtain⟨u,rfl,rx⟩:=jP r;cases rx;obtain⟨its,rv,pl,hz⟩:=I.list hq;have hl:=rv.length;rw[Hs]at hl;refine call_any_walk (tV (xs:=bs.map V.bl) I (I.ok.hd hc) pl fun I' St s2 hs2 hI W st kp fin=>?_);refine⟨I',_,_,_,_,St,_,rfl,W,st,oU rv,fun h' tk k=>⟨.bl _,H,fin h' tk k,rfl,?_⟩⟩;rw[<-hl,Ao];exact q
theorem fe:∀ {ns:List Int}{us:List Value},aQ (ns.map V.int) us->IntsAre us ns
 | [],_,r=>by cases r;exact IntsAre.nil
 | n::ns,_,r=>by
  cases r with
  | cons r t=>obtain⟨tk,rfl⟩:=r;exact IntsAre.cons _ _ (fe t)
theorem mG:∀ {ns:List Int}{us:List Value},IntsAre us ns->aQ (ns.map V.int) us:=by
 intro ns
 induction ns with
 | nil=>intro us h;cases h;exact .nil
 | cons n ns ih =>
  intro us h
  cases h with
  | cons _ _ t=>exact .cons ⟨_,rfl⟩ (ih t)
def aD:List Int->List Int:=fun l=>l.mergeSort (fun a b=>decide (a<=b))
theorem oS {l m:List Int}(hp:m.Perm l)(hs:m.Pairwise (·<=·)):m=aD l:=by
 have h1:(aD l).Pairwise (fun a b=>decide (a<=b)=true):=List.pairwise_mergeSort (by intro a b c;simp;omega) (by intro a b;simp;omega) l;have h2:(aD l).Pairwise (·<=·):=h1.imp (by simp);have h3:m.Perm (aD l):=hp.trans (JX l _).symm;exact h3.eq_of_pairwise (fun a b _ _ h1 h2=>Int.le_antisymm h1 h2) hs h2
theorem uv:eX X (.builtin "sorted") (fun xs H Q=>∃ (p:Addr)(ns:List Int),xs=[.ref p]/\aL X.K H p (ns.map V.int)/\ns.length<64/\∀ l,H l=none->Q (.ref l) (upd H l (.lst ((aD ns).map V.int)))):=by
 intro pins s σ H xs us Q I r h;obtain⟨p,ns,rfl,hq,h64,q⟩:=h;obtain⟨u,rfl,rx⟩:=jP r;cases rx;obtain⟨its,rv,pl,hz⟩:=I.list hq;have hl:=rv.length;rw[Hs]at hl;refine sorted_ints pl.isList (fe rv) (by omega) fun out ns' a1 a2 a3=>?_;obtain⟨e,he⟩:=sortedAll_at s.heap its out;have hsz:s.heap.objs.size<=s.heap.objs.size+1:=Nat.le_succ _;have en:ns'=aD ns:=oS a2 a3;subst en;refine⟨.ref (s.heap.objs.size+1),_,I.laid (t':=s.toks) (fun b o e=>sortedAll_old e) hsz (show bb X.prog X.w _ _ _ (.lst ((aD ns).map V.int)) from ⟨?_,out.toList,e,mG a1,by simpa using he⟩),rfl,q _ (I.hok.fresh hsz)⟩;have:=a2.length_eq;rw[Hs];have:=hz;rw[Hs]at this;omega
theorem vK:∀ {xs:List V}{us:List Value},xs.length=us.length->(∀ (i:Nat) x u,xs[i]? = some x->us[i]? = some u->aO x u)->aQ xs us
 | [],[],_,_=>.nil
 | x::xs,u::us,hl,h=>.cons (h 0 x u rfl rfl) (vK (by simpa using hl) fun i y v e1 e2=>h (i+1) y v (by simpa using e1) (by simpa using e2))
 | [],_::_,hl,_=>by simp at hl
 | _::_,[],hl,_=>by simp at hl
theorem c7 (hc:X.calm=true):eX X (.builtin "sorted") (fun xs H Q=>∃ (p:Addr)(kvs:List (bP×V))(ns:List Int),xs=[.ref p]/\H p=some (.dK kvs)/\kvs.map (·.1)=ns.map Sum.inl/\ns.length<64/\∀ l,H l=none->Q (.ref l) (upd H l (.lst ((aD ns).map V.int)))):=by
 intro pins s σ H xs us Q I r h;obtain⟨p,kvs,ns,rfl,hH,hk,h64,q⟩:=h;obtain⟨u,rfl,rx⟩:=jP r;cases rx;obtain⟨hz,lo,vs,rel,dd⟩:=(show bb X.prog X.w H s.heap p (.dK kvs) from I.hok p _ hH);obtain⟨ep,hat⟩:=dd.dictAt
 have hlk:kvs.length=ns.length:=by have:=JJ List.length hk;simpa using this
 have hlv:kvs.length=vs.length:=Ic rel;refine PySem.Calls.call_function_entry kind_sorted plain_sorted entry_sorted (args_sorted1 _) ?_;unfold Builtin.«sorted»;refine Ht (m:=checkCount "sorted" 1 1 _) (Hz ?_);refine Ht (PySem.W.kdu_collect (A:=X.A.in1) (PySem.W.kdl_dict (knd:=be X.prog X.w) (kvs:=vs) (ep:=ep) lo) (I.ok.hd hc) hat (by rw[<-hlv];exact hz) fun h' tk acc kp hacc=>?_)
 have hal:acc.toList.length=vs.length:=by rw[Jp];exact hacc.1
 refine Ht (wpAny_newList ?_ (by rw[hal,<-hlv];exact hz))
 have rI:aQ (ns.map V.int) acc.toList:=vK (by rw[Hs,hal];omega) fun i x v e1 e2=>by
  obtain⟨k,y,hx,hks⟩:=hacc.2 i v (by rw[<-Array.getElem?_toList];exact e2)
  have e3:(vs.map (·.1))[i]? = some k:=by rw[List.getElem?_map,hx];rfl
  rw[<-rel.keys,hk,List.getElem?_map]at e3;rw[List.getElem?_map]at e1
  cases en:ns[i]? with
  | none=>rw[en]at e1;cases e1
  | some n =>
   rw[en]at e1 e3;have e1':V.int n=x:=Hy e1;subst e1';have e4:(Sum.inl n:bP)=k:=Hy e3;subst e4;rcases bK (k:=Sum.inl n) (v:=v) hks with ⟨j,t,ej,ev⟩ | ⟨j,t,ej,_⟩
   ·cases ej;exact⟨t,ev⟩
   ·cases ej
 have hoL:(h'.push (seqObj "list" acc.toList.toArray 0)).get? h'.objs.size=some (seqObj "list" acc.toList.toArray 0):=Heap.get?_push_size _ rfl;refine Ht (Jf (JU slot_list_sort ⟨_,hoL,rfl⟩ entry_list_sort (list_sort_tree hoL (fe rI) (by rw[hal];omega) fun out ns' a1 a2 a3=>⟨_,rfl,?_⟩) (args_list_sort _)));refine Hz ⟨_,rfl,?_⟩;have en:ns'=aD ns:=oS a2 a3;subst en;obtain⟨e,he⟩:=sortedHeap_at (vs:=acc.toList) (out:=out) hoL;have I1:ax X pins σ H { s with heap:=h',toks:=tk }:=I.kept kp;refine⟨.ref h'.objs.size,_,I1.laid (t':=tk) (a:=h'.objs.size) (o:=.lst ((aD ns).map V.int)) (fun b o e=>?_) (Hv _) ⟨?_,out.toList,e,mG a1,by simpa using he⟩,rfl,q _ (I1.hok.fresh (Hv _))⟩
 ·rw[sortedHeap_old (Ib (HQ e)) (by rw[size_push'];exact Jn (HQ e))]
  exact Heap.get?_push_of_some _ e
 ·have:=a2.length_eq
  rw[Hs];omega
end
inductive Dt where
 | at (v:V)
 | sq (tup:Bool) (ds:List Dt)
def jx:V->Bool
 | .non=>true
 | .int _=>true
 | .str _=>true
 | _=>false
theorem qm {v:V}(h:jx v=true):jy v=true:=by cases v<;>first | rfl | cases h
theorem CG {x y:V}(hx:jx x=true)(hy:jx y=true):xI x y=true↔x=y:=by
 cases x<;>cases y<;>first | (cases hx;done) | (cases hy;done) | simp[xI]
def oW (K:PySem.W.Frag)(H:Hp)(t:Bool)(a:Addr)(xs:List V):Prop:=if t=true then dC K H a xs else aL K H a xs
def RD (K:PySem.W.Frag)(H:Hp):Nat->V->Dt->Prop
 | 0,v,d=>jx v=true/\d=.at v
 | n+1,v,d=>(jx v=true/\d=.at v)\/∃ a t xs ds,v=.ref a/\d=.sq t ds/\oW K H t a xs/\Paired (RD K H n) xs ds
theorem RD.flat {K:PySem.W.Frag}{H:Hp}{v:V}(h:jx v=true):∀ n,RD K H n v (.at v)
 | 0=>⟨h,rfl⟩
 | _+1=>.inl ⟨h,rfl⟩
theorem RD.lst {K:PySem.W.Frag}{H:Hp}{a:Addr}{xs:List V}{ds:List Dt}{n:Nat}(h:aL K H a xs)(r:Paired (RD K H n) xs ds):RD K H (n+1) (.ref a) (.sq false ds) :=
 .inr ⟨a,false,xs,ds,rfl,rfl,by unfold oW;rw[Hu HN];exact h,r⟩
theorem RD.tup {K:PySem.W.Frag}{H:Hp}{a:Addr}{xs:List V}{ds:List Dt}{n:Nat}(h:dC K H a xs)(r:Paired (RD K H n) xs ds):RD K H (n+1) (.ref a) (.sq true ds) :=
 .inr ⟨a,true,xs,ds,rfl,rfl,by unfold oW;rw[Hw rfl];exact h,r⟩
section
variable {X:Cx}{pins:List (Addr×Obj)}{σ:St}{H:Hp}{s:Shared}
theorem RD.inj (I:ax X pins σ H s):∀ {n m:Nat}{v:V}{d e:Dt},RD X.K H n v d->RD X.K H m v e->d=e:=by
 intro n
 induction n with
 | zero =>
  intro m v d e h1 h2;obtain⟨f,rfl⟩:=h1
  cases m with
  | zero=>exact h2.2.symm
  | succ m =>
   rcases h2 with h2 | ⟨a,t,xs,ds,rfl,_⟩
   ·exact h2.2.symm
   ·cases f
 | succ n ih =>
  intro m v d e h1 h2;rcases h1 with h1 | ⟨a,t,xs,ds,rfl,rfl,q,r⟩
  ·obtain⟨f,rfl⟩:=h1
   cases m with
   | zero=>exact h2.2.symm
   | succ m =>
    rcases h2 with h2 | ⟨a,t,xs,ds,rfl,_⟩
    ·exact h2.2.symm
    ·cases f
  ·cases m with
   | zero=>cases h2.1
   | succ m =>
    rcases h2 with h2 | ⟨a',t',xs',ds',ea,rfl,q',r'⟩
    ·cases h2.1
    ·cases ea
     have pr:∀ {l:List V}{l1 l2:List Dt},Paired (RD X.K H n) l l1->Paired (RD X.K H m) l l2->l1=l2:=by
      intro l
      induction l with
      | nil=>intro l1 l2 p1 p2;cases p1;cases p2;rfl
      | cons z l ihl =>
       intro l1 l2 p1 p2
       cases p1 with
       | cons r1 t1 =>
        cases p2 with
        | cons r2 t2=>rw[ih r1 r2,ihl t1 t2]
     cases t with
     | false =>
      have q:aL X.K H a xs:=by unfold oW at q;rwa [Hu HN]at q
      cases t' with
      | false =>
       have q':aL X.K H a xs':=by unfold oW at q';rwa [Hu HN]at q'
       have:=I.list_inj q q';subst this;rw[pr r r']
      | true =>
       have q':dC X.K H a xs':=by unfold oW at q';rwa [Hw rfl]at q'
       obtain⟨_,_,p1,_⟩:=I.list q;obtain⟨_,_,p2,_⟩:=I.tuple q';exact absurd rfl (SeqAt.ne_of_list_tuple p1.isList p2)
     | true =>
      have q:dC X.K H a xs:=by unfold oW at q;rwa [Hw rfl]at q
      cases t' with
      | false =>
       have q':aL X.K H a xs':=by unfold oW at q';rwa [Hu HN]at q'
       obtain⟨_,_,p1,_⟩:=I.tuple q;obtain⟨_,_,p2,_⟩:=I.list q';exact absurd rfl (SeqAt.ne_of_list_tuple p2.isList p1)
      | true =>
       have q':dC X.K H a xs':=by unfold oW at q';rwa [Hw rfl]at q'
       have:=I.tuple_inj q q';subst this;rw[pr r r']
theorem Ey (I:ax X pins σ H s):∀ (n:Nat){A:Around}{l b:Addr}{d e:Dt},A.units+n<cLine->RD X.K H (n+1) (.ref l) d->RD X.K H (n+1) (.ref b) e ->
  (∀ {A:Around}{y x:V}{u v:Value}{d e:Dt},A.units+n<cLine+1->RD X.K H n y d->RD X.K H n x e->aO y u->aO x v->∃ k:Bool,(k=true↔d=e)/\SeqAt.EqAt A s u v k) ->
  ∃ k:Bool,(k=true↔d=e)/\SeqAt.RcAt A s (.ref l) (.ref b) k:=by
 intro n A l b d e hu h1 h2 ih;rcases h1 with h1 | ⟨a,t,xs,ds,ea,rfl,q,r⟩
 ·cases h1.1
 cases ea;rcases h2 with h2 | ⟨a',t',xs',ds',ea,rfl,q',r'⟩
 ·cases h2.1
 cases ea
 have pw:∀ {us us':List Value},aQ xs us->aQ xs' us'->∃ ks:Nat->Bool,(∀ j (h1:j<us.length) (h2:j<us'.length),SeqAt.EqAt A.in1 s us[j] us'[j] (ks j)) /\
   (∀ j d1 d2,ds[j]? = some d1->ds'[j]? = some d2->(ks j=true↔d1=d2)):=by
  intro us us' rv rv'
  have ex:∀ j:Nat,∃ k:Bool,(∀ (h1:j<us.length)(h2:j<us'.length),SeqAt.EqAt A.in1 s us[j] us'[j] k)/\(∀ d1 d2,ds[j]? = some d1->ds'[j]? = some d2->(k=true↔d1=d2)):=by
   intro j
   by_cases hj:j<us.length/\j<us'.length
   ·obtain⟨h1,h2⟩:=hj
    have l1:=rv.length;have l2:=rv'.length;have l3:=Ic r;have l4:=Ic r';have gx:xs[j]? = some xs[j]:=List.getElem?_eq_getElem (by omega);have gx':xs'[j]? = some xs'[j]:=List.getElem?_eq_getElem (by omega);obtain⟨u,eu,ru⟩:=rv.get gx;obtain⟨u',eu',ru'⟩:=rv'.get gx'
    have eu2:us[j]=u:=by rw[List.getElem?_eq_getElem h1]at eu;exact Hy eu
    have eu2':us'[j]=u':=by rw[List.getElem?_eq_getElem h2]at eu';exact Hy eu'
    have pget:∀ {m:Nat}{zs:List V}{es:List Dt}(j:Nat){z:V},Paired (RD X.K H m) zs es->zs[j]? = some z->∃ f,es[j]? = some f/\RD X.K H m z f:=by
     intro m zs
     induction zs with
     | nil=>intro es j z p hz;simp at hz
     | cons z0 zs ihz =>
      intro es j z p hz
      cases p with
      | cons p1 p2 =>
       cases j with
       | zero=>simp at hz;subst hz;exact⟨_,rfl,p1⟩
       | succ j=>obtain⟨f,e1,e2⟩:=ihz j p2 (by simpa using hz);exact⟨f,by simpa using e1,e2⟩
    obtain⟨f,ef,rf⟩:=pget j r gx;obtain⟨f',ef',rf'⟩:=pget j r' gx';obtain⟨k,hk,he⟩:=ih (A:=A.in1) (by show A.units+1+n<cLine+1;omega) rf rf' ru ru';refine⟨k,fun _ _=>by rw[eu2,eu2'];exact he,fun d1 d2 e1 e2=>?_⟩;rw[ef]at e1;rw[ef']at e2;cases e1;cases e2;exact hk
   ·refine⟨false,fun h1 h2=>absurd ⟨h1,h2⟩ hj,fun d1 d2 e1 e2=>?_⟩
    have l1:=rv.length;have l2:=rv'.length;have l3:=Ic r;have l4:=Ic r';have:=(List.getElem?_eq_some_iff.mp e1).1;have:=(List.getElem?_eq_some_iff.mp e2).1;exact absurd ⟨by omega,by omega⟩ hj
  exact⟨fun j=>Classical.choose (ex j),fun j h1 h2=>(Classical.choose_spec (ex j)).1 h1 h2,fun j=>(Classical.choose_spec (ex j)).2⟩
 have allEq:∀ (ks:Nat->Bool),(∀ j d1 d2,ds[j]? = some d1->ds'[j]? = some d2->(ks j=true↔d1=d2))->ds.length=ds'.length->((List.range ds.length).all ks=true↔ds=ds'):=by
  intro ks hk hl;rw[List.all_eq_true];constructor
  ·intro h
   apply List.ext_getElem hl
   intro j h1 h2;exact (hk j _ _ (List.getElem?_eq_getElem h1) (List.getElem?_eq_getElem h2)).mp (h j (IR.mpr h1))
  ·rintro rfl j hj
   have h1:=IR.mp hj;exact (hk j _ _ (List.getElem?_eq_getElem h1) (List.getElem?_eq_getElem h1)).mpr rfl
 have l3:=Ic r;have l4:=Ic r'
 cases t with
 | false =>
  have q:aL X.K H l xs:=by unfold oW at q;rwa [Hu HN]at q
  obtain⟨us,rv,p1,_⟩:=I.list q;have l1:=rv.length
  cases t' with
  | true =>
   have q':dC X.K H b xs':=by unfold oW at q';rwa [Hw rfl]at q'
   obtain⟨us',rv',p2,_⟩:=I.tuple q';exact⟨false,by simp,SeqAt.RcAt.list_tuple p1.isList p2 (by omega)⟩
  | false =>
   have q':aL X.K H b xs':=by unfold oW at q';rwa [Hu HN]at q'
   obtain⟨us',rv',p2,_⟩:=I.list q';have l2:=rv'.length
   by_cases hl:us.length=us'.length
   ·obtain⟨ks,he,hk⟩:=pw rv rv'
    refine⟨(List.range us.toArray.size).all ks,?_,SeqAt.RcAt.lists p1.isList p2.isList (by simpa using hl) (by omega) fun j h1 h2=>by simpa using he j (by simpa using h1) (by simpa using h2)⟩;rw[HU,show us.length=ds.length by omega,allEq ks hk (by omega)];constructor
    ·rintro rfl;rfl
    ·intro h;injection h
   ·refine⟨false,?_,SeqAt.RcAt.lists_lengths p1.isList p2.isList (by simpa using hl) (by omega)⟩
    constructor
    ·intro h;cases h
    ·intro h
     injection h with _ h;exact absurd (by rw[<-l1,l3,h,<-l4,l2]) hl
 | true =>
  have q:dC X.K H l xs:=by unfold oW at q;rwa [Hw rfl]at q
  obtain⟨us,rv,p1,_⟩:=I.tuple q;have l1:=rv.length
  cases t' with
  | false =>
   have q':aL X.K H b xs':=by unfold oW at q';rwa [Hu HN]at q'
   obtain⟨us',rv',p2,_⟩:=I.list q';exact⟨false,by simp,SeqAt.RcAt.tuple_list p1 p2.isList (by omega)⟩
  | true =>
   have q':dC X.K H b xs':=by unfold oW at q';rwa [Hw rfl]at q'
   obtain⟨us',rv',p2,_⟩:=I.tuple q';have l2:=rv'.length;obtain⟨ks,he,hk⟩:=pw rv rv';refine⟨_,?_,SeqAt.RcAt.tuples (e:=ks) (show s.heap.IsTuple l us.toArray from p1) (show s.heap.IsTuple b us'.toArray from p2) (by omega) fun j h1 h2=>by simpa using he j (by simpa using h1) (by simpa using h2)⟩
   by_cases hl:us.length=us'.length
   ·rw[HU,HU,<-hl,Nat.min_self,beq_self_eq_true,Bool.and_true,show us.length=ds.length by omega,allEq ks hk (by omega)]
    constructor
    ·rintro rfl;rfl
    ·intro h;injection h
   ·have:(us.toArray.size == us'.toArray.size)=false:=by simpa using hl
    rw[this,Bool.and_false];constructor
    ·intro h;cases h
    ·intro h
     injection h with _ h;exact absurd (by rw[<-l1,l3,h,<-l4,l2]) hl
theorem BW (I:ax X pins σ H s):∀ (n:Nat){A:Around}{l b:Addr}{d e:Dt},A.units+n<cLine->RD X.K H (n+1) (.ref l) d->RD X.K H (n+1) (.ref b) e ->
  (∀ {A:Around}{y x:V}{u v:Value}{d e:Dt},A.units+n<cLine+1->RD X.K H n y d->RD X.K H n x e->aO y u->aO x v->∃ k:Bool,(k=true↔d=e)/\SeqAt.EqAt A s u v k) ->
  ∃ k:Bool,(k=true↔d=e)/\SeqAt.RcNeAt A s (.ref l) (.ref b) (!k):=by
 intro n A l b d e hu h1 h2 ih;rcases h1 with h1 | ⟨a,t,xs,ds,ea,rfl,q,r⟩
 ·cases h1.1
 cases ea;rcases h2 with h2 | ⟨a',t',xs',ds',ea,rfl,q',r'⟩
 ·cases h2.1
 cases ea
 have pw:∀ {us us':List Value},aQ xs us->aQ xs' us'->∃ ks:Nat->Bool,(∀ j (h1:j<us.length) (h2:j<us'.length),SeqAt.EqAt A.in1 s us[j] us'[j] (ks j)) /\
   (∀ j d1 d2,ds[j]? = some d1->ds'[j]? = some d2->(ks j=true↔d1=d2)):=by
  intro us us' rv rv'
  have ex:∀ j:Nat,∃ k:Bool,(∀ (h1:j<us.length)(h2:j<us'.length),SeqAt.EqAt A.in1 s us[j] us'[j] k)/\(∀ d1 d2,ds[j]? = some d1->ds'[j]? = some d2->(k=true↔d1=d2)):=by
   intro j
   by_cases hj:j<us.length/\j<us'.length
   ·obtain⟨h1,h2⟩:=hj
    have l1:=rv.length;have l2:=rv'.length;have l3:=Ic r;have l4:=Ic r';have gx:xs[j]? = some xs[j]:=List.getElem?_eq_getElem (by omega);have gx':xs'[j]? = some xs'[j]:=List.getElem?_eq_getElem (by omega);obtain⟨u,eu,ru⟩:=rv.get gx;obtain⟨u',eu',ru'⟩:=rv'.get gx'
    have eu2:us[j]=u:=by rw[List.getElem?_eq_getElem h1]at eu;exact Hy eu
    have eu2':us'[j]=u':=by rw[List.getElem?_eq_getElem h2]at eu';exact Hy eu'
    have pget:∀ {m:Nat}{zs:List V}{es:List Dt}(j:Nat){z:V},Paired (RD X.K H m) zs es->zs[j]? = some z->∃ f,es[j]? = some f/\RD X.K H m z f:=by
     intro m zs
     induction zs with
     | nil=>intro es j z p hz;simp at hz
     | cons z0 zs ihz =>
      intro es j z p hz
      cases p with
      | cons p1 p2 =>
       cases j with
       | zero=>simp at hz;subst hz;exact⟨_,rfl,p1⟩
       | succ j=>obtain⟨f,e1,e2⟩:=ihz j p2 (by simpa using hz);exact⟨f,by simpa using e1,e2⟩
    obtain⟨f,ef,rf⟩:=pget j r gx;obtain⟨f',ef',rf'⟩:=pget j r' gx';obtain⟨k,hk,he⟩:=ih (A:=A.in1) (by show A.units+1+n<cLine+1;omega) rf rf' ru ru';refine⟨k,fun _ _=>by rw[eu2,eu2'];exact he,fun d1 d2 e1 e2=>?_⟩;rw[ef]at e1;rw[ef']at e2;cases e1;cases e2;exact hk
   ·refine⟨false,fun h1 h2=>absurd ⟨h1,h2⟩ hj,fun d1 d2 e1 e2=>?_⟩
    have l1:=rv.length;have l2:=rv'.length;have l3:=Ic r;have l4:=Ic r';have:=(List.getElem?_eq_some_iff.mp e1).1;have:=(List.getElem?_eq_some_iff.mp e2).1;exact absurd ⟨by omega,by omega⟩ hj
  exact⟨fun j=>Classical.choose (ex j),fun j h1 h2=>(Classical.choose_spec (ex j)).1 h1 h2,fun j=>(Classical.choose_spec (ex j)).2⟩
 have allEq:∀ (ks:Nat->Bool),(∀ j d1 d2,ds[j]? = some d1->ds'[j]? = some d2->(ks j=true↔d1=d2))->ds.length=ds'.length->((List.range ds.length).all ks=true↔ds=ds'):=by
  intro ks hk hl;rw[List.all_eq_true];constructor
  ·intro h
   apply List.ext_getElem hl
   intro j h1 h2;exact (hk j _ _ (List.getElem?_eq_getElem h1) (List.getElem?_eq_getElem h2)).mp (h j (IR.mpr h1))
  ·rintro rfl j hj
   have h1:=IR.mp hj;exact (hk j _ _ (List.getElem?_eq_getElem h1) (List.getElem?_eq_getElem h1)).mpr rfl
 have l3:=Ic r;have l4:=Ic r'
 cases t with
 | false =>
  have q:aL X.K H l xs:=by unfold oW at q;rwa [Hu HN]at q
  obtain⟨us,rv,p1,_⟩:=I.list q;have l1:=rv.length
  cases t' with
  | true =>
   have q':dC X.K H b xs':=by unfold oW at q';rwa [Hw rfl]at q'
   obtain⟨us',rv',p2,_⟩:=I.tuple q';exact⟨false,by simp,SeqAt.RcNeAt.list_tuple p1.isList p2 (by omega)⟩
  | false =>
   have q':aL X.K H b xs':=by unfold oW at q';rwa [Hu HN]at q'
   obtain⟨us',rv',p2,_⟩:=I.list q';have l2:=rv'.length
   by_cases hl:us.length=us'.length
   ·obtain⟨ks,he,hk⟩:=pw rv rv'
    refine⟨(List.range us.toArray.size).all ks,?_,SeqAt.RcNeAt.lists p1.isList p2.isList (by simpa using hl) (by omega) fun j h1 h2=>by simpa using he j (by simpa using h1) (by simpa using h2)⟩;rw[HU,show us.length=ds.length by omega,allEq ks hk (by omega)];constructor
    ·rintro rfl;rfl
    ·intro h;injection h
   ·refine⟨false,?_,SeqAt.RcNeAt.lists_lengths p1.isList p2.isList (by simpa using hl) (by omega)⟩
    constructor
    ·intro h;cases h
    ·intro h
     injection h with _ h;exact absurd (by rw[<-l1,l3,h,<-l4,l2]) hl
 | true =>
  have q:dC X.K H l xs:=by unfold oW at q;rwa [Hw rfl]at q
  obtain⟨us,rv,p1,_⟩:=I.tuple q;have l1:=rv.length
  cases t' with
  | false =>
   have q':aL X.K H b xs':=by unfold oW at q';rwa [Hu HN]at q'
   obtain⟨us',rv',p2,_⟩:=I.list q';exact⟨false,by simp,SeqAt.RcNeAt.tuple_list p1 p2.isList (by omega)⟩
  | true =>
   have q':dC X.K H b xs':=by unfold oW at q';rwa [Hw rfl]at q'
   obtain⟨us',rv',p2,_⟩:=I.tuple q';have l2:=rv'.length;obtain⟨ks,he,hk⟩:=pw rv rv';refine⟨(List.range (min us.toArray.size us'.toArray.size)).all ks&&us.toArray.size == us'.toArray.size,?_,SeqAt.RcNeAt.tuples (e:=ks) (show s.heap.IsTuple l us.toArray from p1) (show s.heap.IsTuple b us'.toArray from p2) (by omega) fun j h1 h2=>by simpa using he j (by simpa using h1) (by simpa using h2)⟩
   by_cases hl:us.length=us'.length
   ·rw[HU,HU,<-hl,Nat.min_self,beq_self_eq_true,Bool.and_true,show us.length=ds.length by omega,allEq ks hk (by omega)]
    constructor
    ·rintro rfl;rfl
    ·intro h;injection h
   ·have:(us.toArray.size == us'.toArray.size)=false:=by simpa using hl
    rw[this,Bool.and_false];constructor
    ·intro h;cases h
    ·intro h
     injection h with _ h;exact absurd (by rw[<-l1,l3,h,<-l4,l2]) hl
theorem AV (I:ax X pins σ H s):∀ (n:Nat){A:Around}{y x:V}{u v:Value}{d e:Dt},A.units+n<cLine+1->RD X.K H n y d->RD X.K H n x e->aO y u->aO x v->∃ k:Bool,(k=true↔d=e)/\SeqAt.EqAt A s u v k:=by
 intro n
 have flatCase:∀ {A:Around}{y x:V}{u v:Value},jx y=true->jx x=true->aO y u->aO x v->∃ k:Bool,(k=true↔Dt.at y=Dt.at x)/\SeqAt.EqAt A s u v k:=by
  intro A y x u v fy fx ry rx;refine⟨xI y x,?_,AW ry rx (qm fy) (qm fx)⟩;rw[CG fy fx];constructor
  ·rintro rfl;rfl
  ·intro h;injection h
 induction n with
 | zero =>
  intro A y x u v d e hu h1 h2 ry rx;obtain⟨f1,rfl⟩:=h1;obtain⟨f2,rfl⟩:=h2;exact flatCase f1 f2 ry rx
 | succ n ih =>
  intro A y x u v d e hu h1 h2 ry rx;rcases id h1 with ⟨f1,rfl⟩ | ⟨a,t,xs,ds,rfl,rfl,q,r⟩
  ·rcases id h2 with ⟨f2,rfl⟩ | ⟨a',t',xs',ds',rfl,rfl,q',r'⟩
   ·exact flatCase f1 f2 ry rx
   ·cases rx
    refine⟨false,by simp,?_⟩
    cases t' with
    | false =>
     have q':aL X.K H a' xs':=by unfold oW at q';rwa [Hu HN]at q'
     obtain⟨_,_,p,_⟩:=I.list q'
     cases y with
     | non=>cases ry;exact SeqAt.EqAt.none_list p.isList (by omega)
     | int _=>obtain⟨tk,rfl⟩:=ry;exact SeqAt.EqAt.int_list _ _ p.isList (by omega)
     | str _=>obtain⟨tk,rfl⟩:=ry;exact SeqAt.EqAt.str_list _ _ p.isList (by omega)
     | _=>cases f1
    | true =>
     have q':dC X.K H a' xs':=by unfold oW at q';rwa [Hw rfl]at q'
     obtain⟨_,_,p,_⟩:=I.tuple q'
     cases y with
     | non=>cases ry;exact SeqAt.EqAt.none_tuple p (by omega)
     | int _=>obtain⟨tk,rfl⟩:=ry;exact SeqAt.EqAt.int_tuple _ _ p (by omega)
     | str _=>obtain⟨tk,rfl⟩:=ry;exact SeqAt.EqAt.str_tuple _ _ p (by omega)
     | _=>cases f1
  ·cases ry
   rcases id h2 with ⟨f2,rfl⟩ | ⟨a',t',xs',ds',rfl,rfl,q',r'⟩
   ·refine⟨false,by simp,?_⟩
    cases t with
    | false =>
     have q:aL X.K H a xs:=by unfold oW at q;rwa [Hu HN]at q
     obtain⟨_,_,p,_⟩:=I.list q
     cases x with
     | non=>cases rx;exact SeqAt.EqAt.list_none p.isList (by omega)
     | int _=>obtain⟨tk,rfl⟩:=rx;exact SeqAt.EqAt.list_int _ _ p.isList (by omega)
     | str _=>obtain⟨tk,rfl⟩:=rx;exact SeqAt.EqAt.list_str _ _ p.isList (by omega)
     | _=>cases f2
    | true =>
     have q:dC X.K H a xs:=by unfold oW at q;rwa [Hw rfl]at q
     obtain⟨_,_,p,_⟩:=I.tuple q
     cases x with
     | non=>cases rx;exact SeqAt.EqAt.tuple_none p (by omega)
     | int _=>obtain⟨tk,rfl⟩:=rx;exact SeqAt.EqAt.tuple_int _ _ p (by omega)
     | str _=>obtain⟨tk,rfl⟩:=rx;exact SeqAt.EqAt.tuple_str _ _ p (by omega)
     | _=>cases f2
   ·cases rx
    by_cases hab:a=a'
    ·subst hab
     exact⟨true,by rw[RD.inj I h1 h2];simp,SeqAt.EqAt.same _⟩
    ·obtain⟨k,hk,hr⟩:=Ey I n (A:=A) (by omega) h1 h2 (fun hu'=>ih hu')
     exact⟨k,hk,.of_refs hab hr⟩
end
inductive GW (K:PySem.W.Frag) (n:Nat) (neg:Bool) (x y:V) (H:Hp) (Q:VK):Prop
 | mk (a b:Addr) (d e:Dt) (e1:x=.ref a) (e2:y=.ref b) (r1:RD K H (n+1) x d) (r2:RD K H (n+1) y e) (h:∀ k:Bool,(k=true↔d=e)->Q (.bl (if neg then !k else k)) H):GW K n neg x y H Q
def Gu (K:PySem.W.Frag)(n:Nat)(neg:Bool):R2:=fun x y H Q=>GW K n neg x y H Q
section
variable {X:Cx}
theorem nu (n:Nat)(hu:X.A.units+n<cLine):ph X (compareOp .NotEq) (Gu X.K n true):=by
 intro pins s σ H x y v u Q I rx ry h;obtain⟨a,b,d,e,rfl,rfl,h1,h2,q⟩:=h;cases rx;cases ry;obtain⟨k,hk,hr⟩:=BW I n (A:=X.A) hu h1 h2 (fun hu'=>AV I n hu');exact hr _ _ _ _ ⟨.bl (!k),H,I,rfl,q k hk⟩
end
open PySem PySem.Spec PyProof.Rows PySem.Calls
section
variable {prog:Program}{w:World}{A:Around}{E:Value->Shared->Prop}{s:Shared}{r d:Addr}{items:Array Value}
end
end L2
namespace Wz
open PySem L2
def je (c:Int):Int:=if c<0 then -c else c
def cX (ns:List Int)(k:Int):Int:=if k<(ns.length:Int) then ns.getD k.toNat 0 else 0
def wv (k c:Int):Int :=
 let left:=je c
 let number:=(k*(1+left*1234567891%2147483646)+left/2147483646)%2147483647
 if left%5=4 then number+997852516353 else number
def dk (l:List (Int×Int)):List (bP×V):=l.map fun p=>(Sum.inl p.1,V.int p.2)
def look:List (Int×Int)->Int->Option Int
 | [],_=>none
 | p::r,g=>if p.1=g then some p.2 else look r g
def put (l:List (Int×Int))(g m:Int):List (Int×Int):=if (l.any fun p=>decide (p.1=g))=true then l.map (fun p=>if p.1=g then (p.1,m) else p) else l++[(g,m)]
def wr (l:List (Int×Int))(g:Int):Int:=(look l g).getD g
def gB (l:List (Int×Int))(p:Int×Int):List (Int×Int):=put (put l p.1 (wr l p.2)) p.2 (wr l p.1)
def aX (w:List (Int×Int))(ps:List (Int×Int)):List (Int×Int):=ps.foldl gB w
def ak (l:List (Int×Int)):List Int:=l.map (·.1)
def bv (l:List (Int×Int)):List Int:=(aD (ak l)).filter fun g=>decide (wr l g≠g)
def x8 (l:List (Int×Int)):List (Int×Int):=(bv l).map fun g=>(g,wr l g)
theorem bT:∀ (l:List (Int×Int))(g:Int),cH (dk l) (Sum.inl g:bP)=(look l g).map V.int
 | [],_=>rfl
 | p::r,g=>by
  by_cases h:p.1=g
  ·have e:cH (dk (p::r)) (Sum.inl g:bP)=some (V.int p.2):=h8 (p:=(Sum.inl p.1,V.int p.2)) (r:=dk r) (by rw[h])
   rw[e];simp[look,h]
  ·have e:cH (dk (p::r)) (Sum.inl g:bP)=cH (dk r) (Sum.inl g):=gf (p:=(Sum.inl p.1,V.int p.2)) (r:=dk r) (fun z=>h (Sum.inl.inj z))
   rw[e,bT r g];simp[look,h]
theorem D1 (l:List (Int×Int))(g:Int):((dk l).any fun kv=>decide (kv.1=(Sum.inl g:bP)))=l.any fun p=>decide (p.1=g):=by
 unfold dk;rw[J8]
 congr 1
 funext p
 simp[Function.comp]
theorem dH (l:List (Int×Int))(g m:Int):dq (dk l) (Sum.inl g:bP) (V.int m)=dk (put l g m):=by
 unfold dq put;rw[D1]
 by_cases h:(l.any fun p=>decide (p.1=g))=true
 ·rw[Hw h,Hw h]
  unfold dk;rw[IA,IA]
  apply JE
  intro p _;simp only[Function.comp]
  by_cases e:p.1=g
  ·rw[Hw (by rw[e]),Hw e]
  ·rw[Hu (fun z=>e (Sum.inl.inj z)),Hu e]
 ·rw[Hu h,Hu h]
  unfold dk;simp
theorem qz (l:List (Int×Int))(g:Int):(l.any fun p=>decide (p.1=g))=(look l g).isSome:=by
 induction l with
 | nil=>rfl
 | cons p r ih =>
  rw[Jg,ih]
  show _=(if p.1=g then some p.2 else look r g).isSome
  by_cases h:p.1=g<;>simp[h]
theorem bL {l:List (Int×Int)}{g:Int}:(look l g).isSome=true↔g∈ak l:=by
 rw[<-qz,List.any_eq_true];unfold ak;simp
theorem Be (l:List (Int×Int))(g m h:Int):look (l.map (fun p=>if p.1=g then (p.1,m) else p)) h=if h=g then (look l g).map (fun _=>m) else look l h:=by
 induction l with
 | nil=>simp[look]
 | cons p r ih =>
  rw[Iw]
  by_cases hp:p.1=g
  ·rw[Hw hp]
   show (if p.1=h then some m else look _ h)=_
   rw[ih]
   by_cases hh:h=g
   ·subst hh;simp[hp,look]
   ·have:¬ p.1=h:=fun z=>hh (z.symm.trans hp)
    simp[hh,this,look]
  ·rw[Hu hp]
   show (if p.1=h then some p.2 else look _ h)=_
   rw[ih]
   by_cases hh:h=g
   ·subst hh;simp[hp,look]
   ·simp[hh,look]
theorem wz (l r:List (Int×Int))(h:Int):look (l++r) h=(look l h).orElse fun _=>look r h:=by
 induction l with
 | nil=>rfl
 | cons p l ih =>
  show (if p.1=h then some p.2 else look (l++r) h)=_
  rw[ih]
  by_cases e:p.1=h<;>simp[look,e]
theorem di (l:List (Int×Int))(g m h:Int):look (put l g m) h=if h=g then some m else look l h:=by
 unfold put;rw[qz]
 by_cases e:(look l g).isSome=true
 ·rw[Hw e,Be]
  obtain⟨v,hv⟩:=IJ.mp e
  by_cases hh:h=g
  ·simp[hh,hv]
  ·simp[hh]
 ·rw[Hu e,wz]
  have hn:look l g=none:=by simpa using e
  by_cases hh:h=g
  ·subst hh;simp[hn,look]
  ·have:¬ g=h:=fun z=>hh z.symm
   simp[hh,look,this]
theorem lG (l:List (Int×Int))(g m:Int):ak (put l g m)=if g∈ak l then ak l else ak l++[g]:=by
 unfold put;rw[qz]
 by_cases e:(look l g).isSome=true
 ·rw[Hw e,Hw (bL.mp e)]
  unfold ak;rw[IA]
  apply JE
  intro p _;simp only[Function.comp];split<;>rfl
 ·rw[Hu e,Hu (fun z=>e (bL.mpr z))]
  simp[ak]
theorem tX {l:List (Int×Int)}(g m:Int)(h:(ak l).Nodup):(ak (put l g m)).Nodup:=by
 rw[lG];split
 ·exact h
 ·rename_i hn
  exact lP h hn
theorem yT {l:List (Int×Int)}{g m h:Int}:h∈ak (put l g m)↔h=g\/h∈ak l:=by
 rw[lG];split
 ·rename_i hn
  constructor
  ·exact .inr
  ·rintro (rfl | z)
   ·exact hn
   ·exact z
 ·simp[or_comm]
theorem Cf (l:List (Int×Int))(g m h:Int):wr (put l g m) h=if h=g then m else wr l h:=by
 unfold wr;rw[di];split<;>simp_all
theorem DB (l:List (Int×Int))(p:Int×Int)(h:Int):wr (gB l p) h=if h=p.2 then wr l p.1 else if h=p.1 then wr l p.2 else wr l h:=by
 unfold gB;rw[Cf,Cf]
theorem ye {l:List (Int×Int)}(p:Int×Int)(h:(ak l).Nodup):(ak (gB l p)).Nodup:=tX _ _ (tX _ _ h)
theorem Bi {l:List (Int×Int)}{p:Int×Int}{h:Int}:h∈ak (gB l p)↔h=p.2\/h=p.1\/h∈ak l:=by
 unfold gB;rw[yT,yT]
theorem jC:∀ (ps:List (Int×Int)){w:List (Int×Int)},(ak w).Nodup->(ak (aX w ps)).Nodup
 | [],_,h=>h
 | p::r,_,h=>jC r (ye p h)
theorem m5:∀ (ps:List (Int×Int)){w:List (Int×Int)}{h:Int},h∈ak (aX w ps)↔h∈ak w\/∃ p∈ps,h=p.1\/h=p.2
 | [],_,_=>by simp[aX]
 | p::r,w,h=>by
  show h∈ak (aX (gB w p) r)↔_
  rw[m5 r,Bi];constructor
  ·rintro ((e | e | e) | ⟨q,hq,e⟩)
   ·exact .inr ⟨p,HV,.inr e⟩
   ·exact .inr ⟨p,HV,.inl e⟩
   ·exact .inl e
   ·exact .inr ⟨q,HL _ hq,e⟩
  ·rintro (e | ⟨q,hq,e⟩)
   ·exact .inl (.inr (.inr e))
   ·rcases HW.mp hq with rfl | hq
    ·rcases e with e | e
     ·exact .inl (.inr (.inl e))
     ·exact .inl (.inl e)
    ·exact .inr ⟨q,hq,e⟩
theorem iD (l:List (Int×Int))(g m:Int):(put l g m).length<=l.length+1:=by
 unfold put;split<;>simp
theorem Bd (l:List (Int×Int))(p:Int×Int):(gB l p).length<=l.length+2:=by
 unfold gB;have h1:=iD (put l p.1 (wr l p.2)) p.2 (wr l p.1);have h2:=iD l p.1 (wr l p.2);omega
theorem tU:∀ (ps w:List (Int×Int)),(aX w ps).length<=w.length+2*ps.length
 | [],_=>by simp[aX]
 | p::r,w=>by
  have h1:=tU r (gB w p);have h2:=Bd w p
  show (aX (gB w p) r).length<=_
  rw[IN];omega
def cw (f:Int->Int)(p:Int×Int):Int->Int:=fun h=>if h=p.2 then f p.1 else if h=p.1 then f p.2 else f h
theorem jQ:∀ (ps w:List (Int×Int)),wr (aX w ps)=ps.foldl cw (wr w)
 | [],_=>rfl
 | p::r,w=>by
  show wr (aX (gB w p) r)=r.foldl cw (cw (wr w) p)
  rw[jQ r]
  congr 1
  funext h
  exact DB w p h
theorem bO:∀ {l m:List Int},l.Nodup->(∀ x∈l,x∈m)->l.length<=m.length
 | [],_,_,_=>Ip _
 | a::r,m,h,hs=>by
  obtain⟨h1,h2⟩:=Iz.mp h;have ha:a∈m:=hs a HV;have hl:(m.erase a).length=m.length-1:=List.length_erase_of_mem ha;have hpos:0<m.length:=List.length_pos_of_mem ha;have ih:=bO (l:=r) (m:=m.erase a) h2 fun x hx=>(List.mem_erase_of_ne (show x≠a from fun e=>h1 (by rw[<-e];exact hx))).mpr (hs x (HL _ hx));rw[IN];omega
theorem fE {l:List Int}{x:Int}:x∈aD l↔x∈l:=(JX l _).mem_iff
theorem dR (l:List Int):(aD l).length=l.length:=(JX l _).length_eq
theorem CV (l:List (Int×Int)):(dk l).map (·.1)=(ak l).map Sum.inl:=by
 unfold dk ak;rw[IA,IA];rfl
theorem uJ (l:List (Int×Int)):(dk l).length=l.length:=by unfold dk;simp
def ay (P:Program)(w:World)(K:PySem.W.Frag)(mg:Str->Option Value)(base:Heap)(x:Str)(k:Nat)(ps:List Str)(sp:Sp):Prop :=
 ∃ (f:Addr)(fd:FuncData),aS P w K mg base cJ k f fd ps sp/\mg x=some (.ref f)/\PySem.W.keepIn K (.ref f)=true/\d9 K fd ps []
theorem bo {X:Cx}{x:Str}{k:Nat}{ps:List Str}{sp:Sp}{e:Expr}{es:List Expr}{t:TA}{p pos:Pos}(C:ay X.prog X.w X.K X.mg X.base x k ps sp)(hr:cx k X.A)(hg:Gl X x)(ha:PA X (e::es) t)
  (hdb:(x == ("__debug__" : Str))=false:=by decide) (he:starEach (e::es) X.env=(false,eval e X.env)::starEach es X.env:=by rfl) (hpl:(backTo pos (starEach es X.env)).any (·.1)=false:=by rfl) :
  PE X (.Call (.Name x p) (e::es) [] pos) (zo sp [] E0 t):=by
 obtain⟨f,fd,G,hm,hk,hb⟩:=C;exact zc G hr hg hm hk hb .nil eF ha hdb he hpl
theorem zC {X:Cx}(K:PySem.W.Frag)(hK:X.K=K:=by rfl):eX X (.builtin "len") (fun xs H Q=>∃ p ys,xs=[.ref p]/\(aL K H p ys\/dC K H p ys)/\Q (.int ys.length) H):=by subst hK;exact bR
theorem A7 {X:Cx}(K:PySem.W.Frag)(hK:X.K=K:=by rfl):EY X (Fx K):=by subst hK;exact ff
theorem pz {X:Cx}(K:PySem.W.Frag)(hK:X.K=K:=by rfl):EY X (Fy K):=by subst hK;exact bi
def bJ (H:Hp)(l:Addr)(ps:List (Int×Int)):Prop:=∃ as:List Addr,H l=some (.lst (as.map V.ref))/\Paired (fun a (p:Int×Int)=>H a=some (.tup [.int p.1,.int p.2])) as ps
theorem bJ.mono {H H':Hp}{l:Addr}{ps:List (Int×Int)}(r:bJ H l ps)(s:aB H H'):bJ H' l ps:=by
 obtain⟨as,h,p⟩:=r;exact⟨as,s _ _ h,Paired.mapP p fun a q z=>s _ _ z⟩
theorem ah {H:Hp}{l:Addr}{o:HO}(h:H l=none):aB H (upd H l o):=fun b u e=>by rw[ae (aj e h)];exact e
theorem aZ {H H':Hp}{l:Addr}{o:HO}(s:aB H H')(h:H l=none):aB H (upd H' l o):=fun b u e=>by rw[ae (aj e h)];exact s b u e
theorem oM {α β:Type}{F:α->β->Prop}{a:α}{b:β}{l:List α}{m:List β}(p:Paired F l m)(h:F a b):Paired F (l++[a]) (m++[b]):=Paired.snoc p h
theorem bg {α β:Type}{F:α->β->Prop}:∀ {l:List α}{m:List β}{i:Nat}{a:α},Paired F l m->l[i]? = some a->∃ b,m[i]? = some b/\F a b
 | _,_,_,_,.nil,h=>by simp at h
 | _,_,0,_,.cons r _,h=>by simp at h;subst h;exact⟨_,rfl,r⟩
 | _,_,i+1,a,.cons _ t,h=>by
  obtain⟨b,e1,e2⟩:=bg (i:=i) (a:=a) t (by simpa using h);exact⟨b,by simpa using e1,e2⟩
theorem bx {α β:Type}{F:α->β->Prop}:∀ {l l':List α}{m m':List β},Paired F l m->Paired F l' m'->Paired F (l++l') (m++m')
 | _,_,_,_,.nil,s=>s
 | _,_,_,_,.cons r t,s=>.cons r (bx t s)
theorem aY {α β:Type}{f:α->β}{l:List α}{i:Nat}{y:β}(h:(l.map f)[i]? = some y):∃ x,l[i]? = some x/\y=f x:=by
 rw[List.getElem?_map]at h
 cases e:l[i]? with
 | none=>rw[e]at h;cases h
 | some x=>rw[e]at h;exact⟨x,rfl,(Hy h).symm⟩
theorem nV {α:Type}{l:List α}{i:Nat}{x:α}(h:l[i]? = some x):l.take (i+1)=l.take i++[x]:=by
 rw[Iv,h];rfl
theorem jZ {te:TE}{a:Addr}{D:im}{σ:St}{H:Hp}(h:te σ H fun y H2=>∃ ys,H2 a=some (.lst ys)/\ys.length<sizeLine/\D.nx σ (upd H2 a (.lst (ys++[y])))):Aw sP te a D σ H:=by
 unfold Aw sP;dsimp only;rw[Hw rfl];exact h
theorem rM {tt:TT}{te:TE}{a:Addr}{D:im}{σ:St}{H:Hp}(h:tt σ H fun b H1=>if b=true then te σ H1 fun y H2=>∃ ys,H2 a=some (.lst ys)/\ys.length<sizeLine/\D.nx σ (upd H2 a (.lst (ys++[y]))) else D.nx σ H1):Aw tt te a D σ H:=h
inductive rE (K:PySem.W.Frag) (vs:List V) (H:Hp) (Q:VK) (E_:XK):Prop
 | mk (a:Addr) (ns:List Int) (k:Int) (h_0:vs=[.ref a,.int k]) (h_1:aL K H a (ns.map V.int)) (h_2:0<=k) (h_3:Q (.int (cX ns k)) H):rE K vs H Q E_
inductive rH (vs:List V) (H:Hp) (Q:VK) (E_:XK):Prop
 | mk (c:Int) (h_0:vs=[.int c]) (h_1:Q (.int (je c)) H):rH vs H Q E_
inductive pL (vs:List V) (H:Hp) (Q:VK) (E_:XK):Prop
 | mk (c m b:Int) (h_0:vs=[.int c,.int m,.int b]) (h_1:(0<=m/\m<=1000)) (h_2:(0<b/\b<1073741824)) (h_3:∀ (l:Addr)(ds:List Int),H l=none->(∀ d∈ds,0<=d/\d<b)->(ds.length:Int)<=m->Q (.ref l) (upd H l (.lst (ds.map V.int)))):pL vs H Q E_
inductive rF (K:PySem.W.Frag) (vs:List V) (H:Hp) (Q:VK) (E_:XK):Prop
 | mk (a:Addr) (ns:List Int) (st m b:Int) (h_0:vs=[.ref a,.int st,.int m,.int b]) (h_1:aL K H a (ns.map V.int)) (h_2:(0<=st/\st<=63)) (h_3:(0<=m/\m<=1000)) (h_4:(0<b/\b<1073741824)) (h_5:∀ (l:Addr)(H':Hp)(ds:List Int),H l=none->aB H H'->H' l=some (.lst (ds.map V.int))->(∀ d∈ds,0<=d/\d<b)->(ds.length:Int)<=m->Q (.ref l) H'):rF K vs H Q E_
inductive jY (vs:List V) (H:Hp) (Q:VK) (E_:XK):Prop
 | mk (k c:Int) (h_0:vs=[.int k,.int c]) (h_1:(0<=k/\k<=1000000)) (h_2:Q (.int (wv k c)) H):jY vs H Q E_
inductive pQ (vs:List V) (H:Hp) (Q:VK) (E_:XK):Prop
 | mk (i:Int) (h_0:vs=[.int i]) (h_1:Q (.bl true) H):pQ vs H Q E_
inductive pM (vs:List V) (H:Hp) (Q:VK) (E_:XK):Prop
 | mk (l d:Addr) (ps w:List (Int×Int)) (h_0:vs=[.ref l,.ref d]) (h_1:bJ H l ps) (h_2:ps.length<=1000) (h_3:H d=some (.dK (dk w))) (h_4:w.length<=1000) (h_5:Q (.ref d) (upd H d (.dK (dk (aX w ps))))):pM vs H Q E_
inductive pR (vs:List V) (H:Hp) (Q:VK) (E_:XK):Prop
 | mk (d:Addr) (w:List (Int×Int)) (h_0:vs=[.ref d]) (h_1:H d=some (.dK (dk w))) (h_2:w.length<64) (h_3:∀ (l':Addr)(H':Hp),H l'=none->aB H H'->H' l'=some (.lst ((bv w).map V.int))->Q (.ref l') H'):pR vs H Q E_
def Fp (p:Int×Int):Dt:=.sq true [.at (.int p.1),.at (.int p.2)]
def Gx (ps:List (Int×Int)):Dt:=.sq false (ps.map Fp)
theorem nF {K:PySem.W.Frag}{H:Hp}{l:Addr}{ps:List (Int×Int)}(r:bJ H l ps):RD K H 2 (.ref l) (Gx ps):=by
 obtain⟨as,h,p⟩:=r;refine RD.lst (aL.of h) ?_;clear h
 induction p with
 | nil=>exact .nil
 | cons h _ ih=>exact .cons (RD.tup (dC.of h) (.cons (RD.flat rfl 0) (.cons (RD.flat rfl 0) .nil))) ih
def y7 (ns:List Int):Dt:=.sq false (ns.map fun n=>.at (.int n))
theorem uR {σ:St}{H:Hp}{Q:Option Int->Hp->Prop}(h:Q none H):zq σ H Q:=h
theorem z6 (w:List (Int×Int)):(x8 w).length<=w.length:=by
 unfold x8 bv;rw[Hs];refine Ix (IV _ _) ?_;rw[dR];unfold ak;rw[Hs];exact Hv _
theorem uh (w:List (Int×Int)):(bv w).length<=w.length:=by have:=z6 w;unfold x8 at this;rwa [Hs]at this
end Wz
namespace L2
open PySem PySem.Spec PyProof.Rows
def DG (g B:Heap)(e:Addr)(c:Value)(od:Option Addr)(fl:Value):Prop :=
 ∃ oe us T oT ts,g.get? e=some oe/\(oe.cls=c/\oe.dict=od)/\oe.data=.fields us/\us[1]? = some (.ref T)/\B.get? T=none/\T≠e/\g.get? T=some oT/\oT.data=.fields ts/\ts[3]? = some fl
def k8 (B:Heap)(l:List Env)(e:Addr)(c:Value)(od:Option Addr)(g:Heap):Prop:=B.StaysIn g/\B.get? e=none/\g.FunFrames B l/\DG g B e c od .none
def DD (B:Heap)(l:List Env)(e:Addr)(c:Value)(od:Option Addr)(L:Addr)(g:Heap):Prop:=B.StaysIn g/\B.get? e=none/\g.FunFrames B l/\DG g B e c od (rawInt L)
theorem CD (f:Array Value->Array Value)(o:Obj):(Obj.mapFields f o).dict=o.dict:=by
 unfold Obj.mapFields;split<;>rfl
theorem k8.obj {B g:Heap}{l:List Env}{e:Addr}{c:Value}{od:Option Addr}(x:k8 B l e c od g):∃ ob us,g.get? e=some ob/\ob.cls=c/\ob.dict=od/\ob.data=.fields us:=by
 obtain⟨_,_,_,oe,us,_,_,_,he,hc,hd,_⟩:=x;exact⟨oe,us,he,hc.1,hc.2,hd⟩
section
variable {M:Model}{A:Around}{E:Value->Shared->Prop}{s:Shared}{B:Heap}{env:Env}{outer:List Env}{L e:Addr}{od:Option Addr}{c:Value}
def FW (g g':Heap):Prop:=∀ b o,g.get? b=some o->(∀ us,o.data≠.fields us)->∃ sl,g'.get? b=some { o with slots:=sl }
theorem AU {oe:Obj}{us:Array Value}{head:Value}{hn:Bool}{Q:Unit->Shared->Prop}(fr:A.frames=some (env::outer))(hl:s.heap.FunFrames B (env::outer))(hf:env.frame=some L)
  (he:s.heap.get? e=some oe) (hk:B.StaysIn s.heap) (hb:B.get? e=none) (hd:oe.data=.fields us) (h1:1<us.size)
  (h:∀ g,B.StaysIn g->g.FunFrames B (env::outer)->DG g B e oe.cls oe.dict (rawInt L)->FW s.heap g->Q () { s with heap:=g }) :
  wpAny M A (do let a <-frameOf env;let pl <-entryPlaceOf L hn;let b <-EntryCells.newEntry head a .none (rawInt L) .none pl;setField (.ref e) 1 b) Q E s:=by
 have hne:e∉(env::outer).filterMap (·.frame):=fun z=>by
  obtain⟨_,o,ho,nf⟩:=hl.mem z;rw[he]at ho;cases ho;exact nf us hd
 refine Ht (wpAny_frameOf_fun fr hl hf fun g1 sl1=>Ht (wpAny_entryPlaceOf fun pl hpl=>?_));unfold EntryCells.newEntry newFields;refine Ht (IM ?_ (hpl.sizeOk5 _ _ _ _ _));have e1:g1.get? e=some oe:=(sl1.2.1 e hne).trans he;have k1:B.StaysIn g1:=fun b o q=>(sl1.2.1 b fun z=>by rw[(hl.mem z).1]at q;cases q).trans (hk b o q);generalize hob:({ cls:=.type "traceback",dict:=none,data:=.fields ([head,.ref L,.none,rawInt L,.none]++(if pl.isEmpty then List.replicate 6 Value.none else pl)).toArray }:Obj)=ob
 have obd:ob.data=.fields ([head,.ref L,.none,rawInt L,.none]++(if pl.isEmpty then List.replicate 6 Value.none else pl)).toArray:=by rw[<-hob]
 have e2:=Heap.get?_push_of_some (h:=g1) ob e1;refine J9 e2 hd h1 ?_;have ne:g1.objs.size≠e:=Nat.ne_of_gt (HQ e1);have d3:=J3 hd (·.setIfInBounds 1 (Value.ref g1.objs.size));have e3:=Heap.get?_update_self (Obj.mapFields (·.setIfInBounds 1 (Value.ref g1.objs.size))) e2 (Obj.isFreed_of_fields d3)
 have keep:∀ b o,b≠e->g1.get? b=some o->((g1.push ob).update e (Obj.mapFields (·.setIfInBounds 1 (Value.ref g1.objs.size)))).get? b=some o:=fun b o n q=>by
  rw[Heap.get?_update_other _ _ (Ik n)];exact Heap.get?_push_of_some _ q
 have nr:∀ b o,s.heap.get? b=some o->(∀ vs,o.data≠.fields vs)->b≠e:=fun b o q nf z=>by
  rw[z,he]at q;cases q;exact nf us hd
 refine h _ (fun b o q=>keep b o (fun z=>by rw[z,hb]at q;cases q) (k1 b o q)) (hl.of_keeps fun b o q nf=>?_) ?_ fun b o q nf=>?_
 ·obtain⟨sl,z⟩:=sl1.2.2 b o q
  exact⟨_,keep b _ (nr b o q nf) z,rfl⟩
 ·refine⟨_,_,g1.objs.size,ob,_,e3,⟨Obj.cls_mapFields _ _,CD _ _⟩,d3,by simp[h1],k1.fresh,ne,?_,obd,by first | (simp;done) | (rcases hpl with rfl | ⟨_,_,_,_,_,_,_,rfl⟩<;>simp)⟩
  rw[Heap.get?_update_other _ _ (Ik ne)];exact Heap.get?_push_size g1 (by rw[<-hob];rfl)
 ·obtain⟨sl,z⟩:=sl1.2.2 b o q
  exact⟨sl,keep b _ (nr b o q nf) z⟩
theorem wU {oe:Obj}{us:Array Value}{Q:Unit->Shared->Prop}(fr:A.frames=some (env::outer))(hl:s.heap.FunFrames B (env::outer))(hf:env.frame=some L)
  (he:s.heap.get? e=some oe) (hk:B.StaysIn s.heap) (hb:B.get? e=none) (hd:oe.data=.fields us) (h1:us[1]? = some .none)
  (h:∀ g,B.StaysIn g->g.FunFrames B (env::outer)->DG g B e oe.cls oe.dict (rawInt L)->FW s.heap g->Q () { s with heap:=g }):wpAny M A (noteFrame (.ref e) env) Q E s:=by
 unfold noteFrame;simp only[hf];refine Ht (J4 he hd h1 ?_);rw[Hu (by decide)];exact AU fr hl hf he hk hb hd (Array.getElem?_eq_some_iff.mp h1).1 h
theorem qM {Q:Unit->Shared->Prop}(fr:A.frames=some (env::outer))(hl:s.heap.FunFrames B (env::outer))(hf:env.frame=some L)(ht:DG s.heap B e c od .none)(hk:B.StaysIn s.heap)(hb:B.get? e=none)
  (h:∀ g,B.StaysIn g->g.FunFrames B (env::outer)->DG g B e c od (rawInt L)->FW s.heap g->Q () { s with heap:=g }):wpAny M A (noteFrame (.ref e) env) Q E s:=by
 obtain⟨oe,us,T,oT,ts,he,⟨rfl,rfl⟩,hd,h1,nT,ne,hT,dT,h3⟩:=ht;unfold noteFrame;simp only[hf];refine Ht (J4 he hd h1 ?_);rw[Hw (show (Value.ref T != Value.none)=true by simp)];refine Ht (J4 hT dT h3 ?_);rw[Hu (show ¬((Value.none == rawInt L)=true) by simp[rawInt])];refine Ht (J9 hT dT (Array.getElem?_eq_some_iff.mp h3).1 ?_);have ot:∀ b,b≠T->(s.heap.update T (Obj.mapFields (·.setIfInBounds 3 Value.none))).get? b=s.heap.get? b:=fun b z=>Heap.get?_update_other _ _ (Ik z)
 have nr:∀ b o,s.heap.get? b=some o->(∀ vs,o.data≠.fields vs)->b≠T:=fun b o q nf z=>by
  rw[z,hT]at q;cases q;exact nf ts dT
 refine AU fr (hl.of_keeps fun b o q nf=>⟨o,(ot b (nr b o q nf)).trans q,rfl⟩) hf ((ot e (Ik ne)).trans he) (fun b o q=>(ot b fun z=>by rw[z,nT]at q;cases q).trans (hk b o q)) hb hd (Array.getElem?_eq_some_iff.mp h1).1 fun g a1 a2 a3 a4=>h g a1 a2 a3 fun b o q nf=>?_;exact a4 b o ((ot b (nr b o q nf)).trans q) nf
theorem pq {l:List Env}{fl:Value}{Q:Unit->Shared->Prop}(hk:B.StaysIn s.heap)(hl:s.heap.FunFrames B l)(ht:DG s.heap B e c od fl)
  (h:∀ g,B.StaysIn g->g.FunFrames B l->DG g B e c od .none->s.heap.UpToSlots g->Q () { s with heap:=g }):wpAny M A (setFlight (.ref e) none) Q E s:=by
 obtain⟨oe,us,T,oT,ts,he,hc,hd,h1,nT,ne,hT,dT,h3⟩:=ht;have z3:3<ts.size:=(Array.getElem?_eq_some_iff.mp h3).1;have ot:∀ b,b≠T->(s.heap.update T (Obj.mapFields (·.setIfInBounds 3 ((none:Option Addr).elim Value.none fun f=>rawInt f)))).get? b=s.heap.get? b:=fun b z=>Heap.get?_update_other _ _ (Ik z)
 have nr:∀ b o,s.heap.get? b=some o->(∀ vs,o.data≠.fields vs)->b≠T:=fun b o q nf z=>by
  rw[z,hT]at q;cases q;exact nf ts dT
 unfold setFlight;refine Ht (J4 he hd h1 ?_);rw[Hw (show (Value.ref T != Value.none)=true by simp)];refine J9 hT dT z3 (h _ (fun b o q=>(ot b fun z=>by rw[z,nT]at q;cases q).trans (hk b o q)) (hl.of_keeps fun b o q nf=>⟨o,(ot b (nr b o q nf)).trans q,rfl⟩) ?_ fun b o q nf=>⟨o.slots,(ot b (nr b o q nf)).trans q⟩);exact⟨oe,us,T,_,_,(ot e (Ik ne)).trans he,hc,hd,h1,nT,ne,Heap.get?_update_self _ hT (Obj.isFreed_of_fields (J3 dT _)),J3 dT _,by simp[z3]⟩
theorem BX {g g' g'':Heap}(a:FW g g')(b:g'.UpToSlots g''):g.UpToSlots g'':=fun x o q nf=>by
 obtain⟨sl,z⟩:=a x o q nf;obtain⟨sl2,z2⟩:=b x _ z nf;exact⟨sl2,z2⟩
theorem uI {oe:Obj}{us:Array Value}{Q:Unit->Shared->Prop}(fr:A.frames=some (env::outer))(hf:env.frame=some L)(hk:B.StaysIn s.heap)(hl:s.heap.FunFrames B (env::outer))
  (he:s.heap.get? e=some oe) (hb:B.get? e=none) (hd:oe.data=.fields us) (h1:us[1]? = some .none)
  (hq:∀ g,k8 B outer e oe.cls oe.dict g->s.heap.UpToSlots g->Q () { s with heap:=g }):wpAny M A (leaving env (.ref e)) Q E s:=by
 unfold leaving;refine Ht (wU fr hl hf he hk hb hd h1 fun g a1 a2 a3 a4=>?_);exact pq (s:={ s with heap:=g }) a1 a2 a3 fun g2 b1 b2 b3 b4=>hq g2 ⟨b1,hb,b2.2.2,b3⟩ (BX a4 b4)
theorem xZ {Q:Unit->Shared->Prop}(fr:A.frames=some (env::outer))(hf:env.frame=some L)(fl:k8 B (env::outer) e c od s.heap)
  (hq:∀ g,k8 B outer e c od g->s.heap.UpToSlots g->Q () { s with heap:=g }):wpAny M A (leaving env (.ref e)) Q E s:=by
 obtain⟨f1,f2,f3,f4⟩:=fl;unfold leaving;refine Ht (qM fr f3 hf f4 f1 f2 fun g a1 a2 a3 a4=>?_);exact pq (s:={ s with heap:=g }) a1 a2 a3 fun g2 b1 b2 b3 b4=>hq g2 ⟨b1,f2,b2.2.2,b3⟩ (BX a4 b4)
theorem zY {Q:Unit->Shared->Prop}(fr:A.frames=some (env::outer))(hf:env.frame=some L)(fl:k8 B (env::outer) e c od s.heap)
  (hq:∀ g,DD B (env::outer) e c od L g->s.heap.UpToSlots g->Q () { s with heap:=g }):wpAny M A (noteFrame (.ref e) env) Q E s:=by
 obtain⟨f1,f2,f3,f4⟩:=fl;exact qM fr f3 hf f4 f1 f2 fun g a1 a2 a3 a4=>hq g ⟨a1,f2,a2,a3⟩ a4
theorem Ec {l:List Env}{Q:Unit->Shared->Prop}(hh:DD B l e c od L s.heap)(hq:∀ g,k8 B l e c od g->s.heap.UpToSlots g->Q () { s with heap:=g }):wpAny M A (setFlight (.ref e) none) Q E s:=by
 obtain⟨f1,f2,f3,f4⟩:=hh;exact pq f1 f3 f4 fun g a1 a2 a3 a4=>hq g ⟨a1,f2,a2,a3⟩ a4
theorem uH {l:List Env}{Q:Unit->Shared->Prop}(hh:k8 B l e c od s.heap)(hq:∀ g,k8 B l e c od g->s.heap.UpToSlots g->Q () { s with heap:=g }):wpAny M A (setFlight (.ref e) none) Q E s:=by
 obtain⟨f1,f2,f3,f4⟩:=hh;exact pq f1 f3 f4 fun g a1 a2 a3 a4=>hq g ⟨a1,f2,a2,a3⟩ a4
end
abbrev xu:List Value:=[.type "ValueError",.type "Exception",.type "BaseException",.type "object"]
def exOb (C t:Addr)(od:Option Addr):Obj:={ cls:=.ref C,dict:=od,data:=.fields #[.ref t,.none,.none,.none,.bool false,.none] }
def hV:List Value->Bool
 | .ref _::r=>hV r
 | l=>l == xu
theorem oP (self:Value):∀ {l:List Value},hV l=true->refuseLoop self "__setattr__" l=pure ()
 | .ref c::r,e=>by rw[refuseLoop_ref];exact oP self (l:=r) e
 | [],e=>by cases e
 | .type a::r,e=>by rw[show (.type a::r:List Value)=xu from J0.mp e];exact PySem.F.store_ValueError.passes self
 | .none::_,e=>by simp[hV,xu]at e
 | .bool _::_,e=>by simp[hV,xu]at e
 | .int _ _::_,e=>by simp[hV,xu]at e
 | .str _ _::_,e=>by simp[hV,xu]at e
 | .bytes _ _::_,e=>by simp[hV,xu]at e
 | .float _ _::_,e=>by simp[hV,xu]at e
 | .builtin _::_,e=>by simp[hV,xu]at e
 | .ellipsis::_,e=>by simp[hV,xu]at e
 | .notImplemented::_,e=>by simp[hV,xu]at e
def kE (K:PySem.W.Frag)(C fI:Addr):Bool:=match K.lookup C with
 | some ⟨.type "type",_,.cls cd,sl⟩=>(match cd.mro,sl.toList with
  | .ref D::bm,[_,_,_,_,some (.builtin n),_]=>D == C&&n == "ValueError.__new__"&&!cd.hasDel&&PySem.W.tailIn K xu bm&&PySem.W.nsOkIn K cd.ns&&PySem.W.nsIn K cd.ns "__init__" == some (some (.ref fI))
  | _,_=>false)
 | _=>false
theorem yf {K:PySem.W.Frag}{h:Heap}{N:Addr}{mg:Str->Option Value}{n:Str}{v:Value}(X:K.In h)(G:h.Ns N mg)(e:PySem.W.nsIn K N n=some (some v)):mg n=some v:=by
 obtain⟨o,es,ep,ho,hd,hk,hf⟩:=G;unfold PySem.W.nsIn at e;split at e
 ·rename_i oc od es2 n2 sl hl
  have:=X _ _ hl;rw[ho]at this;cases this;cases hd;split at e
  ·rename_i en he
   cases e;rw[<-hf n];unfold nsFind findBy;rw[<-Array.find?_toList,he];rfl
  ·split at e<;>cases e
 ·cases e
theorem wo {K:PySem.W.Frag}{h:Heap}{C fI:Addr}(X:K.In h)(q:kE K C fI=true) :
  ∃ bm N nm qn bs hdct sn sub ab col dd k0 k1 k2 k3 k5 mN,h.get? C=some (excClassObj nm qn C N bs bm hdct sn sub ab col dd k0 k1 k2 k3 k5 "ValueError.__new__")/\h.Ns N mN/\mN "__init__" = some (.ref fI)/\OwnTail h xu bm:=by
 unfold kE at q;split at q
 ·rename_i dd cd sl ho
  split at q
  ·rename_i D bm k0 k1 k2 k3 n k5 hm hs
   simp only[Jd,J0,Bool.not_eq_true']at q;obtain⟨⟨⟨⟨⟨rfl,rfl⟩,hdel⟩,ht⟩,hok⟩,hni⟩:=q;obtain⟨nm,bs,mro,ns,qn,hd,sn,sub,ab,col,del⟩:=cd;dsimp only at hm hdel hok hni;subst hm hdel
   have hsl:sl = #[k0,k1,k2,k3,some (.builtin "ValueError.__new__"),k5]:=by
    obtain⟨l⟩:=sl;simp only at hs;rw[hs]
   subst hsl;have G:h.Ns ns _:=.of_isNs (PySem.W.isNs_of_in X hok);exact⟨bm,ns,nm,qn,bs,hd,sn,sub,ab,col,dd,k0,k1,k2,k3,k5,_,X _ _ ho,G,yf X G hni,PySem.W.tail_of_in X ht⟩
  ·cases q
 ·cases q
structure F8 (K:PySem.W.Frag)(C:Addr)(f:Str):Prop where
 ga:PySem.W.findIn K (.ref C) "__getattribute__" = some (some (.builtin "BaseException.__getattribute__"))
 gh:PySem.W.findIn K (.ref C) "__getattr__" = some none
 sa:PySem.W.findIn K (.ref C) "__setattr__" = some (some (.builtin "object.__setattr__"))
 na:PySem.W.findIn K (.ref C) f=some none
 hd:PySem.W.hasDictIn K C=true
 mb:PySem.W.mroIn K C (.type "BaseException")=some true
 mo:PySem.W.mroIn K C (.type "object")=some true
 ov:((PySem.W.clsIn K C).any fun cd=>hV cd.mro)=true
section
variable {prog:Program}{w:World}{A:Around}{E:Value->Shared->Prop}{s:Shared}{K:PySem.W.Frag}{x dx C:Addr}{mA:Str->Option Value}{f:Str}{v:Value}
theorem Eg {t:Addr}{Q:Unit->Shared->Prop}(X:K.In s.heap)(c:F8 K C f)(hx:s.heap.get? x=some (exOb C t none))
  (h:∀ h' tk,h'.get? x=some (exOb C t (some s.heap.objs.size))->h'.Ns1 s.heap.objs.size (fun y=>if y=f then some v else none)->(∀ b o,b≠x->s.heap.get? b=some o->h'.get? b=some o)->Q () { s with heap:=h',toks:=tk }) :
  wpAny (model prog w) A (setAttr (.ref x) f v) Q E s:=by
 have J:PySem.W.InstAt s.heap x (exOb C t none) C none:=⟨hx,rfl,rfl,trivial⟩;have SF:=PySem.F.store_ValueError;obtain⟨cd,hcd,ho⟩:=PySem.W.any_some c.ov;obtain⟨cd',hcd',hd'⟩:=PySem.W.any_some c.hd
 have e0:cd'=cd:=by rw[hcd]at hcd';exact (Hy hcd').symm
 subst e0;have L0:=J.type (M:=model prog w);have sub:PySem.W.Looks (model prog w) s.heap (isInstance (.ref x) (.type "object")) true:=L0.andThen (PySem.W.looks_mroIn X c.mo);have hm:PySem.W.Looks (model prog w) s.heap (mroOf (.ref C)) cd'.mro:=(PySem.W.looks_clsIn X hcd).andThen .now;refine PySem.W.set_plain X J c.sa ?_;refine codeAny_call_builtin SF.slot.plain SF.entry (@PySem.W.check_slot (model prog w) _ _ { s with toks:=s.toks+1 } "object.__setattr__" "object" "__setattr__" (.ref x) [.str f s.toks,v] [] _ SF.kind SF.split sub (SF.args (.ref x) (.str f s.toks) v) ?_);rw[PySem.W.osa_eq,refuse_eq];refine Ht (Ht (L0 _ _ _ _ (fun _ _ e=>e) (Ht (hm _ _ _ _ (fun _ _ e=>e) ?_))));rw[oP _ ho];refine Hz (Ht (L0 _ _ _ _ (fun _ _ e=>e) (Ht (PySem.W.looks_findIn X c.na _ _ _ _ (fun _ _ e=>e) (Ht (Hz ?_))))));refine Ht (Hz (Ht (Ht (wpAny_loadPart hx (Ht (PySem.W.Looks.here (s:={ s with toks:=s.toks+1 }) (PySem.W.looks_clsIn X hcd) ?_))))));rw[hd'];rw[Hu (by decide)];have hxs:x≠s.heap.objs.size:=Ib (HQ hx);have hx1:(s.heap.push { cls:=.type "dict",data:=.dict #[] }).get? x=some (exOb C t none):=Heap.get?_push_of_some _ hx
 show wpAny (model prog w) A.in1 (alloc { cls:=.type "dict",data:=.dict #[] } >>= fun dA=>(update x fun o=>{ cls:=o.cls,dict:=some dA,data:=o.data,slots:=o.slots }) >>= fun _=>dictMade (Value.ref C) x dA) _ _ _
 refine Ht (wpAny_alloc' (Ht (wpAny_update' hx1 (Hz ?_))));generalize hg:((s.heap.push { cls:=.type "dict",data:=.dict #[] }).update x fun o=>{ cls:=o.cls,dict:=some s.heap.objs.size,data:=o.data,slots:=o.slots })=g1
 have hgd:g1.get? s.heap.objs.size=some { cls:=.type "dict",data:=.dict #[] }:=by
  rw[<-hg,Heap.get?_update_ne _ _ _ _ hxs.symm];exact Heap.get?_push_at rfl rfl
 have hgx:g1.get? x=some (exOb C t (some s.heap.objs.size)):=by rw[<-hg];exact Heap.get?_update_self _ hx1 rfl
 have hgo:∀ b o,b≠x->s.heap.get? b=some o->g1.get? b=some o:=fun b o n q=>by rw[<-hg,Heap.get?_update_ne _ _ _ _ n];exact Heap.get?_push_of_some _ q
 have hnd:g1.Ns s.heap.objs.size (fun _=>none):=⟨_,#[],_,hgd,rfl,fun e he=>absurd he (by simp),fun _=>rfl⟩
 show wpAny _ _ (Builtin.ObjectAttr.storeInDict s.heap.objs.size (.str f s.toks) f v) _ _ _
 unfold Builtin.ObjectAttr.storeInDict Builtin.ObjectAttr.newKeyGuard;refine Ht (Hz (Ht (wpAny_nsSet1 (Heap.Ns1.of_empty hnd) fun h' hn2 hs2=>?_)));obtain⟨oD,esD,epD,hoD,hdD,hcD⟩:=hn2.count (PySem.Within.cons f v PySem.Within.nil);refine Ht (wpAny_lookBehind hoD (by rw[hdD];exact pastItsLine_dict (Ix hcD (by rw[IN,List.length_nil,Jt];omega))) ?_);refine Hz (h h' _ ((hs2.2 x hxs).trans hgx) hn2 fun b o n q=>?_);exact (hs2.2 b (Ib (HQ q))).trans (hgo b o n q)
theorem Bo {t fI:Addr}{u:Value}{Q:Value->Shared->Prop}(X:K.In s.heap)(c:kE K C fI=true)(hx:s.heap.get? x=some (exOb C t none))
  (h:∀ h' t',h'.get? x=some (exOb C t' none)->(∀ b o,b≠x->s.heap.get? b=some o->h'.get? b=some o)->Q .none { s with heap:=h' }) :
  wpAny (model prog w) A (call (.builtin "ValueError.__init__") [.ref x,u]) Q E s:=by
 have F:=JK;obtain⟨bm,N,nm,qn,bs,hdct,sn,sub,ab,col,dd,k0,k1,k2,k3,k5,mN,hC,hN,hni,T⟩:=wo X c;obtain⟨hp,g,d,tk,os⟩:=s;refine Ka (codeAny_call_builtin F.init.plain F.initEntry (wpAny_check_init_subT F T hC hx rfl ?_));unfold Builtin.«BaseException.__init__»;dsimp only;rw[Hu (by simp)];unfold newTuple Builtin.BaseException.bexcPut;have hx1:=Heap.get?_push_of_some (h:=hp) { cls:=.type "tuple",data:=.seq #[u] } hx;refine Ht (IM (Ht (Ht (J4 hx1 rfl rfl (Ht (J9 hx1 rfl (by show 0<6;decide) ?_))))) (by size_fits));refine wpAny_letGo (Hz (h _ hp.objs.size ?_ fun b o n q=>?_))
 ·exact Heap.get?_update_self _ hx1 rfl
 ·rw[Heap.get?_update_other _ _ (Ik n)];exact Heap.get?_push_of_some _ q
end
end L2
namespace PySem
open Sem (wp)
section
variable {prog:Program}{w:World}{A:Around}{E:Value->Shared->Prop}{h:Heap}{g:Array GenState}{d:Drawn}{t:Nat}{os:OsState}
variable {nm q:Str}{C N:Addr}{bs bm bmB:List Value}{hdct:Bool}{sn:List Str}{sub:List Value}{ab:Bool}{col:Option Bool}{dd:Option Addr}{k0 k1 k2 k3 k5:Option Value}{B newId initId:String}
theorem mH (F:ExcBaseFacts B newId initId bmB)(T:OwnTail h bmB bm){mN:Str->Option Value}{rest:List Value}{fI:Addr}{oI:Obj}{Q:Fin->Shared->Prop}
  (hC:h.get? C=some (excClassObj nm q C N bs bm hdct sn sub ab col dd k0 k1 k2 k3 k5 newId)) (hn:h.Ns N mN) (hi:mN "__init__" = some (.ref fI)) (hfI:h.get? fI=some oI) (hfc:oI.cls=.type "function")
  (hq:∀ h' e,Heap.MadeExcOf h h' e (.ref C) rest->wpAny (model prog w) A (call (.ref fI) (.ref e::rest)) (fun r s'=>r=.none/\Q (.done (.ret (.ref e))) s') E ⟨h',g,d,t,os⟩) (hrest:rest.length<=sizeLine) :
  wpAny (model prog w) A (Builtin.«type.__call__» ⟨.ref C::rest,[]⟩) Q E ⟨h,g,d,t,os⟩:=by
 repeat (first | with_reducible refine J5 hC ?_ | with_reducible refine wpAny_madeBy_exc hC ?_ | wp_step)
 refine codeAny_call_builtin_code (Code.quiet_builtin _ F.quiet) (wpAny_check_new_subT F T hC ?_);refine codeAny_exc_new_subT F T hC ?_ hrest
 show wpAny _ _ _ _ _ _
 have keep:∀ b o,h.get? b=some o->((h.push { cls:=.type "tuple",data:=.seq rest.toArray }).push { cls:=.ref C,data:=.fields #[.ref h.objs.size,.none,.none,.none,.bool false,.none] }).get? b=some o:=fun b o e=>Heap.get?_push_of_some _ (Heap.get?_push_of_some _ e);have hC1:=keep _ _ hC;have hn1:=hn.keeps keep
 have hget:((h.push { cls:=.type "tuple",data:=.seq rest.toArray }).push { cls:=.ref C,data:=.fields #[.ref h.objs.size,.none,.none,.none,.bool false,.none] }).get? (h.objs.size+1)=some { cls:=.ref C,data:=.fields #[.ref h.objs.size,.none,.none,.none,.bool false,.none] }:=by heap_get
 have hcC:(Value.ref C::bm).contains (.ref C)=true:=by simp
 have T1:=T.keeps keep;unfold isInstance
 repeat (first | with_reducible refine J5 hget ?_ | (with_reducible refine wpAny_isSubtype_exc hC1 ?_;rw[hcC]) | wp_step)
 show wpAny _ _ (typeLookup (.ref C) _) _ _ _
 refine wpAny_typeLookup_tail hC1 hn1 T1 F.mroIs F.init.lookup ?_;rw[hi];refine Jf (Ht ?_);unfold bindSpecial;refine Ht (wpAny_typeOf (T:="function") ⟨_,keep _ _ hfI,hfc⟩ ?_);rw[Hw (by decide)];refine Hz (Ht (Il (hq _ (h.objs.size+1) ⟨keep,Heap.get?_none_of_le (Nat.le_succ _),h.objs.size,hget,Heap.get?_none_of_le (Hv _),Heap.get?_push_of_some _ (Heap.get?_push_at rfl rfl)⟩) (fun r s' hr=>?_) fun _ _ x=>x));obtain⟨rfl,hQ⟩:=hr
 wp_walk
 exact hQ
theorem vL (F:ExcBaseFacts B newId initId bmB)(T:OwnTail h bmB bm){mN:Str->Option Value}{rest:List Value}{fI:Addr}{oI:Obj}{Q:Value->Shared->Prop}
  (hC:h.get? C=some (excClassObj nm q C N bs bm hdct sn sub ab col dd k0 k1 k2 k3 k5 newId)) (hn:h.Ns N mN) (hi:mN "__init__" = some (.ref fI)) (hfI:h.get? fI=some oI) (hfc:oI.cls=.type "function")
  (hq:∀ h' e,Heap.MadeExcOf h h' e (.ref C) rest->wpAny (model prog w) (A.under (.builtin "type.__call__" ⟨.ref C::rest,[]⟩)) (call (.ref fI) (.ref e::rest)) (fun r s'=>r=.none/\Q (.ref e) s') E ⟨h',g,d,t,os⟩) (hrest:rest.length<=sizeLine) :
  wpAny (model prog w) A (call (.ref C) rest) Q E ⟨h,g,d,t,os⟩:=by
 have f1:=tc_lookup;have f2:=tc_bind (.ref C);have hT:(⟨h,g,d,t,os⟩:Shared).TypeIs (.ref C) "type":=⟨_,hC,rfl⟩;refine Ka (codeAny_of_tree ?_)
 show wpAny _ _ (callAny (.ref C) _) _ _ _
 repeat (any_goals (first | assumption | with_reducible refine J5 hC ?_ | wp_step))
 refine⟨rfl,?_⟩;refine codeAny_call_builtin_at (Code.quiet_builtin _ (by decide +kernel)) entry_typeCall (wpAny_check_type_call_sub hC (mH F T hC hn hi hfI hfc (fun h' e hm=>?_) hrest));exact hq h' e hm
theorem Cg {x:Sem Value}{s:Shared}{env:Env}{Q:Flow->Shared->Prop}(hbase:bm.contains (.type "BaseException")=true)(hh:A.handled=none)
  (h:wpAny (model prog w) A x (fun v s1=>∃ e t od,v=.ref e/\s1.heap.get? C=some (excClassObj nm q C N bs bm hdct sn sub ab col dd k0 k1 k2 k3 k5 newId)/\s1.heap.get? e=some (L2.exOb C t od)/\E (.ref e) s1) E s) :
  wpAny (model prog w) A (raiseStmt env (some x) none) Q E s:=by
 have hcB:(Value.ref C::bm).contains (.type "BaseException")=true:=by rw[List.contains_cons,hbase,Bool.or_true]
 unfold raiseStmt;refine Ht (Il h (fun v s1 h1=>?_) fun _ _ x=>x);obtain⟨e,t,od,rfl,hC,he,hE⟩:=h1;obtain⟨hp,g,d,tk,os⟩:=s1;unfold L2.exOb at he
 repeat (first | with_reducible refine J5 he ?_ | with_reducible refine J5 hC ?_ | (with_reducible refine wpAny_isSubtype_exc hC ?_;rw[hcB]) | wp_step)
 exact wpAny_raiseNew_none hh hE
end
end PySem
namespace L2
open PySem PySem.Spec PyProof.Rows
abbrev eL (K:PySem.W.Frag)(C:Addr):Prop:=PySem.W.excIn K C xu "ValueError.__new__" = true
theorem CI {K:PySem.W.Frag}{h:Heap}{C:Addr}(X:K.In h)(q:eL K C) :
  ∃ bm N nm qn bs hdct sn sub ab col dd k0 k1 k2 k3 k5 mN,h.get? C=some (excClassObj nm qn C N bs bm hdct sn sub ab col dd k0 k1 k2 k3 k5 "ValueError.__new__")/\h.Ns N mN/\mN "__init__" = none/\OwnTail h xu bm:=by
 have q:PySem.W.excIn K C xu "ValueError.__new__" = true:=q;unfold PySem.W.excIn at q;split at q
 ·rename_i dd cd sl ho
  split at q
  ·rename_i C' bm k0 k1 k2 k3 n k5 hm hs
   simp only[Jd,J0,Bool.not_eq_true']at q;obtain⟨⟨⟨⟨⟨rfl,rfl⟩,hdel⟩,ht⟩,hok⟩,hni⟩:=q;obtain⟨nm,bs,mro,ns,qn,hd,sn,sub,ab,col,del⟩:=cd;dsimp only at hm hdel hok hni;subst hm hdel
   have hsl:sl = #[k0,k1,k2,k3,some (.builtin "ValueError.__new__"),k5]:=by
    obtain⟨l⟩:=sl;simp only at hs;rw[hs]
   subst hsl;exact⟨bm,ns,nm,qn,bs,hd,sn,sub,ab,col,dd,k0,k1,k2,k3,k5,_,X _ _ ho,.of_isNs (PySem.W.isNs_of_in X hok),PySem.W.nsMap_none_of_in X hok hni,PySem.W.tail_of_in X ht⟩
  ·cases q
 ·cases q
def wk (e C:Addr)(od:Option Addr):HO:=.ext fun h=>∃ t,h.get? e=some (exOb C t od)
theorem xK {P:Program}{w:World}{H:Hp}{h:Heap}{e C t:Addr}{od:Option Addr}(q:h.get? e=some (exOb C t od)):bb P w H h e (wk e C od):=⟨⟨t,q⟩,⟨_,q⟩,fun h1 h2 ⟨t,q⟩ k=>⟨t,k _ q⟩⟩
def sU (H:Hp)(a:Addr):Hp:=fun b=>if b=a then none else H b
theorem j3 {H:Hp}{a b:Addr}(h:b≠a):sU H a b=H b:=by unfold sU;rw[Hu h]
theorem AB {H:Hp}{a:Addr}:sU H a a=none:=by unfold sU;rw[Hw rfl]
theorem ax.untrack {X:Cx}{pins:List (Addr×Obj)}{σ:St}{H:Hp}{s:Shared}{a:Addr}{φ:Heap->Prop}(I:ax X pins σ H s)(e:H a=some (.ext φ)):ax X pins σ (sU H a) s:=by
 have ne:∀ b o,H b=some o->(∀ ψ,o≠.ext ψ)->b≠a:=fun b o q n z=>by rw[z,e]at q;cases q;exact n _ rfl
 have u:Un X.fs [] H (sU H a) s.heap s.heap :=
  ⟨fun b o q _ _ _=>q,fun b o q _ _ _=>⟨o.slots,q⟩,fun b o q n _=>by unfold sU;split<;>first | rfl | exact n,fun b o q _=>⟨o,q⟩,fun b xs q=>by rw[j3 (ne b _ q fun ψ z=>nomatch z)];exact q,fun b o u q=>by rw[j3 (ne b _ q fun ψ z=>nomatch z)];exact q,fun b ps q=>⟨#[],by rw[j3 (ne b _ q fun ψ z=>nomatch z),q];simp⟩⟩
 have hk:i7 X.prog X.w (sU H a) s.heap:=fun b o q=>by
  by_cases hb:b=a
  ·rw[hb,AB]at q;cases q
  ·rw[j3 hb]at q
   exact (I.hok b o q).stay (fun c v _ r=>r) (fun c r=>by rw[j3 (ne c _ r fun ψ z=>nomatch z)];exact r) fun c xs r=>by rw[j3 (ne c _ r fun ψ z=>nomatch z)];exact r
 exact I.un (t':=s.toks) u hk
theorem bb.has {P:Program}{w:World}{H:Hp}{h:Heap}{a:Addr}{o:HO}(x:bb P w H h a o):∃ u,h.get? a=some u:=by
 cases o with
 | lst xs=>obtain⟨_,_,_,_,e⟩:=x;exact⟨_,e⟩
 | tup xs=>obtain⟨_,_,_,u,e,_⟩:=x;exact⟨u,e⟩
 | dK kvs=>obtain⟨_,_,_,_,o,_,_,e,_⟩:=x;exact⟨o,e⟩
 | dT kvs=>obtain⟨_,_,_,_,o,_,_,e,_⟩:=x;exact⟨o,e⟩
 | set S n=>obtain⟨o,_,_,_,e,_⟩:=x;exact⟨o,e⟩
 | ins C dx fs=>obtain⟨_,_,_,e,_⟩:=x;exact⟨_,e⟩
 | own y=>exact x
 | xd fs=>obtain⟨_,⟨o,_,_,e,_⟩,_⟩:=x;exact⟨o,e⟩
 | rng lo hi=>obtain⟨_,_,_,e⟩:=x;exact⟨_,e⟩
 | frz ob u=>obtain⟨e,_⟩:=x;exact⟨ob,e⟩
 | tbl ps=>exact⟨_,(show h.get? a=some _ from x)⟩
 | met f y=>exact⟨_,(show h.get? a=some _ from x)⟩
 | ext φ=>obtain⟨_,e,_⟩:=x;exact e
def iY (P:Program)(w:World):rP:=fun outer H s E e s'=>∃ (ea C:Addr)(od:Option Addr)(H':Hp)(B:Heap),e=.ref ea/\k8 B outer ea (.ref C) od s'.heap/\Un (gY outer) [] H H' s.heap s'.heap/\i7 P w H' s'.heap/\s'.os=s.os/\AllBare s'.gens /\
 (∀ b o,s.heap.get? b=some o->b∉gY outer->∃ o',B.get? b=some o')/\(∀ b o,H' b=some o->∃ o',B.get? b=some o')/\E (.ref C) od H'
theorem Cd {fs:List Addr}{H H':Hp}{h h1 h2 B:Heap}(u:Un fs [] H H' h h1)(b1:B.StaysIn h1)(b2:B.StaysIn h2)(hb:∀ b o,h.get? b=some o->b∉fs->∃ o',B.get? b=some o')(sl:∀ b o,b∈fs->h.get? b=some o->H b=none->∃ sl,h2.get? b=some { o with slots:=sl })(th:∀ b o,b∈fs->h.get? b=some o->∃ o',h2.get? b=some o'):Un fs [] H H' h h2:=by
 have eq:∀ b o,h.get? b=some o->b∉fs->h2.get? b=h1.get? b:=fun b o e hf=>by
  obtain⟨o',e'⟩:=hb b o e hf;rw[b1 b o' e',b2 b o' e']
 refine⟨fun b o e n hf hx=>(eq b o e hf).trans (u.keep b o e n hf hx),fun b o e n hf hx=>sl b o hf e n,u.free,fun b o e hx=>?_,u.tups,u.frzs,u.tbls⟩
 by_cases hf:b∈fs
 ·exact th b o hf e
 ·rw[eq b o e hf];exact u.there b o e hx
theorem xR {P:Program}{w:World}{H:Hp}{h1 h2 B:Heap}(x:i7 P w H h1)(b1:B.StaysIn h1)(b2:B.StaysIn h2)(hb:∀ b o,H b=some o->∃ o',B.get? b=some o'):i7 P w H h2:=fun a o e =>
 (x a o e).stay (fun b u hc q=>by
  have:∃ o',B.get? b=some o':=by
   rcases hc with z | z
   ·rw[z];exact hb a o e
   ·exact hb b _ z
  obtain⟨o',e'⟩:=this;rw[b1 b o' e']at q;rw[<-q]
  exact b2 b o' e') (fun _ q=>q) fun _ _ q=>q
def yF (X:Cx)(E:XK):Prop:=∀ (pins:List (Addr×Obj))(σ:St)(H:Hp)(s:Shared)(ea C t:Addr)(od:Option Addr),ax X pins σ H s->s.heap.get? ea=some (exOb C t od)->H ea=none->X.s₀.heap.get? ea=none->E (.ref C) od H->X.xe (.ref ea) s
section
variable {P:Program}{w:World}{K:PySem.W.Frag}{mg:Str->Option Value}{base:Heap}{N:List Str}{qual:Str}{sc:Scope}{f:Addr}{cd:Value}{A:Around}{outer:List Env}{s0:Shared}{H0:Hp}{E:XK}
theorem fL:yF (oX (iY P w) P w K mg base N qual sc f cd A outer s0 H0 E) E:=by
 intro pins σ H s ea C t od I hx hn hs hE
 let X:Cx:=oX (iY P w) P w K mg base N qual sc f cd A outer s0 H0 E
 show wpAny _ _ (leaving _ _) _ _ _
 have hstk:(X.A.frames:Option (List Env))=some (X.env::outer):=I.ok.frames
 have frS:gY X.stack=X.env.locals::gY outer:=by unfold gY;rfl
 let B:Heap:=PySem.W.hideAll s.heap (ea::gY X.stack)
 have hkb:B.StaysIn s.heap:=fun b o q=>PySem.W.of_hideAll _ q;have inB:∀ b o,s.heap.get? b=some o->b≠ea->b∉gY X.stack->B.get? b=some o:=fun b o e ne hf=>PySem.W.hideAll_get _ e (fun z=>(HW.mp z).elim ne hf);have hl:s.heap.FunFrames B (X.env::outer):=PySem.W.funFrames_hide I.stack fun env he a hf=>HL _ (List.mem_filterMap.mpr ⟨env,he,hf⟩);refine uI (s:=s) hstk rfl hkb hl hx (PySem.W.hideAll_none _ HV) rfl rfl fun h2 fl ups=>?_;have ltl:∀ b o,s0.heap.get? b=some o->b≠X.env.locals:=fun b o e=>Ib (Ij (HQ e) I.ok.above)
 have h0B:∀ b o,s0.heap.get? b=some o->b∉gY outer->∃ o',B.get? b=some o':=fun b o e hf=>by
  obtain⟨o',e'⟩:=I.base.there b o e (by intro z;exact absurd (show b∈([]:List Addr) from z) (by simp));refine⟨o',inB b o' e' (fun z=>?_) ?_⟩
  ·have hs':s0.heap.get? ea=none:=hs
   rw[z,hs']at e;cases e
  ·rw[frS]
   intro z;rcases HW.mp z with z | z
   ·exact ltl b o e z
   ·exact hf z
 have trB:∀ b o,H b=some o->∃ o',B.get? b=some o':=fun b o e=>by
  obtain⟨u,q⟩:=(I.hok b o e).has;exact⟨u,inB b u q (fun z=>by rw[z,hn]at e;cases e) fun z=>by rw[I.stkFree b z]at e;cases e⟩
 have noEx:∀ b,b∉X.ex:=fun b z=>absurd (show b∈([]:List Addr) from z) (by simp)
 have slot2:∀ b o,b∈gY outer->s0.heap.get? b=some o->H0 b=none->∃ sl,h2.get? b=some { o with slots:=sl }:=fun b o hf e n=>by
  obtain⟨sl,e1⟩:=I.base.slot b o e n hf (noEx b);obtain⟨_,o2,ho2,hnf⟩:=I.ok.funs.mem hf
  have e2:o2=o:=by
   have:s0.heap.get? b=some o2:=ho2;rw[e]at this;exact (Hy this).symm
  subst e2;obtain⟨sl2,e3⟩:=ups b _ e1 hnf;exact⟨sl2,e3⟩
 refine⟨ea,C,od,H,B,rfl,fl,?_,xR I.hok hkb fl.1 trB,I.os,I.bare,h0B,trB,hE⟩;refine Cd (h1:=s.heap) I.base hkb fl.1 h0B (fun b o hf e n=>?_) fun b o hf e=>?_
 ·exact slot2 b o hf e n
 ·obtain⟨sl,q⟩:=slot2 b o hf e (I.ok.frf b hf)
  exact⟨_,q⟩
theorem fi:dD (iY P w) (oX (iY P w) P w K mg base N qual sc f cd A outer s0 H0 E) E:=by
 intro pins σ H s e s' I hc;obtain⟨ea,C,od,H',B,rfl,fl,un,hok,os,bare,hsB,trB,hE⟩:=hc
 let X:Cx:=oX (iY P w) P w K mg base N qual sc f cd A outer s0 H0 E
 show wpAny _ _ (leaving _ _) _ _ _
 have hstk:(X.A.frames:Option (List Env))=some (X.env::outer):=I.ok.frames
 have frS:gY X.stack=X.env.locals::gY outer:=by unfold gY;rfl
 refine xZ hstk rfl fl fun h2 fl2 ups=>?_;have ltl:∀ b o,s0.heap.get? b=some o->b≠X.env.locals:=fun b o e=>Ib (Ij (HQ e) I.ok.above);have noEx:∀ b,b∉X.ex:=fun b z=>absurd (show b∈([]:List Addr) from z) (by simp)
 have h0B:∀ b o,s0.heap.get? b=some o->b∉gY outer->∃ o',B.get? b=some o':=fun b o e hf=>by
  obtain⟨o',e'⟩:=I.base.there b o e (noEx b);refine hsB b o' e' ?_;rw[frS];intro z;rcases HW.mp z with z | z
  ·exact ltl b o e z
  ·exact hf z
 have unS:Un (gY outer) [] H0 H' s0.heap s'.heap:=by
  have u1:Un (gY outer) [] H0 H s0.heap s.heap:=I.base;refine⟨fun b o e n hf hx=>?_,fun b o e n hf hx=>?_,fun b o e n hx=>?_,fun b o e hx=>?_,fun b xs q=>un.tups b xs (u1.tups b xs q),fun b o u q=>un.frzs b o u (u1.frzs b o u q),fun b ps q=>?_⟩
  ·refine un.keep b o (u1.keep b o e n hf hx) (u1.free b o e n hx) ?_ hx
   rw[frS];intro z;rcases HW.mp z with z | z
   ·exact ltl b o e z
   ·exact hf z
  ·obtain⟨sl,e1⟩:=u1.slot b o e n hf hx
   obtain⟨sl2,e2⟩:=un.slot b _ e1 (u1.free b o e n hx) (by rw[frS];exact HL _ hf) hx;exact⟨sl2,e2⟩
  ·obtain⟨o',e'⟩:=u1.there b o e hx
   exact un.free b o' e' (u1.free b o e n hx) hx
  ·obtain⟨o',e'⟩:=u1.there b o e hx
   exact un.there b o' e' hx
  ·obtain⟨m1,e1⟩:=u1.tbls b ps q
   obtain⟨m2,e2⟩:=un.tbls b _ e1;exact⟨m1++m2,by rw[e2,Array.append_assoc]⟩
 have slot2:∀ b o,b∈gY outer->s0.heap.get? b=some o->H0 b=none->∃ sl,h2.get? b=some { o with slots:=sl }:=fun b o hf e n=>by
  obtain⟨sl,e1⟩:=unS.slot b o e n hf (by simp);obtain⟨_,o2,ho2,hnf⟩:=I.ok.funs.mem hf
  have e2:o2=o:=by
   have:s0.heap.get? b=some o2:=ho2;rw[e]at this;exact (Hy this).symm
  subst e2;obtain⟨sl2,e3⟩:=ups b _ e1 hnf;exact⟨sl2,e3⟩
 refine⟨ea,C,od,H',B,rfl,fl2,?_,xR hok fl.1 fl2.1 trB,os.trans I.os,bare,h0B,trB,hE⟩;refine Cd (h1:=s'.heap) unS fl.1 fl2.1 h0B (fun b o hf e n=>slot2 b o hf e n) fun b o hf e=>?_;obtain⟨sl,q⟩:=slot2 b o hf e (I.ok.frf b hf);exact⟨_,q⟩
end
theorem ax.fresh0 {X:Cx}{pins:List (Addr×Obj)}{σ:St}{H:Hp}{s:Shared}{a:Addr}(I:ax X pins σ H s)(hx:a∉X.ex)(h:s.heap.get? a=none):X.s₀.heap.get? a=none:=by
 cases e:X.s₀.heap.get? a with
 | none=>rfl
 | some o =>
  obtain⟨o',q⟩:=I.base.there a o e hx;rw[h]at q;cases q
theorem ax.unheld {X:Cx}{pins:List (Addr×Obj)}{σ:St}{H:Hp}{s:Shared}{a:Addr}(I:ax X pins σ H s)(h:s.heap.get? a=none):H a=none:=by
 cases e:H a with
 | none=>rfl
 | some o =>
  obtain⟨u,q⟩:=(I.hok a o e).has;rw[h]at q;cases q
def EJ (te:TE)(C:Addr)(E:XK):TS:=fun _ σ H=>te σ H fun _ H1=>E (.ref C) none H1
theorem jH {X:Cx}{C:Addr}{E:XK}{x:Str}{e:Expr}{te:TE}{np cpos pos:Pos}(q:eL X.K C)(hfl:yF X E)(hex:X.ex=[])(hh:X.A.handled=none)(hg:Gl X x)(hm:X.mg x=some (.ref C))(he:PE X e te)
  (hdb:(x == ("__debug__" : Str))=false:=by decide) (hs:starEach [e] X.env=[(false,eval e X.env)]:=by rfl) :
  PS X (.Raise (some (.Call (.Name x np) [e] [] cpos)) none pos) (EJ te C E):=by
 intro pins s σ H D I h;obtain⟨bm,N,nm,qn,bs,hdct,sn,sub,ab,col,dd,k0,k1,k2,k3,k5,mN,hC,hN,hni,T⟩:=CI I.ok.mod.kin q
 refine wpAny_Raise_call_subT (C:=C) (nm:=nm) (q:=qn) (N:=N) (bs:=bs) (bm:=bm) (hdct:=hdct) (sn:=sn) (sub:=sub) (ab:=ab) (col:=col) (dd:=dd) (k0:=k0) (k1:=k1) (k2:=k2) (k3:=k3) (k5:=k5)
  JK (mN:=mN) (T.hasType JK.hasBase) hh (by rw[hs];rfl) hni (gj I hg hm ⟨rfl,?_⟩ hdb)
 rw[hs];refine Ji (IP (bc (he pins s σ H _ I h) fun u s1 ⟨v,H1,I1,rv,q1⟩=>JA ?_));refine⟨rfl,(show 1<=sizeLine by decide),I1.bk _ _ hC,hN.keeps I1.bk,T.keeps I1.bk,fun h' ea hx=>?_⟩;obtain⟨t,hea,_,_⟩:=hx.there;exact hfl pins σ H1 { s1 with heap:=h' } ea C t none (I1.kept (t':=s1.toks) hx.keeps) hea (I1.unheld hx.new) (I1.fresh0 (by rw[hex];simp) hx.new) q1
section
variable {X:Cx}{pins:List (Addr×Obj)}{σ:St}{H:Hp}{s:Shared}
theorem ax.laidN {a:Addr}{o:HO}{h':Heap}{t':Nat}(I:ax X pins σ H s)(k:∀ b u,s.heap.get? b=some u->h'.get? b=some u)(hp:s.heap.get? a=none)(new:bb X.prog X.w (upd H a o) h' a o) :
  ax X pins σ (upd H a o) { s with heap:=h',toks:=t' }:=by
 have hn:=I.unheld hp
 have ne:∀ b u,s.heap.get? b=some u->b≠a:=fun b u q z=>by rw[z,hp]at q;cases q
 refine I.un ⟨fun b u q _ _ _=>k b u q,fun b u q _ _ _=>⟨u.slots,k b u q⟩,fun b u q n _=>by rw[ae (ne b u q)];exact n,fun b u q _=>⟨u,k b u q⟩,fun b xs q=>by rw[ae (aj q hn)];exact q,fun b u xs q=>by rw[ae (aj q hn)];exact q,fun b ps q=>⟨#[],by rw[ae (aj q hn),q];simp⟩⟩ fun b u e=>?_
 by_cases hb:b=a
 ·subst hb;rw[ac]at e;cases e;exact new
 ·rw[ae hb]at e
  exact (I.hok b u e).stay (fun c v _ q=>k c v q) (fun c q=>by rw[ae (aj q hn)];exact q) fun c xs q=>by rw[ae (aj q hn)];exact q
end
inductive Dq (C:Addr) (f:Str) (vs:List V) (H:Hp) (Q:VK) (E_:XK):Prop
 | mk (ea:Addr) (g:Int) (h_0:vs=[.ref ea,.int g]) (h_1:g.natAbs<10 ^ 100) (h_2:H ea=some (wk ea C none)) (h_3:∀ dx,H dx=none->Q .non (upd (upd H ea (wk ea C (some dx))) dx (.xd [(f,.int g)]))):Dq C f vs H Q E_
theorem BB {X:Cx}{pl:Sem Bool}{W fI:Addr}{x:Str}{e:Expr}{es:List Expr}{t:TA}{np apos pos:Pos}(hg:Gl X x)(hm:X.mg x=some (.ref W))(hsp:PySem.W.specialIn X.K (.ref W) "__getattribute__" = some (some (.builtin "type.__getattribute__")))
  (hrd:PySem.W.readsIn X.K W (.type "type")=true) (hfc:PySem.W.findCls X.K (.ref W) (.type "type") "__init__" = some (.val (.builtin "ValueError.__init__"))) (ha:PA X (e::es) t)
  (hdb:(x == ("__debug__" : Str))=false:=by decide) (he:starEach (e::es) X.env=(false,eval e X.env)::starEach es X.env:=by rfl) (hpl:(backTo pos (starEach es X.env)).any (·.1)=false:=by rfl)
  (ht:eval (.Call (.Attribute (.Name x np) "__init__" apos) (e::es) [] pos) X.env=(do
   let ov <-eval (.Name x np) X.env
   standAt apos.atName
   let (f,first) <-holding [ov] (getMethod ov "__init__" pl)
   callWith pos f first (backTo pos (starEach (e::es) X.env)) (backToKw pos (keywordEach [] X.env))):=by rfl) :
  PE X (.Call (.Attribute (.Name x np) "__init__" apos) (e::es) [] pos) (fun σ H Q=>t σ H fun vs H1=>∃ ea C u,vs=[.ref ea,u]/\H1 ea=some (wk ea C none)/\kE X.K C fI=true/\Q .non H1):=by
 intro pins s σ H Q I h;refine PySem.W.methodCall_KW (pl:=pl) (gj I hg hm ?_ hdb) ht;refine PySem.W.method_cls I.kIn hsp (PySem.W.cls_value I.kIn hrd hfc rfl ?_);refine PyProof.Rows.callWith_builtin1 (bc (ha pos pins _ σ H _ (I.tok _) h) fun us s1 ⟨vs,H1,I1,r1,ea,C,v,ev,hx,c,q1⟩=>?_) he hpl;subst ev;obtain⟨u1,u2,rfl,ru1,ru2⟩:=r1.two;cases ru1;obtain⟨⟨t0,hx0⟩,_,_⟩:=(show bb X.prog X.w H1 s1.heap ea (wk ea C none) from I1.hok ea _ hx);refine Bo I1.kIn c hx0 fun h' t' q k=>?_
 have e:upd H1 ea (wk ea C none)=H1:=by funext b;unfold upd;split<;>rename_i z<;>first | (rw[z,hx]) | rfl
 refine⟨.non,H1,?_,rfl,q1⟩;have:=I1.write (x:=ea) (e:=ea) (o:=wk ea C none) (h':=h') (t':=s1.toks) (by rw[hx];exact True.intro) (.inl rfl) (fun b o n z=>k b o n z) ⟨_,q⟩ (xK q)
 rwa [e]at this
theorem BQ {X:Cx}{o value:Expr}{f:Str}{pos pos':Pos}{ta tv:TE}(ha:PE X o ta)(hv:PE X value tv)(hs:swapsWith value (some (.Attribute o f pos')) pos.line X.env=pure false) :
  PS X (.Assign [.Attribute o f pos'] value pos) (fun D σ H=>tv σ H fun y H1=>ta σ H1 fun x H2=>∃ ea C,x=.ref ea/\H2 ea=some (wk ea C none)/\F8 X.K C f/\∀ dx,H2 dx=none->D.nx σ (upd (upd H2 ea (wk ea C (some dx))) dx (.xd [(f,y)]))):=by
 intro pins s σ H D I h;refine plainObj_wpAny_Assign_Attribute (bc (hv pins s σ H _ I h) fun u s1 ⟨y,H1,I1,ry,q⟩=>bc (ha pins s1 σ H1 _ I1 q) fun ov s2 ⟨x,H2,I2,rx,ea,C,ex,hx,c,q2⟩=>?_) hs;subst ex;obtain rfl:ov=Value.ref ea:=rx;obtain⟨⟨t0,hx0⟩,_,_⟩:=(show bb X.prog X.w H2 s2.heap ea (wk ea C none) from I2.hok ea _ hx);refine Eg I2.kIn c hx0 fun h' tk hx1 hns k=>⟨σ,_,?_,q2 s2.heap.objs.size I2.fresh⟩;have hd:=I2.fresh
 have ned:s2.heap.objs.size≠ea:=fun z=>by rw[z,hx]at hd;cases hd
 have ne1:∀ b u,H2 b=some u->(∀ ψ,u≠.ext ψ)->b≠ea:=fun b u q n z=>by rw[z,hx]at q;cases q;exact n _ rfl
 have ned2:∀ b u,s2.heap.get? b=some u->b≠s2.heap.objs.size:=fun b u q=>Ib (HQ q)
 have up:∀ b u,H2 b=some u->(∀ ψ,u≠.ext ψ)->upd (upd H2 ea (wk ea C (some s2.heap.objs.size))) s2.heap.objs.size (.xd [(f,y)]) b=some u:=fun b u q n=>by
  rw[ae (aj q hd),ae (ne1 b u q n)];exact q
 refine I2.un ⟨fun b u q n _ _=>k b u (fun z=>by rw[z,hx]at n;cases n) q,fun b u q n _ _=>⟨u.slots,k b u (fun z=>by rw[z,hx]at n;cases n) q⟩,fun b u q n _=>?_,fun b u q _=>?_,fun b xs q=>up b _ q (fun ψ z=>nomatch z),fun b u xs q=>up b _ q (fun ψ z=>nomatch z),fun b ps q=>⟨#[],by rw[up b _ q (fun ψ z=>nomatch z)];simp⟩⟩ fun b u q=>?_
 ·rw[ae (ned2 b u q),ae (fun z=>by rw[z,hx]at n;cases n)];exact n
 ·by_cases hb:b=ea
  ·exact⟨_,by rw[hb];exact hx1⟩
  ·exact⟨u,k b u hb q⟩
 ·by_cases hb:b=s2.heap.objs.size
  ·rw[hb,ac]at q
   cases q;rw[hb];refine⟨_,hns,fun g=>?_⟩
   show gW (List.lookup g [(f,y)]) (if g=f then some _ else none)
   by_cases hgf:g=f
   ·rw[Hw hgf,hgf];simp only[List.lookup,beq_self_eq_true];exact ry
   ·have hb:(g == f)=false:=I0.mpr hgf
    rw[Hu hgf];simp only[List.lookup,hb];trivial
  ·rw[ae hb]at q
   by_cases hb2:b=ea
   ·rw[hb2,ac]at q
    cases q;rw[hb2];exact xK hx1
   ·rw[ae hb2]at q
    refine (I2.hok b u q).stay (fun c v hc r=>k c v ?_ r) (fun c r=>up c _ r fun ψ z=>nomatch z) fun c xs r=>up c _ r fun ψ z=>nomatch z
    rcases hc with z | z
    ·rw[z];exact hb2
    ·exact ne1 c _ z fun ψ z=>nomatch z
def zr (te:TE)(C:Addr)(f:Str)(E:XK):TS:=fun _ σ H=>te σ H fun v H1=>∃ g:Int,v=.int g/\g.natAbs<10 ^ 100/\∀ dx,H1 dx=none->E (.ref C) (some dx) (upd H1 dx (.xd [(f,.int g)]))
theorem Am {X:Cx}{C fI:Addr}{k:Nat}{fd:FuncData}{E:XK}{x f sl gp:Str}{e:Expr}{te:TE}{np cpos pos:Pos}(c:kE X.K C fI=true)(hfn:PySem.W.typeIn X.K (.ref fI)=some (.type "function"))
  (G:aS X.prog X.w X.K X.mg X.base cJ k fI fd [sl,gp] (Dq C f)) (hr:cx (k+1) X.A) (hb:d9 X.K fd [sl,gp] [])
  (hfl:yF X E) (hex:X.ex=[]) (hh:X.A.handled=none) (hg:Gl X x) (hm:X.mg x=some (.ref C)) (he:PE X e te)
  (hdb:(x == ("__debug__" : Str))=false:=by decide) (hs:starEach [e] X.env=[(false,eval e X.env)]:=by rfl) :
  PS X (.Raise (some (.Call (.Name x np) [e] [] cpos)) none pos) (zr te C f E):=by
 intro pins s σ H D I h;obtain⟨bm,N,nm,qn,bs,hdct,sn,sub,ab,col,dd,k0,k1,k2,k3,k5,mN,hC,hN,hni,T⟩:=wo I.ok.mod.kin c;have F:=JK;have hbase:=T.hasType F.hasBase;rw[arm_exec_Raise];refine Ht (IT (Cg (C:=C) (nm:=nm) (q:=qn) (N:=N) (bs:=bs) (bm:=bm) (hdct:=hdct) (sn:=sn) (sub:=sub) (ab:=ab) (col:=col) (dd:=dd) (k0:=k0) (k1:=k1) (k2:=k2) (k3:=k3) (k5:=k5) (newId:="ValueError.__new__") hbase hh (Ht (Il (wpAny_Call_ofName (gj I hg hm ?_ hdb)) (fun v s3 h3=>Ht (IT (Hz h3))) fun _ _ x=>x))));rw[hs];unfold callWith;refine Ht (Jf (Ji (IP (bc (he pins s σ H _ I h) fun u s1 ⟨v,H1,I1,rv,g,ev,hgb,q1⟩=>JA (Ht (IT ?_))))));subst ev;dsimp only;have hC1:=I1.bk _ _ hC;have hN1:=hN.keeps I1.bk;have T1:=T.keeps I1.bk
 have hf1:∃ oI,s1.heap.get? fI=some oI/\oI.cls=.type "function":=by
  unfold PySem.W.typeIn at hfn;obtain⟨o,ho,hc⟩:=Option.map_eq_some_iff.mp hfn;exact⟨o,I1.kIn _ _ ho,hc⟩
 obtain⟨oI,hfI,hfc⟩:=hf1;obtain⟨hp,gs,d,tk,os⟩:=s1;refine Ht (wpAny_keeperOf_exc hC1 ?_);refine Ht (vL (rest:=[u]) F T1 hC1 hN1 hni hfI hfc (fun h' ea hx=>?_) (show 1<=sizeLine by decide));obtain⟨t0,hea,_,_⟩:=hx.there;have hfr:=I1.fresh0 (by rw[hex];simp) hx.new;have A4:=I1.unheld hx.new;have I2:ax X pins σ (upd H1 ea (wk ea C none)) ⟨h',gs,d,tk,os⟩:=I1.laidN (a:=ea) (o:=wk ea C none) (h':=h') (t':=tk) hx.keeps hx.new (xK hea);have r2:aQ [V.ref ea,V.int g] [Value.ref ea,u]:=.cons rfl (.cons rv .nil)
 refine Ka (Jx (G.run _ X.stack _ _ ⟨[Value.ref ea,u],[]⟩ [Value.ref ea,u] [V.ref ea,V.int g] (fun v H3=>v=.non/\∃ dx,H1 dx=none/\dx≠ea/\H3=upd (upd (upd H1 ea (wk ea C none)) ea (wk ea C (some dx))) dx (.xd [(f,.int g)])) E0 (hr.make C [u] [])
  (I2.env0.make C [u] []) (hb _ [Value.ref ea,u] I2.kIn rfl) r2 ⟨ea,g,rfl,hgb,ac,fun dx hdx=>⟨rfl,dx,?_,?_,rfl⟩⟩) fun r s' hq'=>?_)
 ·by_cases z:dx=ea
  ·rw[z,ac]at hdx;cases hdx
  ·rwa [ae z]at hdx
 ·intro z;rw[z,ac]at hdx;cases hdx
 cases r with
 | error e=>exact hq'.elim
 | ok fl =>
  cases fl with
  | ret u2 =>
   obtain⟨v,H3,I3,rv3,ev,dx,hdx,hne,eH⟩:=I2.after hq';subst ev;refine⟨rv3,Ht (Jf (wpAny_point (Hz ?_)))⟩
   have h3:H3 ea=some (wk ea C (some dx)):=by rw[eH,ae (Ik hne),ac]
   obtain⟨⟨t3,hx3⟩,_,_⟩:=(show bb X.prog X.w H3 s'.heap ea (wk ea C (some dx)) from I3.hok ea _ h3);have I4:=I3.untrack (φ:=fun h=>∃ t,h.get? ea=some (exOb C t (some dx))) h3
   have e4:sU H3 ea=upd H1 dx (.xd [(f,.int g)]):=by
    funext b
    unfold sU
    by_cases hb:b=ea
    ·rw[Hw hb,hb,ae (Ik hne),A4]
    ·rw[Hu hb,eH]
     by_cases hd:b=dx
     ·rw[hd,ac,ac]
     ·rw[ae hd,ae hb,ae hb,ae hd]
   rw[e4]at I4;exact⟨ea,t3,some dx,rfl,I4.bk _ _ hC,hx3,hfl pins σ _ s' ea C t3 (some dx) I4 hx3 (by rw[ae (Ik hne)];exact A4) hfr (q1 dx hdx)⟩
  | next=>exact hq'.elim
  | brk=>exact hq'.elim
  | cont=>exact hq'.elim
def DY (X:Cx)(pins:List (Addr×Obj))(σ:St)(H:Hp)(ea C:Addr)(od:Option Addr)(B:Heap)(s':Shared):Prop:=H ea=none/\∀ h2,k8 B X.stack ea (.ref C) od h2->s'.heap.UpToSlots h2->ax X pins σ H { s' with heap:=h2 }
theorem C3 {X:Cx}{pins:List (Addr×Obj)}{σ:St}{H H':Hp}{s s':Shared}{ea C:Addr}{od:Option Addr}{B:Heap}(I:ax X pins σ H s)(fl:k8 B X.stack ea (.ref C) od s'.heap)(un:Un (gY X.stack) [] H H' s.heap s'.heap)(hok:i7 X.prog X.w H' s'.heap)(os:s'.os=s.os)(bare:AllBare s'.gens)
  (hsB:∀ b o,s.heap.get? b=some o->b∉gY X.stack->∃ o',B.get? b=some o') (trB:∀ b o,H' b=some o->∃ o',B.get? b=some o'):DY X pins σ H' ea C od B s':=by
 refine⟨?_,fun h2 fl2 ups=>?_⟩
 ·cases e:H' ea with
  | none=>rfl
  | some o =>
   obtain⟨o',q⟩:=trB ea o e;rw[fl.2.1]at q;cases q
 have slot2:∀ b o,b∈gY X.stack->s.heap.get? b=some o->H b=none->∃ sl,h2.get? b=some { o with slots:=sl }:=fun b o hf e n=>by
  obtain⟨sl,e1⟩:=un.slot b o e n hf (by simp);obtain⟨_,o2,ho2,hnf⟩:=I.stack.mem hf
  have e2:o2=o:=by
   have:s.heap.get? b=some o2:=ho2;rw[e]at this;exact (Hy this).symm
  subst e2;obtain⟨sl2,e3⟩:=ups b _ e1 hnf;exact⟨sl2,e3⟩
 refine I.call' (ch:=[]) (s':={ s' with heap:=h2 }) os ?_ (xR hok fl.1 fl2.1 trB) bare fun b z=>absurd z (by simp);refine Cd (h1:=s'.heap) un fl.1 fl2.1 hsB (fun b o hf e n=>slot2 b o hf e n) fun b o hf e=>?_;obtain⟨sl,q⟩:=slot2 b o hf e (I.stkFree b hf);exact⟨_,q⟩
def Cx.marked (X:Cx)(ea:Addr)(oe:Obj):Cx:={ X with A:=X.A.mark (some (.ref ea)),calm:=false,xe:=fun _ _=>False,pn:=(ea,oe)::X.pn }
theorem ax.marked {X:Cx}{pins:List (Addr×Obj)}{σ:St}{H:Hp}{s:Shared}{ea:Addr}{oe:Obj}{us:Array Value}(I:ax X pins σ H s)(he:s.heap.get? ea=some oe)(hd:oe.data=.fields us)(hn:H ea=none):ax (X.marked ea oe) pins σ H s:=by
 refine⟨⟨I.ok.mod,I.ok.kind,I.ok.glob,I.ok.blt,I.ok.above,I.ok.inj,I.ok.has,I.ok.cab,fun z=>(by cases z),I.ok.frames,I.ok.stk,I.ok.exf,I.ok.bs,I.ok.bsz,I.ok.noex,I.ok.exfs,I.ok.funs,I.ok.frf⟩,I.os,I.bare,I.base,I.loc,I.cell,I.free,I.freeC,fun p hp=>?_,I.hok,I.len⟩;rcases HW.mp (show p∈(ea,oe)::(X.pn++pins) from hp) with z | z
 ·subst z
  refine⟨he,hn,fun z=>?_,fun z=>?_,fun v z=>?_⟩
  ·obtain⟨m,⟨o,es,ep,ho,hdd,_⟩,_⟩:=I.loc
   have z:ea=X.env.locals:=z;rw[<-z,he]at ho;cases ho;rw[hd]at hdd;cases hdd
  ·obtain⟨_,o,ho,nf⟩:=I.funs.mem z
   rw[he]at ho;cases ho;exact nf us hd
  ·have z:oe.data=.cell v:=z
   rw[hd]at z;cases z
 ·exact I.pin p z
theorem ax.unmarked {X:Cx}{pins:List (Addr×Obj)}{σ:St}{H:Hp}{s:Shared}{ea:Addr}{oe:Obj}(ok:X.Ok)(I:ax (X.marked ea oe) pins σ H s):ax X pins σ H s :=
 ⟨ok,I.os,I.bare,I.base,I.loc,I.cell,I.free,I.freeC,fun p hp=>I.pin p (show p∈(ea,oe)::(X.pn++pins) from HL _ hp),I.hok,I.len⟩
theorem SP.unmarked {X:Cx}{pins:List (Addr×Obj)}{D:im}{f:Flow}{s':Shared}{ea:Addr}{oe:Obj}(ok:X.Ok)(h:SP (X.marked ea oe) pins D f s'):SP X pins D f s':=by
 cases f with
 | next=>obtain⟨σ',H',I,q⟩:=h;exact⟨σ',H',I.unmarked ok,q⟩
 | brk=>obtain⟨σ',H',I,q⟩:=h;exact⟨σ',H',I.unmarked ok,q⟩
 | cont=>obtain⟨σ',H',I,q⟩:=h;exact⟨σ',H',I.unmarked ok,q⟩
 | ret u=>obtain⟨v,σ',H',I,r,q⟩:=h;exact⟨v,σ',H',I.unmarked ok,r,q⟩
def FU (X:Cx)(hdl:List ExceptHandler)(th:Value->Option Addr->TS):Prop:=∀ (pins:List (Addr×Obj))(σ:St)(H:Hp)(D:im)(ea C:Addr)(od:Option Addr)(B:Heap)(s':Shared)(h:Heap),DY X pins σ H ea C od B s'->k8 B X.stack ea (.ref C) od h->s'.heap.UpToSlots h->th (.ref C) od D σ H ->
 wpAny (model X.prog X.w) X.A (handleBy (.ref ea) X.env hdl) (SP X pins D) X.xe { s' with heap:=h }
theorem Df {X:Cx}{y:Str}{C1:Addr}{b0:Stmt}{suite:List Stmt}{t1:TS}{th:Value->Option Addr->TS}{np pos:Pos}{rest:List ExceptHandler}(hg:Gl X y)(hm:X.mg y=some (.ref C1))(hs:∀ ea oe,vR (X.marked ea oe) (b0::suite) t1)(hr:FU X rest th)
  (hdb:(y == ("__debug__" : Str))=false:=by decide):FU X (.ExceptHandler (some (.Name y np)) none (b0::suite) pos::rest) (fun cls od D σ H=>∃ b,PySem.W.exmOne X.K cls (.ref C1)=some b/\if b=true then t1 D σ H else th cls od D σ H):=by
 intro pins σ H D ea C od B s' h ld fl ups ht;obtain⟨b,hb,ht⟩:=ht;have I:=ld.2 h fl ups;obtain⟨ob,us,hob,hobc,hobd,hobf⟩:=fl.obj;have Im:=I.marked (ea:=ea) hob hobf ld.1
 have LT:PySem.W.Looks (model X.prog X.w) h (typeOf (.ref ea)) (.ref C):=by
  rw[<-hobc];exact (PySem.W.Looks.ld hob).andThen .now
 refine wpAny_handleBy_cons (codeAny_handlers_test (gj (X:=X.marked ea ob) Im hg hm ?_ hdb)) (by intro z;cases z);refine (PySem.W.exm_one (K:=X.K) I.kIn LT hb).here ?_
 cases b with
 | true =>
  rw[Hw rfl]at ht;refine codeAny_handlers_suite ?_;refine uH fl fun h6 fl6 ups6=>?_;obtain⟨oe,us6,hoe,hoec,hoed,hoef⟩:=fl6.obj;have I6:=(ld.2 h6 fl6 (ups.trans ups6)).marked (ea:=ea) hoe hoef ld.1;exact Il (hs ea oe pins _ σ H D I6 ht) (fun f s2 hq=>hq.unmarked I.ok) fun _ _ z=>z.elim
 | false =>
  rw[Hu HN]at ht;exact hr pins σ H D ea C od B s' h ld fl ups ht
theorem Eo {X:Cx}:FU X [] (fun _ _ _ _ _=>False):=fun _ _ _ _ _ _ _ _ _ _ _ _ _ h=>h.elim
theorem dv.okX {P:Program}{w:World}{K:PySem.W.Frag}{mg:Str->Option Value}{base:Heap}{x qual:Str}{st:Stmt}{f:Addr}{fd:FuncData}{N ps:List Str}{k:Nat}{sp:Sp}(F:dv K x qual st f fd)(S:au N ps (ai st))(len:∀ vs H Q E,sp vs H Q E->vs.length=ps.length)
  (hbody:∀ (cdv:Value)(A:Around)(outer:List Env)(s:Shared)(H:Hp)(vs:List V)(Q:VK)(E:XK),cx k (A.deeper (envOfC qual (ai st) s.heap.objs.size f cdv))->sp vs H Q E ->
   ∃ t,vR (oX (iY P w) P w K mg base N qual (ai st) f cdv A outer s H E) (c8 st) t/\t { nx:=fun _ H'=>Q .non H',rt:=Q } (kA N vs) H):aS P w K mg base (iY P w) (k+1) f fd ps sp:=by
 obtain⟨oc,od,kV,doc,pm,an,cdv,ct,osl,rfl,lk,hcd⟩:=F.ex;exact AZ lk hcd S len fun A outer s H vs Q E hr hsp=>hbody cdv A outer s H vs Q E hr hsp
def PJ (X:Cx)(es:List Expr)(t:TA):Prop:=∀ (out:Str)(m:Nat)(pins:List (Addr×Obj))(s:Shared)(σ:St)(H:Hp)(Q:VK),out.length<=1000*m->m+es.length<=100->ax X pins σ H s->t σ H (fun _ H'=>∀ x:Str,Q (.str x) H')->wpAny (model X.prog X.w) X.A (joinParts out (evalEach es X.env)) (EP X pins σ Q) X.xe s
theorem rc {X:Cx}:PJ X [] vI:=by
 intro out m pins s σ H Q ho hm I h;refine joinParts_nil ⟨.str out,H,I.tok _,⟨_,rfl⟩,h out⟩ ?_;exact Ix ho (Ix (Nat.mul_le_mul_left 1000 (show m<=100 by simpa using hm)) (by decide))
def tJ (te:TE)(t:TA):TA:=fun σ H Q=>te σ H fun x H1=>∃ y:Str,x=.str y/\y.length<=1000/\t σ H1 Q
theorem c9 {X:Cx}{e:Expr}{es:List Expr}{te:TE}{t:TA}(he:PE X e te)(h:PJ X es t):PJ X (e::es) (tJ te t):=by
 intro out m pins s σ H Q ho hm I hq
 show wpAny _ _ (joinParts out (eval e X.env::evalEach es X.env)) _ _ s
 refine joinParts_cons (bc (he pins s σ H _ I hq) fun u s1 ⟨x,H1,I1,rx,y,ex,hy,q1⟩=>?_);subst ex;obtain⟨tk,rfl⟩:=rx
 have hl:(out++y).length<=1000*(m+1):=by rw[strLen_append];omega
 rw[IN]at hm;refine⟨Ix hl (Ix (Nat.mul_le_mul_left 1000 (show m+1<=100 by omega)) (by decide)),?_⟩;exact h (out++y) (m+1) pins s1 σ H1 Q hl (by omega) I1 q1
def Hi (t:TA):TE:=fun σ H Q=>t σ H fun _ H'=>∀ x:Str,Q (.str x) H'
theorem lX {X:Cx}{e1 e2:Expr}{es:List Expr}{t:TA}{pos:Pos}(h:PJ X (e1::e2::es) t)(hn:(e1::e2::es).length<=100:=by decide):PE X (.JoinedStr (e1::e2::es) pos) (Hi t):=by
 intro pins s σ H Q I hq;refine JoinedStr_many ?_;exact h Str.empty 0 pins s σ H Q (by show 0<=_;exact Ip _) (by simpa using hn) I hq
def Hh (te:TE):TE:=fun σ H Q=>te σ H fun x H1=>∃ i:Int,x=.int i/\i.natAbs<10 ^ 100/\∀ y:Str,y.length<=1000->Q (.str y) H1
theorem iI {X:Cx}{e:Expr}{te:TE}{pos:Pos}(he:PE X e te):PE X (.FormattedValue e (-1) none pos) (Hh te):=by
 intro pins s σ H Q I h;refine FormattedValue_plain (bc (he pins s σ H _ I h) fun u s1 ⟨x,H1,I1,rx,i,ex,hi,q⟩=>?_);subst ex;obtain⟨tk,rfl⟩:=rx
 have hd:i.natAbs.log2<1920:=by
  by_cases h0:i.natAbs=0
  ·rw[h0];decide
  ·exact (Nat.log2_lt h0).mpr (Ij hi (by decide +kernel))
 refine wpAny_formatField_int hd ⟨.str (toString i),H1,I1.tok _,⟨_,rfl⟩,q _ ?_⟩;have:=PySem.int_text_length_le10 (a:=i) (k:=100) (by decide) hi
 show (Str.ofString (toString i)).length<=1000
 rw[PySem.ofString_length];omega
end L2
namespace Wz
open PySem L2
def aK (P:Program)(w:World)(K:PySem.W.Frag)(mg:Str->Option Value)(base:Heap)(CX:rP)(C:Addr)(m:Str)(k:Nat)(ps:List Str)(sp:Sp):Prop :=
 ∃ (f:Addr)(fd:FuncData),aS P w K mg base CX k f fd ps sp/\Cs K C m f/\d9 K fd ps []
def XCallee (P:Program)(w:World)(K:PySem.W.Frag)(mg:Str->Option Value)(base:Heap)(x:Str)(k:Nat)(ps:List Str)(sp:Sp):Prop :=
 ∃ (f:Addr)(fd:FuncData),aS P w K mg base (iY P w) k f fd ps sp/\mg x=some (.ref f)/\PySem.W.keepIn K (.ref f)=true/\d9 K fd ps []
section
variable {X:Cx}{CX:rP}{k:Nat}{C:Addr}{ps:List Str}{sp:Sp}{E:XK}{m x:Str}{p pos apos:Pos}{e o:Expr}{es:List Expr}{ta:TE}{t:TA}
theorem dG {pl:Sem Bool}(M:aK X.prog X.w X.K X.mg X.base CX C m k ps sp)(he:PE X o ta)(c:zy X.K C)(hr:cx k X.A)(hx:dD CX X E)(ha:PA X (e::es) t)
  (hst:starEach (e::es) X.env=(false,eval e X.env)::starEach es X.env:=by rfl) (hpl:(backTo pos (starEach es X.env)).any (·.1)=false:=by rfl)
  (ht:eval (.Call (.Attribute o m apos) (e::es) [] pos) X.env=(do
   let ov <-eval o X.env
   standAt apos.atName
   let (f,first) <-holding [ov] (getMethod ov m pl)
   callWith pos f first (backTo pos (starEach (e::es) X.env)) (backToKw pos (keywordEach [] X.env))):=by rfl) :
  PE X (.Call (.Attribute o m apos) (e::es) [] pos) (zp C m sp [] E ta t):=by
 obtain⟨f,fd,G,hm,hb⟩:=M;exact Dc he c hm G hr hb .nil hx ha hst hpl ht
theorem re {pl:Sem Bool}(M:aK X.prog X.w X.K X.mg X.base CX C m k ps sp)(he:PE X o ta)(c:zy X.K C)(hr:cx k X.A)(hx:dD CX X E)
  (ht:eval (.Call (.Attribute o m apos) [] [] pos) X.env=(do
   let ov <-eval o X.env
   standAt apos.atName
   let (f,first) <-holding [ov] (getMethod ov m pl)
   callWith pos f first (backTo pos (starEach [] X.env)) (backToKw pos (keywordEach [] X.env))):=by rfl) :
  PE X (.Call (.Attribute o m apos) [] [] pos) (zp C m sp [] E ta vI):=by
 obtain⟨f,fd,G,hm,hb⟩:=M;exact BH he c hm G hr hb .nil hx ht
theorem rh (M:XCallee X.prog X.w X.K X.mg X.base x k ps sp)(hr:cx k X.A)(hg:Gl X x)(hx:dD (iY X.prog X.w) X E)(ha:PA X (e::es) t)
  (hdb:(x == ("__debug__" : Str))=false:=by decide) (he:starEach (e::es) X.env=(false,eval e X.env)::starEach es X.env:=by rfl) (hpl:(backTo pos (starEach es X.env)).any (·.1)=false:=by rfl) :
  PE X (.Call (.Name x p) (e::es) [] pos) (zo sp [] E t):=by
 obtain⟨f,fd,G,hm,hk,hb⟩:=M;exact zc G hr hg hm hk hb .nil hx ha hdb he hpl
end
inductive aT where
 | come (g:Int) | go (g:Int) | exch (a b:Int)
 deriving DecidableEq
def de:aT->HO
 | .come g=>.tup [.str "come",.int g]
 | .go g=>.tup [.str "go",.int g]
 | .exch a b=>.tup [.str "exchange",.int a,.int b]
structure b7 where
 worn:List (Int×Int)
 hold:List (Int×Int)
 circ:List (Int×List Int)
 deeds:List aT
def df:List Addr->List (Int×List Int)->List (bP×V)
 | a::as,x::xs=>(Sum.inl x.1,V.ref a)::df as xs
 | _,_=>[]
def tQ (ks:List Int):List (bP×V):=ks.map fun k=>(Sum.inl k,V.bl true)
structure HA where
 dx:Addr
 w:Addr
 h:Addr
 c:Addr
 d:Addr
 cs:List Addr
def HA.fp (A:HA):List Addr:=A.w::A.h::A.c::A.d::A.cs
def bn (A:HA):List (Str×V):=hW "deeds" (.ref A.d) (hW "circles" (.ref A.c) (hW "holders" (.ref A.h) (hW "worn" (.ref A.w) [])))
theorem s1:¬ (("worn" : Str)="holders"):=by decide +kernel
theorem s2:¬ (("worn" : Str)="circles"):=by decide +kernel
theorem s3:¬ (("worn" : Str)="deeds"):=by decide +kernel
theorem s4:¬ (("holders" : Str)="circles"):=by decide +kernel
theorem s5:¬ (("holders" : Str)="deeds"):=by decide +kernel
theorem s6:¬ (("circles" : Str)="deeds"):=by decide +kernel
theorem xQ (A:HA):(bn A).lookup ("worn" : Str)=some (.ref A.w):=by
 unfold bn;rw[aW,Hu s3,aW,Hu s2,aW,Hu s1,aW,Hw rfl]
theorem CQ (A:HA):(bn A).lookup ("holders" : Str)=some (.ref A.h):=by
 unfold bn;rw[aW,Hu s5,aW,Hu s4,aW,Hw rfl]
theorem CP (A:HA):(bn A).lookup ("circles" : Str)=some (.ref A.c):=by
 unfold bn;rw[aW,Hu s6,aW,Hw rfl]
theorem A3 (A:HA):(bn A).lookup ("deeds" : Str)=some (.ref A.d):=by
 unfold bn;rw[aW,Hw rfl]
theorem ko (A:HA){m:Str}(h1:¬ m="worn")(h2:¬ m="holders")(h3:¬ m="circles")(h4:¬ m="deeds"):(bn A).lookup m=none:=by
 unfold bn;rw[aW,Hu h4,aW,Hu h3,aW,Hu h2,aW,Hu h1];rfl
theorem rS (A:HA) {m:Str} (h:¬ m="worn"/\¬ m="holders"/\¬ m="circles"/\¬ m="deeds"):(bn A).lookup m=none:=ko A h.1 h.2.1 h.2.2.1 h.2.2.2
def bN (H:Hp)(d:Addr)(ds:List aT):Prop:=∃ as:List Addr,H d=some (.lst (as.map V.ref))/\Paired (fun a x=>H a=some (de x)) as ds
structure aE (C:Addr)(H:Hp)(p:Addr)(A:HA)(st:b7):Prop where
 ob:H p=some (.ins C A.dx (bn A))
 nd:A.fp.Nodup
 w:H A.w=some (.dK (dk st.worn))
 h:H A.h=some (.dK (dk st.hold))
 c:H A.c=some (.dK (df A.cs st.circ))
 cs:Paired (fun a (x:Int×List Int)=>H a=some (.dK (tQ x.2))) A.cs st.circ
 d:bN H A.d st.deeds
def Kp (fp:List Addr)(H H':Hp):Prop:=∀ b o,H b=some o->b∉fp->H' b=some o
theorem Kp.of_same {fp:List Addr}{H H':Hp}(s:aB H H'):Kp fp H H':=fun b o e _=>s b o e
theorem Kp.trans {fp fp':List Addr}{H H1 H2:Hp}(a:Kp fp H H1)(b:Kp fp' H1 H2)(h:∀ x∈fp',x∈fp\/H x=none):Kp fp H H2:=fun x o e n =>
 b x o (a x o e n) fun z=>(h x z).elim n fun y=>by rw[e]at y;cases y
theorem bX {H H':Hp}{d:Addr}{ds:List aT}(r:bN H d ds)(s:aB H H'):bN H' d ds:=by
 obtain⟨as,h,p⟩:=r;exact⟨as,s _ _ h,Paired.mapP p fun a q z=>s _ _ z⟩
theorem aE.mono {C:Addr}{H H':Hp}{p:Addr}{A:HA}{st:b7}(x:aE C H p A st)(s:aB H H'):aE C H' p A st :=
 ⟨s _ _ x.ob,x.nd,s _ _ x.w,s _ _ x.h,s _ _ x.c,Paired.mapP x.cs fun a q z=>s _ _ z,bX x.d s⟩
theorem aE.kept {C:Addr}{H H':Hp}{p:Addr}{A:HA}{st:b7}{fp:List Addr}(x:aE C H p A st)(k:Kp fp H H')(hp:p∉fp)(hd:∀ b∈A.fp,b∉fp)(ht:∀ b xs,H b=some (.tup xs)->b∉fp):aE C H' p A st:=by
 have m:∀ b∈A.fp,∀ o,H b=some o->H' b=some o:=fun b hb o e=>k b o e (hd b hb);refine⟨k _ _ x.ob hp,x.nd,m _ (by simp[HA.fp]) _ x.w,m _ (by simp[HA.fp]) _ x.h,m _ (by simp[HA.fp]) _ x.c,?_,?_⟩
 ·have:∀ (cs:List Addr)(ci:List (Int×List Int)),(∀ b∈cs,b∈A.fp)->Paired (fun a (x:Int×List Int)=>H a=some (.dK (tQ x.2))) cs ci->Paired (fun a (x:Int×List Int)=>H' a=some (.dK (tQ x.2))) cs ci:=by
   intro cs ci hc hp
   induction hp with
   | nil=>exact .nil
   | cons e _ ih=>exact .cons (m _ (hc _ HV) _ e) (ih fun b hb=>hc b (HL _ hb))
  exact this _ _ (fun b hb=>by simp[HA.fp,hb]) x.cs
 ·obtain⟨as,h,hp⟩:=x.d
  refine⟨as,m _ (by simp[HA.fp]) _ h,Paired.mapP hp fun a q z=>?_⟩
  cases q with
  | come g=>exact k _ _ z (ht _ _ z)
  | go g=>exact k _ _ z (ht _ _ z)
  | exch a b=>exact k _ _ z (ht _ _ z)
def cD (l:List (Int×Int))(g:Int):List (Int×Int):=l.filter fun p=>decide (p.1≠g)
theorem qf (l:List (Int×Int))(g:Int):qe (dk l) (Sum.inl g:bP)=dk (cD l g):=by
 unfold qe dk cD;rw[List.filter_map]
 congr 1
 apply List.filter_congr
 intro p _;simp[Function.comp]
theorem gZ (l:List (Int×Int))(g h:Int):look (cD l g) h=if h=g then none else look l h:=by
 induction l with
 | nil=>simp[cD,look]
 | cons p r ih =>
  unfold cD at ih ⊢;rw[List.filter_cons]
  by_cases e:p.1=g
  ·rw[Hu (by simp[e]),ih]
   by_cases hh:h=g
   ·simp[hh]
   ·have:¬ p.1=h:=fun z=>hh (z.symm.trans e)
    simp[hh,look,this]
  ·rw[Hw (by simp[e])]
   show (if p.1=h then some p.2 else look _ h)=_
   rw[ih]
   by_cases hh:h=g
   ·subst hh;simp[e]
   ·simp[hh,look]
theorem mZ {l:List (Int×Int)}{g h:Int}:h∈ak (cD l g)↔h∈ak l/\h≠g:=by
 rw[<-bL,gZ,<-bL]
 by_cases e:h=g<;>simp[e]
inductive Cp where
 | done | already | masked | same | met | noguest (g:Int)
 deriving DecidableEq
def ir:List (Int×List Int)->Int->List Int
 | [],_=>[]
 | x::r,g=>if x.1=g then x.2 else ir r g
def jg (c:List (Int×List Int))(a b:Int):Bool:=decide (b∈ir c a)
def j5 (ks:List Int)(b:Int):List Int:=if b∈ks then ks else ks++[b]
def bW:List (Int×List Int)->Int->Int->List (Int×List Int)
 | [],a,b=>[(a,[b])]
 | x::r,a,b=>if x.1=a then (x.1,j5 x.2 b)::r else x::bW r a b
def bw (st:b7):aT->Cp
 | .come g=>if (look st.worn g).isSome then .already else .done
 | .go g=>match look st.worn g with | none=>.noguest g | some m=>if m=g then .done else .masked
 | .exch a b=>match look st.worn a with
  | none=>.noguest a
  | some _=>match look st.worn b with
   | none=>.noguest b
   | some _=>if a=b then .same else if jg st.circ a b then .met else .done
def after (st:b7):aT->b7
 | .come g=>{ worn:=put st.worn g g,hold:=put st.hold g g,circ:=st.circ,deeds:=st.deeds++[.come g] }
 | .go g=>{ worn:=cD st.worn g,hold:=cD st.hold g,circ:=st.circ,deeds:=st.deeds++[.go g] }
 | .exch a b=>{ worn:=put (put st.worn a (wr st.worn b)) b (wr st.worn a),hold:=put (put st.hold (wr st.worn b) a) (wr st.worn a) b,circ:=bW (bW st.circ a b) b a,deeds:=st.deeds++[.exch a b] }
def names:aT->List Int
 | .come g=>[g]
 | .go g=>[g]
 | .exch a b=>[a,b]
def cp (g:Int):Prop:=g.natAbs<10 ^ 100
structure zA (st:b7):Prop where
 w:st.worn.length<1000
 h:st.hold.length<1000
 c:st.circ.length<1000
 k:∀ x∈st.circ,x.2.length<1000
 d:st.deeds.length<1000
structure HX where
 C:Addr
 cW:Addr
 cA:Addr
 cM:Addr
 cS:Addr
 cT:Addr
 cN:Addr
 fN:Addr
def ul (c:HX)(E:XK)(H:Hp):Cp->Prop
 | .done=>False
 | .already=>∀ H',aB H H'->E (.ref c.cA) none H'
 | .masked=>∀ H',aB H H'->E (.ref c.cM) none H'
 | .same=>∀ H',aB H H'->E (.ref c.cS) none H'
 | .met=>∀ H',aB H H'->E (.ref c.cT) none H'
 | .noguest g=>∀ dx H',aB H H'->H' dx=some (.xd [("guest",.int g)])->E (.ref c.cN) (some dx) H'
def Tr (H H':Hp):Prop:=∀ b o,H b=some o->∃ o',H' b=some o'
theorem Tr.refl {H:Hp}:Tr H H:=fun _ o e=>⟨o,e⟩
theorem Tr.trans {H H1 H2:Hp}(a:Tr H H1)(b:Tr H1 H2):Tr H H2:=fun x o e=>let ⟨o',e'⟩:=a x o e;b x o' e'
theorem Tr.of_same {H H':Hp}(s:aB H H'):Tr H H':=fun b o e=>⟨o,s b o e⟩
theorem Tr.upd {H H1:Hp}(a:Tr H H1)(x:Addr)(u:HO):Tr H (upd H1 x u):=fun b o e=>by
 by_cases h:b=x
 ·exact⟨u,by rw[h,ac]⟩
 ·obtain⟨o',e'⟩:=a b o e
  exact⟨o',by rw[ae h];exact e'⟩
def vQ (C:Addr)(H:Hp)(p:Addr)(A:HA)(st':b7)(H':Hp):Prop:=∃ A':HA,aE C H' p A' st'/\Kp A.fp H H'/\(∀ b∈A'.fp,b∈A.fp\/H b=none)/\Tr H H'
def uj (c:HX)(H:Hp)(p:Addr)(A:HA)(st:b7)(d:aT)(Q:VK)(E:XK):Prop :=
 if bw st d=.done then ∀ H',vQ c.C H p A (after st d) H'->Q .non H' else ul c E H (bw st d)
inductive zk (C:Addr) (vs:List V) (H:Hp) (Q:VK) (E_:XK):Prop
 | mk (p dx:Addr) (h_0:vs=[.ref p]) (h_1:H p=some (.ins C dx [])) (h_2:∀ (A:HA)(H':Hp),aE C H' p A ⟨[],[],[],[]⟩->(∀ b o,H b=some o->b≠p->H' b=some o)->(∀ b∈A.fp,H b=none)->Q .non H'):zk C vs H Q E_
inductive vA (c:HX) (vs:List V) (H:Hp) (Q:VK) (E:XK):Prop
 | mk (p:Addr) (A:HA) (st:b7) (g:Int) (h_0:vs=[.ref p,.int g]) (h_1:aE c.C H p A st) (h_2:zA st) (h_3:cp g) (h_4:uj c H p A st (.come g) Q E):vA c vs H Q E
inductive Dp (c:HX) (vs:List V) (H:Hp) (Q:VK) (E:XK):Prop
 | mk (p:Addr) (A:HA) (st:b7) (g:Int) (h_0:vs=[.ref p,.int g]) (h_1:aE c.C H p A st) (h_2:zA st) (h_3:cp g) (h_4:(∀ m,look st.worn g=some m->cp m/\(m=g->(look st.hold g).isSome))) (h_5:uj c H p A st (.go g) Q E):Dp c vs H Q E
inductive vB (c:HX) (vs:List V) (H:Hp) (Q:VK) (E:XK):Prop
 | mk (p:Addr) (A:HA) (st:b7) (a b:Int) (h_0:vs=[.ref p,.int a,.int b]) (h_1:aE c.C H p A st) (h_2:zA st) (h_3:cp a) (h_4:cp b) (h_5:uj c H p A st (.exch a b) Q E):vB c vs H Q E
inductive mn (C:Addr) (vs:List V) (H:Hp) (Q:VK) (E_:XK):Prop
 | mk (p:Addr) (A:HA) (st:b7) (g m:Int) (h_0:vs=[.ref p,.int g,.int m]) (h_1:aE C H p A st) (h_2:st.worn.length<2000) (h_3:st.hold.length<2000) (h_4:Q .non (upd (upd H A.w (.dK (dk (put st.worn g m)))) A.h (.dK (dk (put st.hold m g))))):mn C vs H Q E_
inductive gz (c:HX) (vs:List V) (H:Hp) (Q:VK) (E:XK):Prop
 | mk (p:Addr) (A:HA) (st:b7) (g:Int) (h_0:vs=[.ref p,.int g]) (h_1:aE c.C H p A st) (h_2:cp g) (h_3:match look st.worn g with
 | some m=>Q (.int m) H
 | none=>ul c E H (.noguest g)):gz c vs H Q E
inductive mB (c:HX) (vs:List V) (H:Hp) (Q:VK) (E:XK):Prop
 | mk (p:Addr) (A:HA) (st:b7) (g:Int) (h_0:vs=[.ref p,.int g]) (h_1:aE c.C H p A st) (h_2:cp g) (h_3:match look st.hold g with
 | some m=>Q (.int m) H
 | none=>ul c E H (.noguest g)):mB c vs H Q E
inductive mw (C:Addr) (vs:List V) (H:Hp) (Q:VK) (E_:XK):Prop
 | mk (p:Addr) (A:HA) (st:b7) (g:Int) (h_0:vs=[.ref p,.int g]) (h_1:aE C H p A st) (h_2:Q (.bl (look st.worn g).isSome) H):mw C vs H Q E_
inductive jK (C:Addr) (vs:List V) (H:Hp) (Q:VK) (E_:XK):Prop
 | mk (p:Addr) (A:HA) (st:b7) (h_0:vs=[.ref p]) (h_1:aE C H p A st) (h_2:st.worn.length<64) (h_3:∀ l,H l=none->Q (.ref l) (upd H l (.lst ((aD (ak st.worn)).map V.int)))):jK C vs H Q E_
inductive zj (C:Addr) (vs:List V) (H:Hp) (Q:VK) (E_:XK):Prop
 | mk (p:Addr) (A:HA) (st:b7) (a b:Int) (h_0:vs=[.ref p,.int a,.int b]) (h_1:aE C H p A st) (h_2:∀ H',aB H H'->Q (.bl (jg st.circ a b)) H'):zj C vs H Q E_
inductive zh (C:Addr) (vs:List V) (H:Hp) (Q:VK) (E_:XK):Prop
 | mk (p:Addr) (A:HA) (st:b7) (a b:Int) (h_0:vs=[.ref p,.int a,.int b]) (h_1:aE C H p A st) (h_2:st.circ.length<2000) (h_3:(∀ x∈st.circ,x.2.length<2000)) (h_4:∀ H',vQ C H p A { st with circ:=bW st.circ a b } H'->Q .non H'):zh C vs H Q E_
inductive mx (C:Addr) (vs:List V) (H:Hp) (Q:VK) (E_:XK):Prop
 | mk (p:Addr) (A:HA) (st:b7) (h_0:vs=[.ref p]) (h_1:aE C H p A st) (h_2:Q (.int st.deeds.length) H):mx C vs H Q E_
structure HT (K:PySem.W.Frag)(mg:Str->Option Value)(c:HX):Prop where
 cl:zy K c.C
 nW:gJ K c.C "worn"
 nH:gJ K c.C "holders"
 nC:gJ K c.C "circles"
 nD:gJ K c.C "deeds"
 mC:mg "Hall" = some (.ref c.C)
 eA:eL K c.cA
 eM:eL K c.cM
 eS:eL K c.cS
 eT:eL K c.cT
 mA:mg "AlreadyIn" = some (.ref c.cA)
 mM:mg "Masked" = some (.ref c.cM)
 mS:mg "Same" = some (.ref c.cS)
 mT:mg "Met" = some (.ref c.cT)
 mN:mg "NoGuest" = some (.ref c.cN)
 mW:mg "WaltzError" = some (.ref c.cW)
 eN:kE K c.cN c.fN=true
 gN:F8 K c.cN "guest"
 tN:PySem.W.typeIn K (.ref c.fN)=some (.type "function")
 wS:PySem.W.specialIn K (.ref c.cW) "__getattribute__" = some (some (.builtin "type.__getattribute__"))
 wR:PySem.W.readsIn K c.cW (.type "type")=true
 wI:PySem.W.findCls K (.ref c.cW) (.type "type") "__init__" = some (.val (.builtin "ValueError.__init__"))
structure HM (K:PySem.W.Frag)(c:HX):Prop where
 aa:PySem.W.exmOne K (.ref c.cA) (.ref c.cA)=some true
 ma:PySem.W.exmOne K (.ref c.cM) (.ref c.cA)=some false
 mm:PySem.W.exmOne K (.ref c.cM) (.ref c.cM)=some true
 sa:PySem.W.exmOne K (.ref c.cS) (.ref c.cA)=some false
 sm:PySem.W.exmOne K (.ref c.cS) (.ref c.cM)=some false
 ss:PySem.W.exmOne K (.ref c.cS) (.ref c.cS)=some true
 ta:PySem.W.exmOne K (.ref c.cT) (.ref c.cA)=some false
 tm:PySem.W.exmOne K (.ref c.cT) (.ref c.cM)=some false
 ts:PySem.W.exmOne K (.ref c.cT) (.ref c.cS)=some false
 tt:PySem.W.exmOne K (.ref c.cT) (.ref c.cT)=some true
 na:PySem.W.exmOne K (.ref c.cN) (.ref c.cA)=some false
 nm:PySem.W.exmOne K (.ref c.cN) (.ref c.cM)=some false
 ns:PySem.W.exmOne K (.ref c.cN) (.ref c.cS)=some false
 nt:PySem.W.exmOne K (.ref c.cN) (.ref c.cT)=some false
 nn:PySem.W.exmOne K (.ref c.cN) (.ref c.cN)=some true
def k9 (P:Program)(w:World)(K:PySem.W.Frag)(mg:Str->Option Value)(base:Heap)(c:HX):Prop:=∃ fd:FuncData,aS P w K mg base cJ 1 c.fN fd ["self","guest"] (Dq c.cN "guest")/\d9 K fd ["self","guest"] []
theorem w8 {X:Cx}{c:HX}{E:XK}{e:Expr}{te:TE}{np cpos pos:Pos}(N:k9 X.prog X.w X.K X.mg X.base c)(U:HT X.K X.mg c)(hr:cx 2 X.A)(hfl:yF X E)(hex:X.ex=[])(hh:X.A.handled=none)(hg:Gl X "NoGuest")(he:PE X e te)
  (hs:starEach [e] X.env=[(false,eval e X.env)]:=by rfl):PS X (.Raise (some (.Call (.Name "NoGuest" np) [e] [] cpos)) none pos) (zr te c.cN "guest" E):=by
 obtain⟨fd,G,hb⟩:=N;exact Am U.eN U.tN G hr hb hfl hex hh hg U.mN he (by decide) hs
section
variable {C:Addr}{H:Hp}{p t:Addr}{A:HA}{st:b7}
structure yD (A:HA):Prop where
 wh:A.w≠A.h
 wc:A.w≠A.c
 wd:A.w≠A.d
 hc:A.h≠A.c
 hd:A.h≠A.d
 cd:A.c≠A.d
 w:A.w∉A.cs
 h:A.h∉A.cs
 c:A.c∉A.cs
 d:A.d∉A.cs
 cs:A.cs.Nodup
theorem aE.apart (S:aE C H p A st):yD A:=by
 have:=S.nd;simp only[HA.fp,Iz,HW,not_or]at this;obtain⟨⟨a1,a2,a3,a4⟩,⟨b1,b2,b3⟩,⟨c1,c2⟩,d1,e⟩:=this;exact⟨a1,a2,a3,b1,b2,c1,a4,b3,c2,d1,e⟩
theorem aE.pne (S:aE C H p A st):p∉A.fp:=by
 have n1:p≠A.w:=bY S.ob S.w (by intro z;cases z);have n2:p≠A.h:=bY S.ob S.h (by intro z;cases z);have n3:p≠A.c:=bY S.ob S.c (by intro z;cases z);obtain⟨as,hd,_⟩:=S.d;have n4:p≠A.d:=bY S.ob hd (by intro z;cases z)
 have n5:p∉A.cs:=fun z=>by
  obtain⟨i,hi,e⟩:=Jq z;obtain⟨b,_,q⟩:=bg S.cs (List.getElem?_eq_getElem hi);rw[e,S.ob]at q;cases q
 simp[HA.fp,n1,n2,n3,n4,n5]
theorem lj {H H':Hp}:∀ {cs:List Addr}{ci:List (Int×List Int)},Paired (fun a (x:Int×List Int)=>H a=some (.dK (tQ x.2))) cs ci->(∀ b∈cs,∀ o,H b=some o->H' b=some o)->Paired (fun a (x:Int×List Int)=>H' a=some (.dK (tQ x.2))) cs ci:=by
 intro cs ci hp k
 induction hp with
 | nil=>exact .nil
 | cons e _ ih=>exact .cons (k _ HV _ e) (ih fun b hb=>k b (HL _ hb))
theorem dh (x:aT):∃ xs,de x=.tup xs:=by cases x<;>exact⟨_,rfl⟩
theorem aE.tup (S:aE C H p A st){b:Addr}{xs:List V}(e:H b=some (.tup xs)):b∉A.fp:=by
 have n1:b≠A.w:=bY e S.w (by intro z;cases z);have n2:b≠A.h:=bY e S.h (by intro z;cases z);have n3:b≠A.c:=bY e S.c (by intro z;cases z);obtain⟨as,hd,_⟩:=S.d;have n4:b≠A.d:=bY e hd (by intro z;cases z)
 have n5:b∉A.cs:=fun z=>by
  obtain⟨i,hi,e'⟩:=Jq z;obtain⟨y,_,q⟩:=bg S.cs (List.getElem?_eq_getElem hi);rw[e',e]at q;cases q
 simp[HA.fp,n1,n2,n3,n4,n5]
theorem aE.tracked (S:aE C H p A st){b:Addr}(h:b∈A.fp):∃ o,H b=some o:=by
 simp only[HA.fp,HW]at h;rcases h with rfl | rfl | rfl | rfl | h
 ·exact⟨_,S.w⟩
 ·exact⟨_,S.h⟩
 ·exact⟨_,S.c⟩
 ·obtain⟨as,hd,_⟩:=S.d;exact⟨_,hd⟩
 ·obtain⟨i,hi,rfl⟩:=Jq h
  obtain⟨y,_,q⟩:=bg S.cs (List.getElem?_eq_getElem hi);exact⟨_,q⟩
theorem yD.fp {A:HA}(a:yD A):A.fp.Nodup:=by
 simp only[HA.fp,Iz,HW,not_or];exact⟨⟨a.wh,a.wc,a.wd,a.w⟩,⟨a.hc,a.hd,a.h⟩,⟨a.cd,a.c⟩,a.d,a.cs⟩
theorem fM {fp:List Addr}{a:Addr}{o:HO}(h:a∈fp):Kp fp H (upd H a o):=fun b u e n=>by
 rw[ae (fun z:b=a=>n (by rw[z];exact h))];exact e
theorem xX {fp:List Addr}{a:Addr}{o:HO}(h:H a=none):Kp fp H (upd H a o):=fun b u e n=>by
 rw[ae (aj e h)];exact e
theorem Kp.on {fp:List Addr}{H1 H2:Hp}(a:Kp fp H H1)(b:Kp fp H1 H2):Kp fp H H2:=fun x o e n=>b x o (a x o e n) n
theorem uD (S:aE C H p A st)(w':List (Int×Int)):aE C (upd H A.w (.dK (dk w'))) p A { st with worn:=w' }:=by
 have a:=S.apart;have np:=S.pne;simp only[HA.fp,HW,not_or]at np;refine⟨by rw[ae np.1];exact S.ob,S.nd,ac,by rw[ae (Ik a.wh)];exact S.h,by rw[ae (Ik a.wc)];exact S.c,lj S.cs fun b hb o e=>by rw[ae (fun z:b=A.w=>a.w (by rw[<-z];exact hb))];exact e,?_⟩;obtain⟨as,hd,hp⟩:=S.d;refine⟨as,by rw[ae (Ik a.wd)];exact hd,Paired.mapP hp fun b x e=>?_⟩;obtain⟨xs,ex⟩:=dh x;rw[ae (fun z=>S.tup (xs:=xs) (by rw[<-ex];exact e) (by rw[z];simp[HA.fp]))];exact e
theorem uC (S:aE C H p A st)(w':List (Int×Int)):aE C (upd H A.h (.dK (dk w'))) p A { st with hold:=w' }:=by
 have a:=S.apart;have np:=S.pne;simp only[HA.fp,HW,not_or]at np;refine⟨by rw[ae np.2.1];exact S.ob,S.nd,by rw[ae a.wh];exact S.w,ac,by rw[ae (Ik a.hc)];exact S.c,lj S.cs fun b hb o e=>by rw[ae (fun z:b=A.h=>a.h (by rw[<-z];exact hb))];exact e,?_⟩;obtain⟨as,hd,hp⟩:=S.d;refine⟨as,by rw[ae (Ik a.hd)];exact hd,Paired.mapP hp fun b x e=>?_⟩;obtain⟨xs,ex⟩:=dh x;rw[ae (fun z=>S.tup (xs:=xs) (by rw[<-ex];exact e) (by rw[z];simp[HA.fp]))];exact e
theorem mU (S:aE C H p A st){as:List Addr}(hd:H A.d=some (.lst (as.map V.ref)))(hp:Paired (fun a x=>H a=some (de x)) as st.deeds)(x:aT)(ht:H t=none) :
  aE C (upd (upd H t (de x)) A.d (.lst (as.map V.ref++[.ref t]))) p A { st with deeds:=st.deeds++[x] }:=by
 have a:=S.apart;have np:=S.pne;simp only[HA.fp,HW,not_or]at np;have n:∀ b o,H b=some o->b≠t:=fun b o e=>aj e ht
 have e1:∀ b o,H b=some o->b≠A.d->(upd (upd H t (de x)) A.d (.lst (as.map V.ref++[.ref t]))) b=some o:=fun b o e h=>by rw[ae h,ae (n b o e)];exact e
 have td:t≠A.d:=fun z=>by rw[z,hd]at ht;cases ht
 refine⟨e1 _ _ S.ob np.2.2.2.1,S.nd,e1 _ _ S.w a.wd,e1 _ _ S.h a.hd,e1 _ _ S.c a.cd,lj S.cs fun b hb o e=>e1 b o e (fun z=>a.d (by rw[<-z];exact hb)),as++[t],by rw[ac,Ii];rfl,?_⟩;refine bx (Paired.mapP hp fun b y e=>?_) (.cons (by rw[ae td,ac]) .nil);obtain⟨xs,ex⟩:=dh y;exact e1 b _ e (fun z=>S.tup (xs:=xs) (by rw[<-ex];exact e) (by rw[z];simp[HA.fp]))
theorem yU:A.w∈A.fp:=by simp[HA.fp]
theorem yS:A.h∈A.fp:=by simp[HA.fp]
theorem DJ:A.c∈A.fp:=by simp[HA.fp]
theorem Bh:A.d∈A.fp:=by simp[HA.fp]
end
theorem mQ {c:HX}{H:Hp}{p:Addr}{A:HA}{st:b7}{d:aT}{Q:VK}{E:XK}(k:uj c H p A st d Q E)(h:bw st d=.done):∀ H',vQ c.C H p A (after st d) H'->Q .non H':=by
 unfold uj at k;rwa [Hw h]at k
theorem fK {c:HX}{H:Hp}{p:Addr}{A:HA}{st:b7}{d:aT}{Q:VK}{E:XK}{o:Cp}(k:uj c H p A st d Q E)(h:bw st d=o)(ho:o≠.done):ul c E H o:=by
 unfold uj at k;rwa [h,Hu ho]at k
theorem lH:∀ (ci:List (Int×List Int))(a b:Int),(bW ci a b).length<=ci.length+1
 | [],_,_=>by simp[bW]
 | x::r,a,b=>by
  unfold bW;split
  ·simp
  ·have:=lH r a b;simp;omega
theorem Bc (ks:List Int)(b:Int):(j5 ks b).length<=ks.length+1:=by unfold j5;split<;>simp
theorem pZ {ci:List (Int×List Int)}{a b:Int}{n:Nat}(h:∀ x∈ci,x.2.length<=n)(hn:0<n+1):∀ x∈bW ci a b,x.2.length<=n+1:=by
 induction ci with
 | nil=>intro x hx;simp[bW]at hx;subst hx;simp
 | cons y r ih =>
  intro x hx;unfold bW at hx;split at hx
  ·rcases HW.mp hx with z | z
   ·subst z;have:=Bc y.2 b;have:=h y HV;simp only;omega
   ·have:=h x (HL _ z);omega
  ·rcases HW.mp hx with z | z
   ·subst z;have:=h x HV;omega
   ·exact ih (fun x hx=>h x (HL _ hx)) x z
theorem Di (ks:List Int)(b:Int):dq (tQ ks) (Sum.inl b:bP) (V.bl true)=tQ (j5 ks b):=by
 unfold dq j5 tQ
 have e:((ks.map fun k=>((Sum.inl k:bP),V.bl true)).any fun kv=>decide (kv.1=(Sum.inl b:bP)))=decide (b∈ks):=by
  rw[J8]
  induction ks with
  | nil=>rfl
  | cons x r ih=>rw[Jg,ih];by_cases h:x=b<;>simp[h,eq_comm]
 rw[e]
 by_cases h:b∈ks
 ·rw[Hw (HY h),Hw h,IA]
  apply JE
  intro k _;simp only[Function.comp];split<;>rfl
 ·rw[Hu (by simp[h]),Hu h,Ii]
  rfl
theorem Dz (ks:List Int)(b:Int):(cH (tQ ks) (Sum.inl b:bP)).isSome=decide (b∈ks):=by
 rw[<-hZ];unfold tQ;rw[J8]
 induction ks with
 | nil=>rfl
 | cons x r ih=>rw[Jg,ih];by_cases h:x=b<;>simp[h,eq_comm]
section
variable {H:Hp}
abbrev F3 (H:Hp)(cs:List Addr)(ci:List (Int×List Int)):Prop:=Paired (fun a (x:Int×List Int)=>H a=some (.dK (tQ x.2))) cs ci
theorem gX:∀ {cs:List Addr}{ci:List (Int×List Int)}(a:Int),F3 H cs ci ->
  (cH (df cs ci) (Sum.inl a:bP)=none/\ir ci a=[]/\∀ b,bW ci a b=ci++[(a,[b])]) \/
  ∃ ad,ad∈cs/\cH (df cs ci) (Sum.inl a:bP)=some (.ref ad)/\H ad=some (.dK (tQ (ir ci a))) /\
   ∀ b (H':Hp),cs.Nodup->(∀ x∈cs,x≠ad->∀ o,H x=some o->H' x=some o)->H' ad=some (.dK (tQ (j5 (ir ci a) b)))->F3 H' cs (bW ci a b)/\df cs (bW ci a b)=df cs ci
 | _,_,a,.nil=>.inl ⟨rfl,rfl,fun b=>rfl⟩
 | c::cs,x::ci,a,.cons e r=>by
  by_cases h:x.1=a
  ·refine .inr ⟨c,HV,h8 (p:=((Sum.inl x.1:bP),V.ref c)) (by rw[h]),by simp only[ir,Hw h];exact e,fun b H' nd k k'=>?_⟩
   simp only[ir,Hw h]at k';simp only[bW,Hw h];refine⟨.cons k' (lj r fun y hy o z=>k y (HL _ hy) (fun q=>(Iz.mp nd).1 (by rw[<-q];exact hy)) o z),rfl⟩
  ·have hk:cH (df (c::cs) (x::ci)) (Sum.inl a:bP)=cH (df cs ci) (Sum.inl a:bP):=gf (p:=((Sum.inl x.1:bP),V.ref c)) (fun z=>h (Sum.inl.inj z))
   have hc:ir (x::ci) a=ir ci a:=by simp only[ir,Hu h]
   rcases gX a r with ⟨h1,h2,h3⟩ | ⟨ad,h1,h2,h3,h4⟩
   ·exact .inl ⟨by rw[hk];exact h1,by rw[hc];exact h2,fun b=>by simp only[bW,Hu h,h3 b,List.cons_append]⟩
   ·refine .inr ⟨ad,HL _ h1,by rw[hk];exact h2,by rw[hc];exact h3,fun b H' nd k k'=>?_⟩
    rw[hc]at k';obtain⟨n1,n2⟩:=Iz.mp nd;obtain⟨q1,q2⟩:=h4 b H' n2 (fun y hy=>k y (HL _ hy)) k';simp only[bW,Hu h];refine⟨.cons (k c HV (fun z=>n1 (by rw[z];exact h1)) _ e) q1,?_⟩
    show _::df cs (bW ci a b)=_::df cs ci
    rw[q2]
theorem qa:∀ {cs:List Addr}{ci:List (Int×List Int)}(a:Int)(ks:List Int)(l:Addr),cs.length=ci.length->df (cs++[l]) (ci++[(a,ks)])=df cs ci++[(Sum.inl a,V.ref l)]
 | [],[],_,_,_,_=>rfl
 | c::cs,x::ci,a,ks,l,h=>by
  show _::df (cs++[l]) (ci++[(a,ks)])=_
  rw[qa a ks l (by simpa using h)];rfl
theorem tR:∀ {cs:List Addr}{ci:List (Int×List Int)},cs.length=ci.length->(df cs ci).length=ci.length
 | [],[],_=>rfl
 | c::cs,x::ci,h=>by show (df cs ci).length+1=_;rw[tR (by simpa using h)];rfl
end
end Wz
namespace L2
open PySem PySem.Spec PyProof.Rows
def EI (td ty tx:TE):TE:=fun σ H Q=>td σ H fun x H1=>∃ a,x=.ref a/\FS H1 a/\ty σ H1 fun y H2=>tx σ H2 fun z H3=>∃ kvs k,H3 a=some (.dK kvs)/\y=kV k/\kvs.length<sizeLine /\
 (∀ v,cH kvs k=some v->Q v H3)/\(cH kvs k=none->Q z (upd H3 a (.dK (dq kvs k z))))
theorem BF {X:Cx}{o e f:Expr}{apos cpos:Pos}{td ty tx:TE}(ho:PE X o td)(he:PE X e ty)(hf:PE X f tx)(m:M2 X o "setdefault" apos e f cpos):PE X (.Call (.Attribute o "setdefault" apos) [e,f] [] cpos) (EI td ty tx):=by
 intro pins s σ H Q I h;refine wpAny_Call_method m.base m.few m.line PySem.F.plainAttrs_dict PySem.F.slot_dict_setdefault PySem.F.type_dict_setdefault (bc (ho pins s σ H _ I h) fun u s1 ⟨x,H1,I1,rx,a,ex,d,q1⟩=>?_);subst ex;obtain rfl:u=Value.ref a:=rx;obtain⟨t1,t2,_⟩:=xT I1 d;refine⟨t1,t2,?_⟩;rw[m.trees]
 refine JG rfl (Ji (IP (bc (he pins s1 σ H1 _ I1 q1) fun iv s2 ⟨y,H2,I2,ry,q2⟩ =>
  IP (bc (hf pins s2 σ H2 _ I2 q2) fun fv s3 ⟨z,H3,I3,rz,kvs,k,ea,ey,hlt,q3,q4⟩=>JA ?_))))
 subst ey;obtain⟨hz,hd,vs,rel,dd⟩:=wg I3.hok ea
 refine call_meetsIn PySem.F.slot_dict_setdefault dd.typeIs PySem.F.entry_dict_setdefault (PySem.F.args_dict_setdefault_3 _ _ _) (kt_meets_setdefault (be X.prog X.w) a (kq ry) hd fv)
  ⟨vs,dd,by rw[<-rel.length];exact hz,fun v' hv'=>?_,fun hn h' dd' hs=>?_⟩
 ·cases l:cH kvs k with
  | none=>have:=rel.val k;rw[l,hv']at this;exact this.elim
  | some v =>
   have:=rel.val k;rw[l,hv']at this;exact⟨v,H3,I3.tok _,this,q3 v l⟩
 ·cases l:cH kvs k with
  | some v=>have:=rel.val k;rw[l,hn]at this;exact this.elim
  | none =>
   have he:∃ q,h'.get? a=some q:=let ⟨q,_,_,hq,_⟩:=dd';⟨q,hq⟩;exact⟨z,_,jS I3 (by rw[ea];exact True.intro) hs he (qc (by have:=eC kvs k z;omega) hd (rel.put k rz) dd'),rz,q4 l⟩
section
variable {X:Cx}
end
end L2
namespace Wz
open PySem L2
theorem A4 {A:Around}{k n:Nat}(hr:cx k A)(h:n<=200):A.units+n<cLine:=by have:=hr.un;omega
theorem cc:decide (V.str "come" = V.str "come")=true:=by decide +kernel
theorem cg:decide (V.str "come" = V.str "go")=false:=by decide +kernel
theorem ce:decide (V.str "come" = V.str "exchange")=false:=by decide +kernel
theorem gc:decide (V.str "go" = V.str "come")=false:=by decide +kernel
theorem gg:decide (V.str "go" = V.str "go")=true:=by decide +kernel
theorem ge:decide (V.str "go" = V.str "exchange")=false:=by decide +kernel
theorem ec:decide (V.str "exchange" = V.str "come")=false:=by decide +kernel
theorem eg:decide (V.str "exchange" = V.str "go")=false:=by decide +kernel
theorem ee:decide (V.str "exchange" = V.str "exchange")=true:=by decide +kernel
def dO:aT->Str
 | .come _=>"come"
 | .go _=>"go"
 | .exch _ _=>"exchange"
def dc (d:aT):List V:=V.str (dO d)::(names d).map V.int
theorem pp (d:aT):de d=.tup (dc d):=by cases d<;>rfl
theorem AO (d:aT):iA (dc d) (some 1) none=(names d).map V.int:=by cases d<;>rfl
theorem CB (d:aT):¬ (HT.sIx (dc d).length 0 (some 1)=0/\HT.sIx (dc d).length (dc d).length none=(dc d).length):=by cases d<;>(intro h;have h1:=h.1;simp[dc,names,HT.sIx]at h1)
def b9 (w:List (Int×Int))(m:Int->Int->Bool):aT->Cp
 | .come g=>if (look w g).isSome then .already else .done
 | .go g=>match look w g with | none=>.noguest g | some x=>if x=g then .done else .masked
 | .exch a b=>match look w a with
  | none=>.noguest a
  | some _=>match look w b with
   | none=>.noguest b
   | some _=>if a=b then .same else if m a b then .met else .done
theorem CT (st:b7)(d:aT):bw st d=b9 st.worn (jg st.circ) d:=by cases d<;>rfl
theorem uF {w:List (Int×Int)}{m m':Int->Int->Bool}(h:∀ a b,m a b=m' a b)(d:aT):b9 w m d=b9 w m' d:=by cases d<;>simp only[b9,h]
def fg (a b:Int):Int×Int:=if b<a then (b,a) else (a,b)
def qC (ml:List (Int×Int))(a b:Int):Bool:=decide (fg a b∈ml)
def jU (ml:List (Int×Int)):List (List bP×V):=ml.map fun p=>([Sum.inl p.1,Sum.inl p.2],V.bl true)
def gK (ml:List (Int×Int))(p:Int×Int):List (Int×Int):=if p∈ml then ml else ml++[p]
def Ek:Cp->List V
 | .done=>[.str "done",.non]
 | .already=>[.str "AlreadyIn",.non]
 | .masked=>[.str "Masked",.non]
 | .same=>[.str "Same",.non]
 | .met=>[.str "Met",.non]
 | .noguest g=>[.str "NoGuest",.int g]
def uo (w:List (Int×Int)):aT->List (Int×Int)
 | .come g=>put w g g
 | .go g=>cD w g
 | .exch a b=>put (put w a (wr w b)) b (wr w a)
def p0 (ml:List (Int×Int)):aT->List (Int×Int)
 | .come _=>ml
 | .go _=>ml
 | .exch a b=>gK ml (fg a b)
theorem xA (st:b7)(d:aT):(after st d).worn=uo st.worn d:=by cases d<;>rfl
theorem yX (ml:List (Int×Int))(p:Int×Int):((jU ml).any fun kv=>decide (kv.1=([Sum.inl p.1,Sum.inl p.2]:List bP)))=decide (p∈ml):=by
 unfold jU;rw[J8]
 induction ml with
 | nil=>rfl
 | cons x r ih =>
  rw[Jg,ih]
  have:(decide ((([Sum.inl x.1,Sum.inl x.2]:List bP))=[Sum.inl p.1,Sum.inl p.2]))=decide (p=x):=by
   by_cases h:p=x
   ·subst h;simp
   ·rw[Ih h,Ih]
    intro z;simp only[List.cons.injEq,Sum.inl.injEq,and_true]at z;exact h (Prod.ext z.1.symm z.2.symm)
  simp only[Function.comp];rw[this]
  by_cases h:p=x<;>simp[h]
theorem yZ (ml:List (Int×Int))(p:Int×Int):(cH (jU ml) ([Sum.inl p.1,Sum.inl p.2]:List bP)).isSome=decide (p∈ml):=by rw[<-hZ,yX]
theorem yY (ml:List (Int×Int))(p:Int×Int):dq (jU ml) ([Sum.inl p.1,Sum.inl p.2]:List bP) (V.bl true)=jU (gK ml p):=by
 unfold dq gK;rw[yX]
 by_cases h:p∈ml
 ·rw[Hw (HY h),Hw h]
  unfold jU;rw[IA]
  apply JE
  intro x _;simp only[Function.comp];split<;>rfl
 ·rw[Hu (by simp[h]),Hu h]
  unfold jU;rw[Ii];rfl
theorem A8 {w:List (Int×Int)}{m:Int->Int->Bool}{d:aT}{i:Nat}{x:Int}(hc:dO d≠"come")(hp:∀ y∈(names d).take i,(look w y).isSome=true)(hi:(names d)[i]? = some x)(hx:look w x=none):b9 w m d=.noguest x:=by
 cases d with
 | come g=>exact absurd rfl hc
 | go g =>
  cases i with
  | zero=>simp[names]at hi;subst hi;simp[b9,hx]
  | succ i=>simp[names]at hi
 | exch a b =>
  cases i with
  | zero=>simp[names]at hi;subst hi;simp[b9,hx]
  | succ i =>
   cases i with
   | zero =>
    simp[names]at hi;subst hi;have:=hp a (by simp[names]);obtain⟨v,hv⟩:=IJ.mp this;simp[b9,hv,hx]
   | succ i=>simp[names]at hi
inductive xm (vs:List V) (H:Hp) (Q:VK) (E_:XK):Prop
 | mk (a b:Int) (h_0:vs=[.int a,.int b]) (h_1:∀ t,H t=none->Q (.ref t) (upd H t (.tup [.int (fg a b).1,.int (fg a b).2]))):xm vs H Q E_
inductive zi (vs:List V) (H:Hp) (Q:VK) (E_:XK):Prop
 | mk (w m t:Addr) (wl ml:List (Int×Int)) (d:aT) (h_0:vs=[.ref w,.ref m,.ref t]) (h_1:H w=some (.dK (dk wl))) (h_2:H m=some (.dT (jU ml))) (h_3:H t=some (de d)) (h_4:∀ (r:Addr)(H':Hp),H r=none->aB H H'->H' r=some (.tup (Ek (b9 wl (qC ml) d)))->Q (.ref r) H'):zi vs H Q E_
inductive pI (vs:List V) (H:Hp) (Q:VK) (E_:XK):Prop
 | mk (w m t:Addr) (wl ml:List (Int×Int)) (d:aT) (h_0:vs=[.ref w,.ref m,.ref t]) (h_1:H w=some (.dK (dk wl))) (h_2:H m=some (.dT (jU ml))) (h_3:H t=some (de d)) (h_4:wl.length<=1000) (h_5:ml.length<=4000) (h_6:b9 wl (qC ml) d=.done) (h_7:∀ H',H' w=some (.dK (dk (uo wl d)))->H' m=some (.dT (jU (p0 ml d)))->(∀ b o,H b=some o->b≠w->b≠m->H' b=some o)->Q .non H'):pI vs H Q E_
structure ed (st:b7):Prop where
 wn:(ak st.worn).Nodup
 wh:∀ g m,look st.worn g=some m↔look st.hold m=some g
 ow:∀ g m,look st.worn g=some m->m∈ak st.worn
 sm:∀ g m,look st.worn g=some m->cp m
 cy:∀ a b,jg st.circ a b=jg st.circ b a
def cQ (st:b7)(d:aT):b7:=if bw st d=.done then after st d else st
inductive Do (c:HX) (vs:List V) (H:Hp) (Q:VK) (E:XK):Prop
 | mk (p t:Addr) (A:HA) (st:b7) (d:aT) (h_0:vs=[.ref p,.ref t]) (h_1:H t=some (de d)) (h_2:aE c.C H p A st) (h_3:zA st) (h_4:ed st) (h_5:(∀ g∈names d,cp g)) (h_6:uj c H p A st d Q E):Do c vs H Q E
def ca (m c:Int):List Int:=(List.range m.toNat).map fun (k:Nat)=>wv (k:Int) c
inductive mF (vs:List V) (H:Hp) (Q:VK) (E_:XK):Prop
 | mk (l:Addr) (ns:List Int) (h_0:vs=[.ref l]) (h_1:H l=some (.lst (ns.map V.int))) (h_2:ns.length<=1000) (h_3:∀ H',aB H H'->Q (.bl true) H'):mF vs H Q E_
theorem zM (k c:Int):cp (wv k c):=by
 unfold cp wv;have h:∀ x:Int,0<=x%2147483647/\x%2147483647<2147483647:=fun x=>⟨Jb _ (by decide),IS _ (by decide)⟩;dsimp only;generalize hx:(k*(1+je c*1234567891%2147483646)+je c/2147483646)%2147483647=x;have:=h (k*(1+je c*1234567891%2147483646)+je c/2147483646);rw[hx]at this
 have e:(10:Nat) ^ 100=10 ^ 15*10 ^ 85:=by rw[<-Nat.pow_add]
 have e2:(0:Nat)<10 ^ 85:=Nat.pow_pos (by decide)
 have:x.natAbs<10 ^ 15/\(x+997852516353).natAbs<10 ^ 15:=by constructor<;>omega
 split
 ·calc _<10 ^ 15:=this.2
   _<=10 ^ 15*10 ^ 85:=Nat.le_mul_of_pos_right _ e2
   _=10 ^ 100:=e.symm
 ·calc _<10 ^ 15:=this.1
   _<=10 ^ 15*10 ^ 85:=Nat.le_mul_of_pos_right _ e2
   _=10 ^ 100:=e.symm
theorem ut (x:Int):∀ (c:List (Int×List Int))(a b:Int),ir (bW c a b) x=if x=a then j5 (ir c a) b else ir c x
 | [],a,b=>by
  by_cases h:x=a
  ·subst h;simp[bW,ir,j5]
  ·simp[bW,ir,h,Ik h]
 | y::r,a,b=>by
  unfold bW
  by_cases h:y.1=a
  ·rw[Hw h]
   by_cases hx:x=a
   ·subst hx;simp[ir,h]
   ·have:¬ y.1=x:=fun z=>hx (z.symm.trans h)
    simp[ir,hx,this]
  ·rw[Hu h]
   by_cases hx:x=a
   ·subst hx
    simp only[ir,Hu h,if_true];rw[ut x r x b,Hw rfl]
   ·simp only[ir,ut x r a b,Hu hx]
theorem wA {ks:List Int}{b y:Int}:y∈j5 ks b↔y∈ks\/y=b:=by
 unfold j5;split
 ·rename_i h
  constructor
  ·exact .inl
  ·rintro (z | z)
   ·exact z
   ·rw[z];exact h
 ·simp
theorem yV (c:List (Int×List Int))(a b x y:Int):jg (bW c a b) x y=(jg c x y||(decide (x=a)&&decide (y=b))):=by
 unfold jg;rw[ut]
 by_cases h:x=a
 ·subst h
  rw[Hw rfl]
  by_cases hy:y=b
  ·have:y∈j5 (ir c x) b:=wA.mpr (.inr hy)
   simp[hy,this];rw[hy]at this;exact this
  ·have:(y∈j5 (ir c x) b)↔y∈ir c x:=by rw[wA];simp[hy]
   simp[hy,this]
 ·rw[Hu h];simp[h]
theorem uM (c:List (Int×List Int))(a b x y:Int):jg (bW (bW c a b) b a) x y=(jg c x y||(decide (x=a)&&decide (y=b))||(decide (x=b)&&decide (y=a))):=by rw[yV,yV]
theorem m9 {l:List (Int×Int)}(h:(ak l).Nodup)(g m:Int):(ak (put l g m)).Nodup:=by
 rw[lG];split
 ·exact h
 ·rename_i n
  exact lP h n
theorem y6 {l:List (Int×Int)}(h:(ak l).Nodup)(g:Int):(ak (cD l g)).Nodup:=by
 unfold ak cD at *;exact (JY.map _).nodup h
theorem qt:ed ⟨[],[],[],[]⟩:=by
 refine⟨JS,fun g m=>?_,fun g m h=>?_,fun g m h=>?_,fun a b=>rfl⟩
 ·simp[look]
 ·simp[look]at h
 ·simp[look]at h
theorem tL {st:b7}{d:aT}(G:ed st)(sm:∀ g∈names d,cp g):ed (cQ st d):=by
 unfold cQ
 by_cases hd:bw st d=.done
 ·rw[Hw hd]
  have kw:∀ g m,look st.worn g=some m->g∈ak st.worn:=fun g m h=>bL.mp (by rw[h];rfl)
  cases d with
  | come g =>
   have hn:look st.worn g=none:=by
    cases e:look st.worn g with
    | none=>rfl
    | some m=>simp[bw,e]at hd
   have hh:look st.hold g=none:=by
    cases e:look st.hold g with
    | none=>rfl
    | some m =>
     have:=G.ow m g ((G.wh m g).mpr e);rw[<-bL,hn]at this;cases this
   refine⟨m9 G.wn g g,fun x m=>?_,fun x m h=>?_,fun x m h=>?_,G.cy⟩
   ·show look (put st.worn g g) x=some m↔look (put st.hold g g) m=some x
    rw[di,di]
    by_cases hx:x=g
    ·subst hx
     by_cases hm:m=x
     ·subst hm;simp
     ·rw[Hw rfl,Hu hm]
      constructor
      ·intro z;exact absurd (Hy z).symm hm
      ·intro z
       have:=(G.wh x m).mpr z;rw[hn]at this;cases this
    ·rw[Hu hx]
     by_cases hm:m=g
     ·subst hm
      rw[Hw rfl];constructor
      ·intro z
       have:=(G.wh x m).mp z;rw[hh]at this;cases this
      ·intro z;exact absurd (Hy z).symm hx
     ·rw[Hu hm];exact G.wh x m
   ·have h:look (put st.worn g g) x=some m:=h
    show m∈ak (put st.worn g g)
    rw[di]at h;rw[<-bL,di]
    by_cases hx:x=g
    ·rw[Hw hx]at h;cases h;rw[Hw rfl];rfl
    ·rw[Hu hx]at h
     have:=G.ow x m h;rw[<-bL]at this;split
     ·rfl
     ·exact this
   ·have h:look (put st.worn g g) x=some m:=h
    rw[di]at h
    by_cases hx:x=g
    ·rw[Hw hx]at h;cases h;exact sm g (by simp[names])
    ·rw[Hu hx]at h;exact G.sm x m h
  | go g =>
   have hg:look st.worn g=some g:=by
    cases e:look st.worn g with
    | none=>simp[bw,e]at hd
    | some m =>
     by_cases z:m=g
     ·rw[z]
     ·simp[bw,e,z]at hd
   have hh:look st.hold g=some g:=(G.wh g g).mp hg;refine⟨y6 G.wn g,fun x m=>?_,fun x m h=>?_,fun x m h=>?_,G.cy⟩
   ·show look (cD st.worn g) x=some m↔look (cD st.hold g) m=some x
    rw[gZ,gZ]
    by_cases hx:x=g
    ·subst hx
     rw[Hw rfl]
     by_cases hm:m=x
     ·rw[Hw hm];simp
     ·rw[Hu hm]
      constructor
      ·intro z;cases z
      ·intro z
       have:=(G.wh x m).mpr z;rw[hg]at this;exact absurd (Hy this).symm hm
    ·rw[Hu hx]
     by_cases hm:m=g
     ·subst hm
      rw[Hw rfl];constructor
      ·intro z
       have:=(G.wh x m).mp z;rw[hh]at this;exact absurd (Hy this).symm hx
      ·intro z;cases z
     ·rw[Hu hm];exact G.wh x m
   ·have h:look (cD st.worn g) x=some m:=h
    show m∈ak (cD st.worn g)
    rw[gZ]at h
    by_cases hx:x=g
    ·rw[Hw hx]at h;cases h
    ·rw[Hu hx]at h
     refine mZ.mpr ⟨G.ow x m h,fun z=>?_⟩;rw[z]at h;have:=(G.wh x g).mp h;rw[hh]at this;exact hx (Hy this).symm
   ·have h:look (cD st.worn g) x=some m:=h
    rw[gZ]at h
    by_cases hx:x=g
    ·rw[Hw hx]at h;cases h
    ·rw[Hu hx]at h;exact G.sm x m h
  | exch a b =>
   obtain⟨ma,ea⟩:∃ m,look st.worn a=some m:=by
    cases e:look st.worn a with
    | none=>simp[bw,e]at hd
    | some m=>exact⟨m,rfl⟩
   obtain⟨mb,eb⟩:∃ m,look st.worn b=some m:=by
    cases e:look st.worn b with
    | none=>simp[bw,ea,e]at hd
    | some m=>exact⟨m,rfl⟩
   have hab:a≠b:=fun z=>by simp[bw,ea,eb,z]at hd
   have wa:wr st.worn a=ma:=by unfold wr;rw[ea];rfl
   have wb:wr st.worn b=mb:=by unfold wr;rw[eb];rfl
   have ha:=(G.wh a ma).mp ea;have hb:=(G.wh b mb).mp eb
   have hmm:ma≠mb:=fun z=>by rw[z,hb]at ha;exact hab (Hy ha).symm
   have lw:∀ x,look (put (put st.worn a mb) b ma) x=if x=b then some ma else if x=a then some mb else look st.worn x:=fun x=>by rw[di,di]
   have lh:∀ x,look (put (put st.hold mb a) ma b) x=if x=ma then some b else if x=mb then some a else look st.hold x:=fun x=>by rw[di,di]
   show ed { worn:=put (put st.worn a (wr st.worn b)) b (wr st.worn a),hold:=put (put st.hold (wr st.worn b) a) (wr st.worn a) b,circ:=bW (bW st.circ a b) b a,deeds:=st.deeds++[.exch a b] }
   rw[wa,wb];refine⟨m9 (m9 G.wn a mb) b ma,fun x m=>?_,fun x m h=>?_,fun x m h=>?_,fun x y=>?_⟩
   ·show look (put (put st.worn a mb) b ma) x=some m↔look (put (put st.hold mb a) ma b) m=some x
    rw[lw,lh]
    by_cases hxb:x=b
    ·subst hxb
     rw[Hw rfl]
     by_cases hm:m=ma
     ·rw[Hw hm,hm];simp
     ·rw[Hu hm]
      constructor
      ·intro z;exact absurd (Hy z).symm hm
      ·intro z
       by_cases hm2:m=mb
       ·rw[Hw hm2]at z;exact absurd (Hy z) hab
       ·rw[Hu hm2]at z
        have:=(G.wh x m).mpr z;rw[eb]at this;exact absurd (Hy this).symm hm2
    ·rw[Hu hxb]
     by_cases hxa:x=a
     ·subst hxa
      rw[Hw rfl]
      by_cases hm:m=ma
      ·rw[Hw hm]
       constructor
       ·intro z;exact absurd ((Hy z).trans hm).symm hmm
       ·intro z;exact absurd (Hy z).symm hab
      ·rw[Hu hm]
       by_cases hm2:m=mb
       ·rw[Hw hm2,hm2];simp
       ·rw[Hu hm2]
        constructor
        ·intro z;exact absurd (Hy z).symm hm2
        ·intro z
         have:=(G.wh x m).mpr z;rw[ea]at this;exact absurd (Hy this).symm hm
     ·rw[Hu hxa]
      by_cases hm:m=ma
      ·rw[Hw hm]
       constructor
       ·intro z
        have:=(G.wh x m).mp z;rw[hm,ha]at this;exact absurd (Hy this).symm hxa
       ·intro z;exact absurd (Hy z).symm hxb
      ·rw[Hu hm]
       by_cases hm2:m=mb
       ·rw[Hw hm2]
        constructor
        ·intro z
         have:=(G.wh x m).mp z;rw[hm2,hb]at this;exact absurd (Hy this).symm hxb
        ·intro z;exact absurd (Hy z).symm hxa
       ·rw[Hu hm2];exact G.wh x m
   ·have h:look (put (put st.worn a mb) b ma) x=some m:=h
    show m∈ak (put (put st.worn a mb) b ma)
    have key:∀ y,y∈ak st.worn->y∈ak (put (put st.worn a mb) b ma):=fun y hy=>by
     rw[<-bL]at hy ⊢;rw[lw];split
     ·rfl
     ·split
      ·rfl
      ·exact hy
    rw[lw]at h;split at h
    ·cases h;exact key _ (G.ow a _ ea)
    ·split at h
     ·cases h;exact key _ (G.ow b _ eb)
     ·exact key _ (G.ow x m h)
   ·have h:look (put (put st.worn a mb) b ma) x=some m:=h
    rw[lw]at h;split at h
    ·cases h;exact G.sm a _ ea
    ·split at h
     ·cases h;exact G.sm b _ eb
     ·exact G.sm x m h
   ·show jg (bW (bW st.circ a b) b a) x y=jg (bW (bW st.circ a b) b a) y x
    rw[uM,uM,G.cy x y];cases decide (x=a)<;>cases decide (x=b)<;>cases decide (y=a)<;>cases decide (y=b)<;>simp
 ·rw[Hu hd];exact G
theorem gy {K:PySem.W.Frag}{H:Hp}{l:Addr}{ns:List Int}(h:aL K H l (ns.map V.int)):RD K H 2 (.ref l) (y7 ns):=by
 refine RD.lst h ?_;clear h
 induction ns with
 | nil=>exact .nil
 | cons n r ih=>exact .cons (RD.flat rfl 1) ih
theorem wV {ms ns:List Int}:y7 ms=y7 ns↔ms=ns:=by
 constructor
 ·intro h
  unfold y7 at h;injection h with _ h;revert ns
  induction ms with
  | nil=>intro ns h;cases ns with | nil=>rfl | cons _ _=>cases h
  | cons m ms ih =>
   intro ns h
   cases ns with
   | nil=>cases h
   | cons n ns =>
    rw[Iw,Iw]at h;injection h with h1 h2;injection h1 with h1;injection h1 with h1;rw[h1,ih h2]
 ·intro h;rw[h]
def sQ (xs:List V):Dt:=.sq true (xs.map fun v=>.at v)
theorem ri {K:PySem.W.Frag}{H:Hp}{l:Addr}{xs:List V}(h:H l=some (.tup xs))(hf:∀ x∈xs,jx x=true):RD K H 2 (.ref l) (sQ xs):=by
 refine RD.tup (dC.of h) ?_;clear h
 induction xs with
 | nil=>exact .nil
 | cons n r ih=>exact .cons (RD.flat (hf n HV) 1) (ih fun x hx=>hf x (HL _ hx))
theorem B9 {xs ys:List V}:sQ xs=sQ ys↔xs=ys:=by
 constructor
 ·intro h
  unfold sQ at h;injection h with _ h;revert ys
  induction xs with
  | nil=>intro ns h;cases ns with | nil=>rfl | cons _ _=>cases h
  | cons m ms ih =>
   intro ns h
   cases ns with
   | nil=>cases h
   | cons n ns =>
    rw[Iw,Iw]at h;injection h with h1 h2;injection h1 with h1;rw[h1,ih h2]
 ·intro h;rw[h]
def F4 (P:Program)(w:World)(K:PySem.W.Frag)(mg:Str->Option Value)(base:Heap)(c:HX):Prop:=∃ (fI:Addr)(fd:FuncData),Mk K c.C fI/\aS P w K mg base cJ 1 fI fd ["self"] (zk c.C)/\d9 K fd ["self"] []
theorem Fo {X:Cx}{c:HX}{p pos:Pos}(M:F4 X.prog X.w X.K X.mg X.base c)(U:HT X.K X.mg c)(hr:cx 2 X.A)(hg:Gl X "Hall"):PE X (.Call (.Name "Hall" p) [] [] pos) (DL c.C (zk c.C) [] E0 vI):=by
 obtain⟨fI,fd,M,G,hb⟩:=M;exact BG M G hr hg U.mC hb .nil eF
structure Ev (c:HX)(H0 H:Hp)(x:Addr)(B:HA)(st:b7):Prop where
 same:aB H0 H
 hall:aE c.C H x B st
 good:ed st
 nfp:∀ b∈B.fp,H0 b=none
theorem Ev.moved {c:HX}{H0 H H':Hp}{x:Addr}{B:HA}{st st':b7}(e:Ev c H0 H x B st)(m:vQ c.C H x B st' H')(g:ed st') :
  ∃ B',Ev c H0 H' x B' st'/\(∀ y o,H y=some o->y∉B.fp->H' y=some o/\y∉B'.fp)/\Tr H H':=by
 obtain⟨B',S,k,f,t⟩:=m;refine⟨B',⟨fun b o q=>k b o (e.same b o q) (fun z=>by rw[e.nfp b z]at q;cases q),S,g,fun b hb=>?_⟩,fun y o q n=>⟨k y o q n,fun z=>?_⟩,t⟩
 ·rcases f b hb with z | z
  ·exact e.nfp b z
  ·exact e.same.free z
 ·rcases f y z with z | z
  ·exact n z
  ·rw[q]at z;cases z
theorem Ev.fits {st:b7}(h1:st.worn.length<=100)(h2:st.hold.length<=100)(h3:st.circ.length<=900)(h4:∀ x∈st.circ,x.2.length<=900)(h5:st.deeds.length<=900):zA st:=⟨by omega,by omega,by omega,fun x hx=>by have:=h4 x hx;omega,by omega⟩
def Of (L:List Int)(st:b7):Prop:=(∀ g∈ak st.worn,g∈L)/\(∀ g∈ak st.hold,g∈L)/\(ak st.hold).Nodup
theorem of_empty {L:List Int}:Of L ⟨[],[],[],[]⟩:=⟨fun g h=>by simp[ak]at h,fun g h=>by simp[ak]at h,JS⟩
theorem hG {l:List (Int×Int)}{g m x:Int}:x∈ak (put l g m)↔x∈ak l\/x=g:=by
 rw[lG];split
 ·rename_i h
  constructor
  ·exact .inl
  ·rintro (z | z)
   ·exact z
   ·rw[z];exact h
 ·simp
theorem y9 {L:List Int}{st:b7}{d:aT}(G:ed st)(o:Of L st)(hn:∀ g∈names d,g∈L):Of L (cQ st d):=by
 unfold cQ
 by_cases hd:bw st d=.done
 ·rw[Hw hd]
  obtain⟨o1,o2,o3⟩:=o
  cases d with
  | come g =>
   refine⟨fun x hx=>?_,fun x hx=>?_,m9 o3 g g⟩
   ·rcases hG.mp (show x∈ak (put st.worn g g) from hx) with z | z
    ·exact o1 x z
    ·rw[z];exact hn g (by simp[names])
   ·rcases hG.mp (show x∈ak (put st.hold g g) from hx) with z | z
    ·exact o2 x z
    ·rw[z];exact hn g (by simp[names])
  | go g =>
   exact⟨fun x hx=>o1 x (mZ.mp (show x∈ak (cD st.worn g) from hx)).1,fun x hx=>o2 x (mZ.mp (show x∈ak (cD st.hold g) from hx)).1,y6 o3 g⟩
  | exch a b =>
   obtain⟨ma,ea⟩:∃ m,look st.worn a=some m:=by
    cases e:look st.worn a with
    | none=>simp[bw,e]at hd
    | some m=>exact⟨m,rfl⟩
   obtain⟨mb,eb⟩:∃ m,look st.worn b=some m:=by
    cases e:look st.worn b with
    | none=>simp[bw,ea,e]at hd
    | some m=>exact⟨m,rfl⟩
   have wa:wr st.worn a=ma:=by unfold wr;rw[ea];rfl
   have wb:wr st.worn b=mb:=by unfold wr;rw[eb];rfl
   refine⟨fun x hx=>?_,fun x hx=>?_,m9 (m9 o3 _ _) _ _⟩
   ·rcases hG.mp (show x∈ak (put (put st.worn a (wr st.worn b)) b (wr st.worn a)) from hx) with z | z
    ·rcases hG.mp z with z | z
     ·exact o1 x z
     ·rw[z];exact hn a (by simp[names])
    ·rw[z];exact hn b (by simp[names])
   ·rcases hG.mp (show x∈ak (put (put st.hold (wr st.worn b) a) (wr st.worn a) b) from hx) with z | z
    ·rcases hG.mp z with z | z
     ·exact o2 x z
     ·rw[z,wb];exact o1 _ (G.ow b mb eb)
    ·rw[z,wa];exact o1 _ (G.ow a ma ea)
 ·rw[Hu hd];exact o
theorem yg {L:List Int}{st:b7}(G:ed st)(o:Of L st):st.worn.length<=L.length/\st.hold.length<=L.length:=by
 have e1:st.worn.length=(ak st.worn).length:=by simp[ak]
 have e2:st.hold.length=(ak st.hold).length:=by simp[ak]
 exact⟨by rw[e1];exact bO G.wn o.1,by rw[e2];exact bO o.2.2 o.2.1⟩
theorem yd (st:b7)(d:aT):(cQ st d).deeds.length<=st.deeds.length+1:=by
 unfold cQ;split
 ·cases d<;>simp[after]
 ·omega
theorem Ab (st:b7)(d:aT):(cQ st d).worn=if bw st d=.done then uo st.worn d else st.worn:=by
 unfold cQ;split
 ·exact xA st d
 ·rfl
def Fm:Cp->Str
 | .done=>"done"
 | .already=>"AlreadyIn"
 | .masked=>"Masked"
 | .same=>"Same"
 | .met=>"Met"
 | .noguest _=>"NoGuest"
theorem Gr (o:Cp):(Ek o)[0]? = some (V.str (Fm o)):=by cases o<;>rfl
theorem Ah (o:Cp):decide (V.str (Fm o)=V.str "done")=decide (o=.done):=by
 cases o with
 | done=>exact (show decide (V.str "done" = V.str "done")=true by decide +kernel)
 | already=>exact (show decide (V.str "AlreadyIn" = V.str "done")=false by decide +kernel)
 | masked=>exact (show decide (V.str "Masked" = V.str "done")=false by decide +kernel)
 | same=>exact (show decide (V.str "Same" = V.str "done")=false by decide +kernel)
 | met=>exact (show decide (V.str "Met" = V.str "done")=false by decide +kernel)
 | noguest g =>
  rw[Ih (show ¬ Cp.noguest g=.done by simp)];exact (show decide (V.str "NoGuest" = V.str "done")=false by decide +kernel)
theorem tS (m c:Int):(ca m c).length=m.toNat:=by unfold ca;simp
inductive pK (vs:List V) (H:Hp) (Q:VK) (E_:XK):Prop
 | mk (dr m c:Int) (h_0:vs=[.int dr,.int m,.int c]) (h_1:(0<=dr/\dr<=100000)) (h_2:(2<=m/\m<=40)) (h_3:∀ (t:Addr)(d:aT),H t=none->(∀ g∈names d,g∈ca 40 c)->Q (.ref t) (upd H t (de d))):pK vs H Q E_
inductive pJ (vs:List V) (H:Hp) (Q:VK) (E_:XK):Prop
 | mk (c:Int) (h_0:vs=[.int c]) (h_1:∀ m:Int,2<=m/\m<=40->Q (.int m) H):pJ vs H Q E_
theorem xP {k c:Int}(h:0<=k/\k<40):wv k c∈ca 40 c:=by
 unfold ca;rw[IB];exact⟨k.toNat,IR.mpr (by omega),by rw[Int.toNat_of_nonneg h.1]⟩
theorem qb {H:Hp}{l t:Addr}{as:List Addr}{ds:List aT}(hl:H l=some (.lst (as.map V.ref)))(hp:Paired (fun a x=>H a=some (de x)) as ds)(ht:H t=none)(d:aT):bN (upd (upd H t (de d)) l (.lst (as.map V.ref++[.ref t]))) l (ds++[d]):=by
 have tl:t≠l:=fun z=>by rw[z,hl]at ht;cases ht
 refine⟨as++[t],by rw[ac,Ii];rfl,bx (Paired.mapP hp fun b y e=>?_) (.cons (by rw[ae tl,ac]) .nil)⟩;obtain⟨xs,ex⟩:=dh y;rw[ae (fun z=>by rw[z,hl,ex]at e;cases e),ae (aj e ht)];exact e
inductive pO (C:Addr) (vs:List V) (H:Hp) (Q:VK) (E_:XK):Prop
 | mk (p:Addr) (A:HA) (st:b7) (h_0:vs=[.ref p]) (h_1:aE C H p A st) (h_2:∀ (l:Addr)(H':Hp),H l=none->aB H H'->bN H' l st.deeds->Q (.ref l) H'):pO C vs H Q E_
theorem CU {a b x y:Int}:fg x y=fg a b↔(x=a/\y=b)\/(x=b/\y=a):=by
 unfold fg
 by_cases h1:y<x<;>by_cases h2:b<a
 ·rw[Hw h1,Hw h2,Prod.mk.injEq];omega
 ·rw[Hw h1,Hu h2,Prod.mk.injEq];omega
 ·rw[Hu h1,Hw h2,Prod.mk.injEq];omega
 ·rw[Hu h1,Hu h2,Prod.mk.injEq];omega
theorem qA {ml:List (Int×Int)}{p q:Int×Int}:q∈gK ml p↔q∈ml\/q=p:=by
 unfold gK;split
 ·rename_i h
  constructor
  ·exact .inl
  ·rintro (z | z)
   ·exact z
   ·rw[z];exact h
 ·simp
def nX (st:b7)(ml:List (Int×Int)):Prop:=∀ a b,jg st.circ a b=qC ml a b
theorem vX:nX ⟨[],[],[],[]⟩ []:=fun a b=>by unfold jg qC;simp[ir]
def ku (st:b7)(ml:List (Int×Int))(d:aT):List (Int×Int):=if bw st d=.done then p0 ml d else ml
theorem xB {st:b7}{ml:List (Int×Int)}{d:aT}(h:nX st ml):nX (cQ st d) (ku st ml d):=by
 unfold cQ ku
 by_cases hd:bw st d=.done
 ·rw[Hw hd,Hw hd]
  cases d with
  | come g=>exact h
  | go g=>exact h
  | exch a b =>
   intro x y
   show jg (bW (bW st.circ a b) b a) x y=qC (gK ml (fg a b)) x y
   rw[uM,h x y];unfold qC
   have e:decide (fg x y∈gK ml (fg a b))=(decide (fg x y∈ml)||decide ((x=a/\y=b)\/(x=b/\y=a))):=by
    rw[<-Bool.decide_or]
    congr 1
    rw[qA,CU]
   rw[e,Bool.decide_or,Bool.decide_and,Bool.decide_and,Bool.or_assoc]
 ·rw[Hu hd,Hu hd];exact h
theorem wx {st:b7}{ml:List (Int×Int)}(h:nX st ml)(d:aT):b9 st.worn (qC ml) d=bw st d:=by rw[CT];exact uF (fun a b=>(h a b).symm) d
structure Sz (n:Nat)(st:b7):Prop where
 c:st.circ.length<=2*n
 k:∀ x∈st.circ,x.2.length<=2*n
 d:st.deeds.length<=n
theorem G6:Sz 0 ⟨[],[],[],[]⟩:=⟨Hv _,(fun x hx=>nomatch hx),Hv _⟩
theorem zn {n:Nat}{st:b7}(h:Sz n st)(d:aT):Sz (n+1) (cQ st d):=by
 have keep:Sz (n+1) st:=⟨by have:=h.c;omega,fun x hx=>by have:=h.k x hx;omega,by have:=h.d;omega⟩;refine⟨?_,?_,by have:=yd st d;have:=h.d;omega⟩
 ·unfold cQ
  split
  ·cases d with
   | come g=>exact keep.c
   | go g=>exact keep.c
   | exch a b =>
    show (bW (bW st.circ a b) b a).length<=_
    have:=lH (bW st.circ a b) b a;have:=lH st.circ a b;have:=h.c;omega
  ·exact keep.c
 ·unfold cQ
  split
  ·cases d with
   | come g=>exact keep.k
   | go g=>exact keep.k
   | exch a b =>
    intro x hx;have:=pZ (n:=2*n+1) (pZ (n:=2*n) (a:=a) (b:=b) h.k (by omega)) (by omega) x hx;omega
  ·exact keep.k
theorem CJ {L:List Int}{n:Nat}{st:b7}(G:ed st)(o:Of L st)(hL:L.length<=100)(z:Sz n st)(hn:n<=400):zA st:=by
 have:=yg G o;exact Ev.fits (by omega) (by omega) (by have:=z.c;omega) (fun x hx=>by have:=z.k x hx;omega) (by have:=z.d;omega)
def Hb (ds:List aT):Dt:=.sq false (ds.map fun d=>sQ (dc d))
theorem zJ (d:aT):∀ x∈dc d,jx x=true:=by
 cases d<;>(intro x hx;simp[dc,names]at hx)
 ·rcases hx with rfl | rfl<;>rfl
 ·rcases hx with rfl | rfl<;>rfl
 ·rcases hx with rfl | rfl | rfl<;>rfl
theorem xf {K:PySem.W.Frag}{H:Hp}{l:Addr}{ds:List aT}(h:bN H l ds):RD K H 2 (.ref l) (Hb ds):=by
 obtain⟨as,hl,hp⟩:=h;refine RD.lst (aL.of hl) ?_;clear hl
 induction hp with
 | nil=>exact .nil
 | cons e _ ih =>
  rename_i a d _ _ _
  refine .cons ?_ ih;rw[pp]at e;refine RD.tup (dC.of e) ?_;have hf:=zJ d;generalize dc d=xs at hf;clear e ih
  induction xs with
  | nil=>exact .nil
  | cons n r ih2=>exact .cons (RD.flat (hf n HV) 0) (ih2 fun x hx=>hf x (HL _ hx))
theorem zK {H:Hp}{l t:Addr}{as:List Addr}{ds:List aT}{d:aT}(hl:H l=some (.lst (as.map V.ref)))(hp:Paired (fun a x=>H a=some (de x)) as ds)(ht:H t=some (de d)):bN (upd H l (.lst (as.map V.ref++[.ref t]))) l (ds++[d]):=by
 have nt:∀ b y,H b=some (de y)->b≠l:=fun b y e z=>by obtain⟨xs,ex⟩:=dh y;rw[z,hl,ex]at e;cases e
 refine⟨as++[t],by rw[ac,Ii];rfl,bx (Paired.mapP hp fun b y e=>?_) (.cons (by rw[ae (nt t d ht)];exact ht) .nil)⟩;rw[ae (nt b y e)];exact e
theorem C7 (st:b7)(d:aT):(cQ st d).deeds=if bw st d=.done then st.deeds++[d] else st.deeds:=by
 unfold cQ;split
 ·cases d<;>rfl
 ·rfl
theorem gl {m c g:Int}(h:g∈ca m c):cp g:=by
 unfold ca at h;obtain⟨k,_,rfl⟩:=IB.mp h;exact zM _ _
theorem AQ {xs:List V}(n:Nat):iA xs none (some (n:Int))=xs.take n:=by
 unfold iA;rw[HT.sIx_none,HT.sIx_nat,List.drop_zero,Nat.sub_zero]
 by_cases h:n<=xs.length
 ·rw[Nat.min_eq_left h]
 ·rw[Nat.min_eq_right (by omega),List.take_of_length_le (Hv _),List.take_of_length_le (by omega)]
end Wz
namespace L2
open PySem PySem.Spec PyProof.Rows
theorem qZ {X:Cx}{P:Program}{w:World}:dD (iY P w) X (fun _ _ _=>False):=by
 intro pins σ H s e s' I hc;obtain⟨ea,C,od,H',B,rfl,fl,un,hok,os,bare,hsB,trB,hE⟩:=hc;exact hE.elim
def Cx.tried (X:Cx)(pins:List (Addr×Obj))(E:Value->Shared->Prop):Cx:={ X with xe:=E,pn:=X.pn++pins }
theorem ax.tried {X:Cx}{pins:List (Addr×Obj)}{σ:St}{H:Hp}{s:Shared}{E:Value->Shared->Prop}(I:ax X pins σ H s):ax (X.tried pins E) [] σ H s :=
 ⟨⟨I.ok.mod,I.ok.kind,I.ok.glob,I.ok.blt,I.ok.above,I.ok.inj,I.ok.has,I.ok.cab,I.ok.hd,I.ok.frames,I.ok.stk,I.ok.exf,I.ok.bs,I.ok.bsz,I.ok.noex,I.ok.exfs,I.ok.funs,I.ok.frf⟩,I.os,I.bare,I.base,I.loc,I.cell,I.free,I.freeC,fun p hp=>I.pin p (by
  have hp:p∈(X.pn++pins)++[]:=hp
  rwa [Jw]at hp),I.hok,I.len⟩
theorem ax.untried {X:Cx}{pins qins:List (Addr×Obj)}{σ:St}{H:Hp}{s:Shared}{E:Value->Shared->Prop}(I:ax (X.tried pins E) qins σ H s):ax X pins σ H s :=
 ⟨⟨I.ok.mod,I.ok.kind,I.ok.glob,I.ok.blt,I.ok.above,I.ok.inj,I.ok.has,I.ok.cab,I.ok.hd,I.ok.frames,I.ok.stk,I.ok.exf,I.ok.bs,I.ok.bsz,I.ok.noex,I.ok.exfs,I.ok.funs,I.ok.frf⟩,I.os,I.bare,I.base,I.loc,I.cell,I.free,I.freeC,fun p hp=>I.pin p (by
  show p∈(X.pn++pins)++qins
  exact Jv _ hp),I.hok,I.len⟩
def EU (d:Addr)(o:Obj)(kvs:List (bP×V)):It :=
 ⟨fun i H=>H d=some (.frz o (.dK kvs))/\i<kvs.length,fun i H x H'=>H'=H/\∃ p,kvs[i]? = some p/\x=kV p.1,fun i H=>H d=some (.frz o (.dK kvs))/\kvs.length<=i⟩
theorem yM {P:Program}{w:World}{H:Hp}{h:Heap}{d:Addr}{o:Obj}{kvs:List (bP×V)}{ep:Nat}(hep:∀ es ep',o.data=.dict es ep'->ep'=ep)(x:bb P w H h d (.frz o (.dK kvs))):(d == sysModules)=false/\∃ vs,KV kvs vs/\h.DictAt (be P w) d vs ep:=by
 obtain⟨hg,hz,lo,vs,rel,dd⟩:=x;obtain⟨ep',hat⟩:=dd.dictAt;refine⟨lo,vs,rel,?_⟩;obtain⟨od,es,hod,hcd,hdd,r⟩:=id hat;rw[hg]at hod;cases hod;rw[<-hep _ _ hdd];exact hat
theorem Az {P:Program}{w:World}{K:PySem.W.Frag}{tg:Expr}(d it:Addr)(o:Obj)(kvs:List (bP×V))(ep:Nat)(hep:∀ es ep',o.data=.dict es ep'->ep'=ep):vT P w K tg (EU d o kvs) [it] it (fun i h=>h.IsKeyIter it d i kvs.length ep) where
 mem:=by simp
 obj:=fun i h st b hb=>by
  have e:b=it:=by simpa using hb
  subst e;obtain⟨o,e,c,d⟩:=st;exact⟨o,e,fun v z=>by rw[d]at z;cases z⟩
 keep:=fun i h h' st k=>st.at fun o e=>k it (by simp) o e
 item:=by
  intro X hP hw hK hc i pins s σ H E I hf st hg;subst hP hw hK;obtain⟨hH,hi⟩:=hg;obtain⟨lo,vs,rel,hat⟩:=yM hep (I.hok d _ hH);obtain⟨f0,f1,f2,f3,f4,f5⟩:=hf it (by simp);have hl:kvs.length=vs.length:=Ic rel;obtain⟨p,hp⟩:∃ p,kvs[i]? = some p:=⟨kvs[i],by simp[hi]⟩;obtain⟨q,hq⟩:∃ q,vs[i]? = some q:=⟨vs[i]'(by omega),by simp[show i<vs.length by omega]⟩;obtain⟨k,v⟩:=q
  have ek:p.1=k:=by
   have e1:(kvs.map (·.1))[i]? = some p.1:=by rw[List.getElem?_map,hp];rfl
   rw[rel.keys,List.getElem?_map,hq]at e1;exact (Hy e1).symm
  rw[hl]at st;refine wpAny_pyNext_dict_item (knd:=be X.prog X.w) st hat hq fun key h' hk st' sb=>?_;have I1:ax X pins σ H { s with heap:=h' }:=I.turned (t':=s.toks) (fun b o hb e=>(sb.2 b hb).trans e) f0 f1 f3 f4 f5;obtain⟨o2,e,c,d2⟩:=id st';refine⟨key,rfl,wu (s:={ s with heap:=h' }) e c d2 (by decide) ⟨kV k,H,I1,?_,⟨rfl,p,hp,by rw[ek]⟩,by rw[hl];exact st',fun b hb=>(hf b hb).1⟩⟩;rcases bK (k:=k) (v:=key) hk with ⟨j,t,ej,ev⟩ | ⟨j,t,ej,ev⟩
  ·subst ej;exact⟨t,ev⟩
  ·subst ej;exact⟨t,ev⟩
 done:=by
  intro X hP hw hK hc i pins s σ H E I hf st hg;subst hP hw hK;obtain⟨hH,hi⟩:=hg;obtain⟨lo,vs,rel,hat⟩:=yM hep (I.hok d _ hH);have hl:kvs.length=vs.length:=Ic rel;obtain⟨f0,f1,f2,f3,f4,f5⟩:=hf it (by simp);rw[hl]at st;exact wpAny_pyNext_dict_end (knd:=be X.prog X.w) (I.ok.hd hc) st hat (by simp;omega) fun h' eb=>⟨rfl,I.turned (t':=s.toks) (fun b o hb e=>eb b o hb e) f0 f1 f3 f4 f5⟩
 self:=fun _ _ _ _ _ st h=>wpAny_pyIter_keyiter st h
def Fc (tl:TE):TI:=fun σ H R=>tl σ H fun x H1=>∃ d kvs,x=.ref d/\H1 d=some (.dK kvs)/\∀ o:Obj,R (EU d o kvs) (upd H1 d (.frz o (.dK kvs)))
theorem pE {X:Cx}{tg l:Expr}{tl:TE}(hl:PE X l tl):PI X tg l (Fc tl):=by
 intro pins s σ H R I h;refine bc (hl pins s σ H _ I h) fun v s1 ⟨x,H1,I1,r1,q1⟩=>?_;obtain⟨d,kvs,e,hH,q⟩:=q1;subst e;cases r1;obtain⟨hz,lo,vs,rel,dd⟩:=(show bb X.prog X.w H1 s1.heap d (.dK kvs) from I1.hok d _ hH);obtain⟨ep,hat⟩:=dd.dictAt;obtain⟨o,es,ho,hc,hdat,r⟩:=id hat;have hl2:kvs.length=vs.length:=Ic rel;refine wpAny_pyIter_dict (knd:=be X.prog X.w) lo hat ?_;have I2:ax X pins σ (upd H1 d (.frz o (.dK kvs))) { s1 with heap:=s1.heap,toks:=s1.toks }:=I1.write (by rw[hH];trivial) (.inl rfl) (fun b u _ e=>e) ⟨_,ho⟩ ⟨ho,hz,lo,vs,rel,dd⟩;refine⟨s1.heap.objs.size,[s1.heap.objs.size],_,_,_,rfl,I2.kept (t':=s1.toks) fun b o e=>Heap.get?_push_of_some _ e,Az d _ o kvs ep (fun es' ep' e=>?_),⟨_,Heap.get?_push_size _ rfl,rfl,by rw[hl2];rfl⟩,fun b hb=>?_,q o⟩
 ·rw[hdat]at e;cases e;rfl
 ·have e:b=s1.heap.objs.size:=by simpa using hb
  subst e;exact I2.fpOk (Hv _) (I2.hok.fresh (Hv _))
theorem lA {d:Addr}{o:Obj}{kvs:List (bP×V)}{g:TG}{tb:TS}{D:im}{σ:St}{H:Hp}(Pv:Nat->St->Hp->Prop)(h0:Pv 0 σ H)(hl:∀ i σ H,i<=kvs.length->Pv i σ H->H d=some (.frz o (.dK kvs)))
  (hs:∀ i p σ H,kvs[i]? = some p->Pv i σ H->g (kV p.1) σ H fun σ2 H2=>tb { D with nx:=Pv (i+1),ct:=Pv (i+1),bk:=D.nx } σ2 H2) (hd:∀ σ H,Pv kvs.length σ H->D.nx σ H) :
  ∃ W:Nat->Nat->St->Hp->Prop,(∃ m,W 0 m σ H)/\∀ i m σ H,W i m σ H ->
   ((EU d o kvs).stop i H/\D.nx σ H)\/((EU d o kvs).go i H/\∃ N:St->Hp->Prop,(∀ σ' H',N σ' H'->∃ m',m'<m/\W (i+1) m' σ' H')/\∀ x H',(EU d o kvs).yld i H x H'->g x σ H' fun σ2 H2=>tb { D with nx:=N,ct:=N,bk:=D.nx } σ2 H2):=by
 refine⟨fun i m σ H=>m=kvs.length-i/\i<=kvs.length/\Pv i σ H,⟨kvs.length,by simp,Ip _,h0⟩,?_⟩;rintro i m σ H ⟨rfl,hi,p⟩;have q:=hl i σ H hi p
 by_cases hlt:i<kvs.length
 ·refine .inr ⟨⟨q,hlt⟩,Pv (i+1),fun σ' H' p'=>⟨kvs.length-(i+1),by omega,rfl,hlt,p'⟩,fun x H' y=>?_⟩
  obtain⟨e,p2,hp,ex⟩:=y;subst e ex;exact hs i p2 σ _ hp p
 ·have e:i=kvs.length:=by omega
  subst e;exact .inl ⟨⟨q,Hv _⟩,hd σ H p⟩
end L2
namespace Wz
open PySem L2
def da (ds:List aT):b7:=ds.foldl after ⟨[],[],[],[]⟩
theorem uc (ds:List aT)(d:aT):da (ds++[d])=after (da ds) d:=by unfold da;rw[JC];rfl
def ij (ds:List aT):Prop:=∀ i d,ds[i]? = some d->bw (da (ds.take i)) d=.done
theorem wj:ij []:=fun i d h=>by simp at h
theorem uz {ds:List aT}{d:aT}(h:ij ds)(hd:bw (da ds) d=.done):ij (ds++[d]):=by
 intro i e he
 by_cases hi:i<ds.length
 ·rw[List.getElem?_append_left hi]at he
  rw[List.take_append_of_le_length (by omega)];exact h i e he
 ·have hl:=(List.getElem?_eq_some_iff.mp he).1
  rw[Ia,IC]at hl
  have e1:i=ds.length:=by omega
  subst e1;simp at he;subst he;simpa using hd
theorem vW (st:b7)(d:aT):(after st d).deeds=st.deeds++[d]:=by cases d<;>rfl
structure zB (H0 H:Hp)(w m ls:Addr)(st:b7)(ml:List (Int×Int)):Prop where
 hw:H w=some (.dK (dk st.worn))
 hm:H m=some (.dT (jU ml))
 hs:bN H ls st.deeds
 w0:H0 w=none
 m0:H0 m=none
 s0:H0 ls=none
theorem zB.on {H0 H H':Hp}{w m ls:Addr}{st:b7}{ml:List (Int×Int)}(e:zB H0 H w m ls st ml)(s:aB H H'):zB H0 H' w m ls st ml:=⟨s _ _ e.hw,s _ _ e.hm,bX e.hs s,e.w0,e.m0,e.s0⟩
theorem zB.ws {H0 H:Hp}{w m ls:Addr}{st:b7}{ml:List (Int×Int)}(e:zB H0 H w m ls st ml):w≠ls:=by obtain⟨as,h,_⟩:=e.hs;exact bY e.hw h (by intro z;cases z)
theorem zB.ms {H0 H:Hp}{w m ls:Addr}{st:b7}{ml:List (Int×Int)}(e:zB H0 H w m ls st ml):m≠ls:=by obtain⟨as,h,_⟩:=e.hs;exact bY e.hm h (by intro z;cases z)
theorem zB.done {H0 H H1:Hp}{w m ls:Addr}{st:b7}{ml:List (Int×Int)}{d:aT}(e:zB H0 H w m ls st ml)(hj:bw st d=.done)
  (h1:H1 w=some (.dK (dk (uo st.worn d)))) (h2:H1 m=some (.dT (jU (p0 ml d)))) (k:∀ b o,H b=some o->b≠w->b≠m->H1 b=some o)
  {as:List Addr} (hl:H ls=some (.lst (as.map V.ref))) (hp:Paired (fun a x=>H a=some (de x)) as st.deeds) {t:Addr} (ht:H t=some (de d)) :
  zB H0 (upd H1 ls (.lst (as.map V.ref++[.ref t]))) w m ls (cQ st d) (ku st ml d)/\H1 ls=some (.lst (as.map V.ref)):=by
 have nt:∀ b y,H b=some (de y)->b≠w/\b≠m:=fun b y q=>by
  obtain⟨xs,ex⟩:=dh y;rw[ex]at q;exact⟨bY q e.hw (by intro z;cases z),bY q e.hm (by intro z;cases z)⟩
 have hl1:=k _ _ hl (Ik e.ws) (Ik e.ms);have d1:bN (upd H1 ls (.lst (as.map V.ref++[.ref t]))) ls (st.deeds++[d]):=zK hl1 (Paired.mapP hp fun b y q=>k _ _ q (nt b y q).1 (nt b y q).2) (k _ _ ht (nt t d ht).1 (nt t d ht).2);refine⟨⟨?_,?_,?_,e.w0,e.m0,e.s0⟩,hl1⟩
 ·rw[ae e.ws,Ab,Hw hj];exact h1
 ·rw[ae e.ms];unfold ku;rw[Hw hj];exact h2
 ·rw[C7,Hw hj];exact d1
inductive mr (c:HX) (vs:List V) (H:Hp) (Q:VK) (E_:XK):Prop
 | mk (l:Addr) (ds:List aT) (L:List Int) (h_0:vs=[.ref l]) (h_1:bN H l ds) (h_2:ij ds) (h_3:ds.length<=88) (h_4:L.length<=100) (h_5:(∀ d∈ds,∀ g∈names d,g∈L/\cp g)) (h_6:∀ (x:Addr)(B:HA)(H':Hp),H x=none->Ev c H H' x B (da ds)->Q (.ref x) H'):mr c vs H Q E_
theorem jz:∀ {l:List (Int×Int)}{g m:Int},(ak l).Nodup->(g,m)∈l->look l g=some m
 | p::l,g,m,nd,h=>by
  unfold ak at nd;rw[Iw,Iz]at nd;unfold look;rcases HW.mp h with z | z
  ·rw[<-z,Hw rfl]
  ·rw[Hu (fun e=>nd.1 (by rw[e];exact IG (f:=(·.1)) z))]
   exact jz nd.2 z
end Wz
namespace L2
open PySem PySem.Spec PyProof.Rows
theorem oE:∀ (l acc:List Int),(acc++l).Nodup->l.foldl step_dedup acc=acc++l
 | [],acc,_=>by simp
 | x::l,acc,h=>by
  rw[Jy]
  have hx:x∉acc:=fun z=>by
   rw[JN]at h;exact h.2.2 x z x HV rfl
  have e:step_dedup acc x=acc++[x]:=by
   unfold step_dedup;rw[Hu];simpa using hx
  rw[e,oE l (acc++[x]) (by rw[JD];exact h),JD];rfl
theorem qj {ns:List Int}(h:ns.Nodup):firstMet (fun i=>ns.getD i 0) ns.length=ns:=by
 have e:(List.range ns.length).map (fun i=>ns.getD i 0)=ns:=by
  apply List.ext_getElem?
  intro i;rw[List.getElem?_map]
  by_cases hi:i<ns.length
  ·rw[List.getElem?_range hi]
   simp[hi]
  ·rw[List.getElem?_eq_none (by simp;omega),List.getElem?_eq_none (by omega)]
   rfl
 unfold firstMet;rw[e,oE ns [] (by simpa using h)];rfl
theorem zE {X:Cx}(hc:X.calm=true):eX X (.type "set") (fun xs H Q=>∃ (p:Addr)(ns:List Int),xs=[.ref p]/\aL X.K H p (ns.map V.int)/\ns.Nodup/\ns.length<=1000/\∀ l S,H l=none->Q (.ref l) (upd H l (.set S ns.length))):=by
 intro pins s σ H xs us Q I r h;obtain⟨p,ns,rfl,hq,nd,hz,q⟩:=h;obtain⟨u,rfl,rx⟩:=jP r;cases rx;obtain⟨its,rv,pl,_⟩:=I.list hq;have hl:=rv.length;rw[Hs]at hl;refine call_set_list (I.ok.hd hc) pl.isList (ns:=ns) (by simpa using fe rv) (by rw[HU,<-hl];exact Js (Nat.succ_le_succ hz) (by decide)) fun h' tk hS hk=>?_;rw[show its.toArray.size=ns.length by rw[HU,hl],qj nd]at hS;refine⟨.ref s.heap.objs.size,_,I.laid (t':=tk) (o:=.set _ ns.length) (fun b u e=>hk b u (HQ e) e) (Hv _) (show bb X.prog X.w _ _ _ (.set _ ns.length) from hS),rfl,q _ _ (I.hok.fresh (Hv _))⟩
theorem zD {X:Cx}:eX X (.builtin "len") (fun xs H Q=>∃ p S n,xs=[.ref p]/\H p=some (.set S n)/\Q (.int n) H):=by
 intro pins s σ H xs us Q I r h;obtain⟨p,S,n,rfl,hp,q⟩:=h;obtain⟨u,rfl,rx⟩:=jP r;cases rx;obtain⟨o,es,ep,t,ho,hex,hd,_,_,hb,hf,hn⟩:=(show s.heap.SetOf (intKind X.prog X.w) p S n from I.hok p _ hp);subst hn;refine call_len_set ho hex hd hf ?_ ⟨.int es.size,H,I.tok _,⟨_,rfl⟩,q⟩;have:es.size<4096:=hb;omega
end L2
namespace Wz
open PySem L2
theorem kM (l:List Int):(aD l).Pairwise (·<=·):=by
 have h1:(aD l).Pairwise (fun a b=>decide (a<=b)=true):=List.pairwise_mergeSort (by intro a b c;simp;omega) (by intro a b;simp;omega) l;exact h1.imp (by simp)
theorem cG (l:List Int):(aD l).Perm l:=JX l _
end Wz
namespace L2
open PySem PySem.Spec PyProof.Rows
theorem rQ (elt t0 i0:Expr)(c0:List Expr)(t1 i1:Expr)(c1:List Expr)(scope:Scope)(pos:Pos)(it acc:Value)(env:Env) :
  compTurn (.ListComp elt [⟨t0,i0,c0,0⟩,⟨t1,i1,c1,0⟩] scope pos) 0 it acc env=(do
   standAt i0.pos
   match <-pyNext it with
   | none=>pure (.done .next)
   | some v =>
    letOwnedTupleGo t0 it v
    assign t0 env v
    let mut ok:=true
    for c in c0 do
     if ok then ok <-isTrue c env (eval c env)
    if ok then
     let x <-eval i1 env
     standAt i1.pos
     let x <-foldedSetIterable i1 env x
     let it1 <-holding [x] (pyIter x)
     let _ <-runOwn (.compStart (.ListComp elt [⟨t0,i0,c0,0⟩,⟨t1,i1,c1,0⟩] scope pos) 1 it1 acc env) env
     again (.compLoop (.ListComp elt [⟨t0,i0,c0,0⟩,⟨t1,i1,c1,0⟩] scope pos) 0 it acc env)
    else
     again (.compLoop (.ListComp elt [⟨t0,i0,c0,0⟩,⟨t1,i1,c1,0⟩] scope pos) 0 it acc env)):=by rfl
theorem rR (elt t0 i0:Expr)(c0:List Expr)(t1 i1:Expr)(c1:List Expr)(scope:Scope)(pos:Pos)(it acc:Value)(env:Env) :
  compTurn (.ListComp elt [⟨t0,i0,c0,0⟩,⟨t1,i1,c1,0⟩] scope pos) 1 it acc env=(do
   standAt i1.pos
   match <-pyNext it with
   | none=>pure (.done .next)
   | some v =>
    letOwnedTupleGo t1 it v
    assign t1 env v
    let mut ok:=true
    for c in c1 do
     if ok then ok <-isTrue c env (eval c env)
    if ok then
     (do let _ <-call (.builtin "list.append") [acc,<-eval elt env])
    again (.compLoop (.ListComp elt [⟨t0,i0,c0,0⟩,⟨t1,i1,c1,0⟩] scope pos) 1 it acc env)):=by rfl
section
variable {prog:Program}{w:World}{A:Around}{R:Result->Shared->Prop}{s:Shared}{elt t0 i0 t1 i1:Expr}{c0 c1:List Expr}{scope:Scope}{pos:Pos}{it acc:Value}{env:Env}
theorem j6 (I:Nat->Shared->Prop)
  (turn:∀ n s,I n s->wpAny (model prog w) A (pyNext it) (fun r s₁=>match r with
   | none=>R (.ok .next) s₁
   | some v=>wpAny (model prog w) A (letOwnedTupleGo t1 it v) (fun _ s₁'=>wpAny (model prog w) A (assign t1 env v) (fun _ s₂ =>
     wpAny (model prog w) A (forIn c1 true fun c r=>if r=true then do let ok <-isTrue c env (eval c env);pure (ForInStep.yield ok) else pure (ForInStep.yield r)) (fun ok s₃ =>
      if ok=true then wpAny (model prog w) A (eval elt env) (fun x s₄ =>
       wpAny (model prog w) A (call (.builtin "list.append") [acc,x]) (fun _ s₅=>∃ m,m<n/\I m s₅) (fun _ _=>False) s₄) (fun _ _=>False) s₃
      else ∃ m,m<n/\I m s₃) (fun _ _=>False) s₂) (fun _ _=>False) s₁') (fun _ _=>False) s₁) (fun _ _=>False) s)
  (n:Nat) (h:I n s) :
  codeAny (model prog w) A (.compLoop (.ListComp elt [⟨t0,i0,c0,0⟩,⟨t1,i1,c1,0⟩] scope pos) 1 it acc env) R s:=by
 refine codeAny_loop rfl I (fun n s hI=>?_) n h
 show wpAny _ A ((compTurn (.ListComp elt [⟨t0,i0,c0,0⟩,⟨t1,i1,c1,0⟩] scope pos) 1 it acc env).onRaise (fun x=>do noteFrame x env;theTreesLotGoes x)) _ _ s
 refine wpAny_noted ?_;rw[rR];refine Ht (IT (Ht (Il (turn n s hI) (fun r s₁ h₁=>?_) fun _ _ h'=>h'.elim)))
 cases r with
 | none=>exact Hz h₁
 | some v =>
  refine Ht (Il h₁ (fun _ s₁' h₁'=>?_) fun _ _ h'=>h'.elim);refine Ht (Il h₁' (fun _ s₂ h₂=>Ht (Il h₂ (fun ok s₃ h₃=>?_) fun _ _ h'=>h'.elim)) fun _ _ h'=>h'.elim)
  cases ok with
  | false=>exact Hz ⟨rfl,h₃⟩
  | true =>
   exact Ht (Ht (Il h₃ (fun x s₄ h₄=>Ht (Il h₄ (fun _ s₅ h₅=>Hz (Hz ⟨rfl,h₅⟩)) fun _ _ h'=>h'.elim)) fun _ _ h'=>h'.elim))
theorem jv (hs:∀ x,foldedSetIterable i1 env x=pure x)(I:Nat->Shared->Prop)
  (turn:∀ n s,I n s->wpAny (model prog w) A (pyNext it) (fun r s₁=>match r with
   | none=>R (.ok .next) s₁
   | some v=>wpAny (model prog w) A (letOwnedTupleGo t0 it v) (fun _ s₁'=>wpAny (model prog w) A (assign t0 env v) (fun _ s₂ =>
     wpAny (model prog w) A (forIn c0 true fun c r=>if r=true then do let ok <-isTrue c env (eval c env);pure (ForInStep.yield ok) else pure (ForInStep.yield r)) (fun ok s₃ =>
      if ok=true then wpAny (model prog w) A (eval i1 env) (fun x s₄ =>
       wpAny (model prog w) A (pyIter x) (fun it1 s₅=>codeAny (model prog w) A (.compStart (.ListComp elt [⟨t0,i0,c0,0⟩,⟨t1,i1,c1,0⟩] scope pos) 1 it1 acc env) (fun r s₆=>r=.ok .next/\∃ m,m<n/\I m s₆) s₅) (fun _ _=>False) s₄) (fun _ _=>False) s₃
      else ∃ m,m<n/\I m s₃) (fun _ _=>False) s₂) (fun _ _=>False) s₁') (fun _ _=>False) s₁) (fun _ _=>False) s)
  (n:Nat) (h:I n s) :
  codeAny (model prog w) A (.compLoop (.ListComp elt [⟨t0,i0,c0,0⟩,⟨t1,i1,c1,0⟩] scope pos) 0 it acc env) R s:=by
 refine codeAny_loop rfl I (fun n s hI=>?_) n h
 show wpAny _ A ((compTurn (.ListComp elt [⟨t0,i0,c0,0⟩,⟨t1,i1,c1,0⟩] scope pos) 0 it acc env).onRaise (fun x=>do noteFrame x env;theTreesLotGoes x)) _ _ s
 refine wpAny_noted ?_;rw[rQ];refine Ht (IT (Ht (Il (turn n s hI) (fun r s₁ h₁=>?_) fun _ _ h'=>h'.elim)))
 cases r with
 | none=>exact Hz h₁
 | some v =>
  refine Ht (Il h₁ (fun _ s₁' h₁'=>?_) fun _ _ h'=>h'.elim);refine Ht (Il h₁' (fun _ s₂ h₂=>Ht (Il h₂ (fun ok s₃ h₃=>?_) fun _ _ h'=>h'.elim)) fun _ _ h'=>h'.elim)
  cases ok with
  | false=>exact Hz ⟨rfl,h₃⟩
  | true =>
   refine Ht (Il h₃ (fun x s₄ h₄=>?_) fun _ _ h'=>h'.elim);refine Ht (IT (Ht (wpAny_of_eq (hs x) ?_)));refine Ht (Jf (Il h₄ (fun it1 s₅ h₅=>?_) fun _ _ h'=>h'.elim));refine Ht (wpAny_runOwn (Jx h₅ fun r s₆ h₆=>?_));obtain⟨rfl,h₆⟩:=h₆;exact Hz ⟨rfl,h₆⟩
theorem jw
  (h0:codeAny (model prog w) A (.compLoop (.ListComp elt [⟨t0,i0,c0,0⟩,⟨t1,i1,c1,0⟩] scope pos) 1 it acc env) R s)
  (h:wpAny (model prog w) A (pyIter it) (fun it' s'=>codeAny (model prog w) A (.compLoop (.ListComp elt [⟨t0,i0,c0,0⟩,⟨t1,i1,c1,0⟩] scope pos) 1 it' acc env) R s')
   (notedBy (model prog w) A env fun x s'=>R (.error x) s') s) :
  codeAny (model prog w) A (.compStart (.ListComp elt [⟨t0,i0,c0,0⟩,⟨t1,i1,c1,0⟩] scope pos) 1 it acc env) R s:=by
 refine codeAny_of_tree ?_
 show wpAny _ _ ((compStart (.ListComp elt [⟨t0,i0,c0,0⟩,⟨t1,i1,c1,0⟩] scope pos) 1 it acc env).onRaise (fun x=>do noteFrame x env;standAt theWindowsPlace)) _ _ s
 refine wpAny_notedAt ?_;unfold compStart
 show wpAny _ _ (ask >>= _) _ _ s
 refine Ht (wpAny_askSetting (wpAny_ite ?_));split
 ·first
   | exact Ht (Hz (Hz (And.intro rfl h0)))
   | exact Hz (And.intro rfl h0)
 ·first
   | exact Ht (wpAny_rule (Ht (IT (Ht (Il h (fun it' s' h'=>Hz (And.intro rfl h')) fun _ _ x=>x)))))
   | (refine Ht (wpAny_rule ?_);show wpAny _ _ (standAt i1.pos >>= _) _ _ s;exact Ht (IT (Ht (Il h (fun it' s' h'=>Hz (And.intro rfl h')) fun _ _ x=>x))))
end
theorem xG {Y:Cx}{P:List (Addr×Obj)}{σ:St}{H:Hp}{s:Shared}{elt t0 i0 t1 i1:Expr}{c0 c1:List Expr}{sc:Scope}{pos:Pos}{it a:Addr}{fp:List Addr}{tn:Nat->Heap->Prop}{J:It}{g:TG}{tt:TT}{te:TE}{nx:St->Hp->Prop}{rt:VK}{bk ct:St->Hp->Prop}
  (hc:Y.calm=true) (hxe:Y.xe=fun _ _=>False) (I:ax Y P σ H s) (T:vT Y.prog Y.w Y.K t1 J fp it tn) (st:tn 0 s.heap) (f:∀ b∈fp,gU Y P H b) (hL:i8 J g (Aw tt te a) ⟨nx,rt,bk,ct⟩ σ H) (hg:PG Y t1 g) (ht:DE Y c1 tt) (he:PE Y elt te) :
  codeAny (model Y.prog Y.w) Y.A (.compLoop (.ListComp elt [⟨t0,i0,c0,0⟩,⟨t1,i1,c1,0⟩] sc pos) 1 (.ref it) (.ref a) Y.env) (fun r s'=>r=.ok .next/\∃ σ' H',ax Y P σ' H' s'/\nx σ' H') s:=by
 obtain⟨W,⟨m0,w0⟩,turn⟩:=hL;have stat:∀ {H':Hp},(∀ b∈fp,H' b=none)->∀ b∈fp,gU Y P H' b:=fun {H'} hn b hb=>⟨hn b hb,(f b hb).2⟩;refine j6 (fun n s'=>∃ i σ' H',ax Y P σ' H' s'/\tn i s'.heap/\(∀ b∈fp,H' b=none)/\W i n σ' H') ?_ m0 ⟨0,_,_,I,st,fun b hb=>(f b hb).1,w0⟩;rintro n s6 ⟨i,σ6,H6,I6,st6,fr6,w6⟩;rcases turn i n σ6 H6 w6 with ⟨stop,qn⟩ | ⟨go,Nx,hN,step⟩
 ·refine bc (T.done Y rfl rfl rfl hc i P s6 σ6 H6 _ I6 (stat fr6) st6 stop) fun r s7 ⟨hr,I7⟩=>?_
  subst hr;exact⟨rfl,σ6,H6,I7,qn⟩
 ·refine bc (T.item Y rfl rfl rfl hc i P s6 σ6 H6 _ I6 (stat fr6) st6 go) fun r s7 ⟨u,hr,h7⟩=>?_
  subst hr;refine bc h7 fun _ s8 ⟨x,H8,I8,r8,y8,st8,fr8⟩=>?_;have I8':=I8.pinned (stat fr8) (T.obj _ _ st8);have hgx:=hg _ s8 σ6 H8 x u _ I8' r8 (step x H8 y8);rw[hxe]at hgx;refine bc hgx fun _ s9 ⟨σ9,H9,I9,q9⟩=>?_
  have again:∀ {s':Shared}{σ7:St}{H7:Hp},ax Y (P++iJ fp s8.heap) σ7 H7 s'->Nx σ7 H7->∃ m,m<n/\∃ i σ' H',ax Y P σ' H' s'/\tn i s'.heap/\(∀ b∈fp,H' b=none)/\W i m σ' H':=fun {s' σ7 H7} I7 n7=>by
   obtain⟨m',hm,w7⟩:=hN σ7 H7 n7;refine⟨m',hm,i+1,σ7,H7,I7.unpinned,T.keep _ _ _ st8 fun b hb o e=>(I7.pin (b,o) (Ig _ (Ig _ (bQ hb e)))).1,fun b hb=>?_,w7⟩;obtain⟨o,e,d⟩:=T.obj _ _ st8 b hb;exact (I7.pin (b,o) (Ig _ (Ig _ (bQ hb e)))).2.1
  have htx:=ht _ s9 σ9 H9 _ I9 q9;rw[hxe]at htx;refine bc htx fun ok s10 ⟨H10,I10,q10⟩=>?_
  cases ok with
  | false =>
   rw[Hu HN]at q10 ⊢;exact again I10 q10
  | true =>
   rw[Hw rfl]at q10 ⊢;have hex:=he _ s10 σ9 H10 _ I10 q10;rw[hxe]at hex;refine bc hex fun y s11 ⟨yv,H11,I11,ry,ys,hys,hlen,q11⟩=>?_;exact bc (ju (X:=Y) I11 hys hlen ry) fun _ s12 I12=>again I12 q11
def EL (tt0:TT)(wi1:TI)(g1:TG)(tt1:TT)(te:TE)(a:Addr):TS:=fun D σ H=>tt0 σ H fun b H1=>if b=true then wi1 σ H1 fun J1 H2=>i8 J1 g1 (Aw tt1 te a) { nx:=D.nx,rt:=fun _ _=>False } σ H2 else D.nx σ H1
def EC (wi:TI)(g0:TG)(tt0:TT)(wi1:TI)(g1:TG)(tt1:TT)(te:TE)(src:List (Option Nat)):TE:=fun σ H Q=>wi σ H fun J H1=>∀ a,H1 a=none ->
 i8 J g0 (EL tt0 wi1 g1 tt1 te a) { nx:=fun _ H'=>Q (.ref a) H',rt:=fun _ _=>False } (iz src σ) (upd H1 a (.lst []))
theorem BE {X:Cx}{elt tg iter t1 i1:Expr}{ifs c1:List Expr}{sc so:Scope}{pos:Pos}{N':List Str}{src:List (Option Nat)}{wi wi1:TI}{g g1:TG}{tt tt1:TT}{te:TE}{N:List Str}(hso:X.env.scope=so)(hXN:X.N=N)(S:sV so sc N N' src)(hc:X.calm=true)(hi:PI X tg iter wi)
  (hb:∀ (cl:List (Str×Addr))(C:Addr)(s:Shared)(H:Hp)(ex:List Addr),PG (cz X sc cl C N' s H ex) tg g/\DE (cz X sc cl C N' s H ex) ifs tt/\PI (cz X sc cl C N' s H ex) t1 i1 wi1/\PG (cz X sc cl C N' s H ex) t1 g1/\DE (cz X sc cl C N' s H ex) c1 tt1/\PE (cz X sc cl C N' s H ex) elt te)
  (hs:∀ x,foldedSetIterable iter X.env x=pure x:=by intro _;rfl) (hs1:∀ env x,foldedSetIterable i1 env x=pure x:=by intro _ _;rfl):PE X (.ListComp elt [⟨tg,iter,ifs,0⟩,⟨t1,i1,c1,0⟩] sc pos) (EC wi g tt wi1 g1 tt1 te src):=by
 subst hXN;intro pins s σ H Q I h
 obtain⟨cl,hcl,q1,q3⟩:=iw (sc:=sc) (env:=X.env) fun y hy hf=>by
  have:=S.fre y hy hf;rw[<-hso]at this;exact I.ok.has y.1 this
 rw[eval_ListComp];refine wpAny_comprehension_free (use:=none) rfl hs hcl S.kind S.loc (bc (hi pins s σ H _ I h) fun v s1 h1=>bc h1 fun itv s2 h2=>?_);obtain⟨it,fp,tn,J,H2,e,I2,T,st2,f2,hR⟩:=h2;subst e;refine IM ?_
 have I3:ax X pins σ (upd H2 s2.heap.objs.size (.lst [])) { s2 with heap:=s2.heap.push { cls:=.type "list",dict:=none,data:=.seq ([]:List Value).toArray } } :=
  I2.laid (t':=s2.toks) (fun b u q=>Heap.get?_push_of_some _ q) (Hv _) ⟨Ip _,[],0,.nil,Heap.get?_push_size _ rfl⟩
 have hfr:=I2.hok.fresh (Hv s2.heap.objs.size);obtain⟨W,⟨m0,w0⟩,turn⟩:=hR _ hfr
 have flt:∀ b∈fp,b<s2.heap.objs.size:=fun b hb=>by obtain⟨o,e,_⟩:=T.obj _ _ st2 b hb;exact HQ e
 generalize hs3:({ s2 with heap:=s2.heap.push { cls:=.type "list",dict:=none,data:=.seq ([]:List Value).toArray } }:Shared)=s3 at I3 ⊢
 have e3:s3.heap=s2.heap.push { cls:=.type "list",dict:=none,data:=.seq ([]:List Value).toArray }:=by rw[<-hs3]
 have sz3:s3.heap.objs.size=s2.heap.objs.size+1:=by rw[e3,JR]
 have hf3:∀ b∈fp,gU X pins (upd H2 s2.heap.objs.size (.lst [])) b:=fun b hb=>⟨by rw[ae (Ib (flt b hb))];exact (f2 b hb).1,(f2 b hb).2⟩
 have flt3:∀ b∈fp,b<s3.heap.objs.size:=fun b hb=>by rw[sz3];exact Jn (flt b hb)
 have st3:tn 0 s3.heap:=T.keep _ _ _ st2 fun b _ o e=>by rw[e3];exact Heap.get?_push_of_some _ e
 refine JP S.nocell (by intro y hy;simp at hy) (fun h4 hns4 hsb4=>?_) S.kind;have kp4:∀ b o,s3.heap.get? b=some o->h4.get? b=some o:=fun b o e=>hsb4.extBut b o (Ib (HQ e)) (Heap.get?_push_of_some _ e);have I4:=lE (h':=h4) I3 hso S q1 q3 hf3 flt3 (by simpa using hns4) kp4 (s3.toks+([]:List (Str×Value)).length);have st4:tn 0 h4:=T.keep _ _ _ st3 fun b _ o e=>kp4 b o e;generalize hC:s3.heap.objs.size=C at I4 hns4 hsb4 ⊢;obtain⟨hg,ht,hi1,hg1,ht1,he⟩:=hb cl C s3 (upd H2 s2.heap.objs.size (.lst [])) fp
 let Y:Cx:=cz X sc cl C N' s3 (upd H2 s2.heap.objs.size (.lst [])) fp
 have loop:∀ s5:Shared,s5={ s3 with heap:=h4,toks:=s3.toks+([]:List (Str×Value)).length }->codeAny (model X.prog X.w) X.A (.compLoop (.ListComp elt [⟨tg,iter,ifs,0⟩,⟨t1,i1,c1,0⟩] sc pos) 0 (.ref it) (.ref s2.heap.objs.size) (compEnvC sc cl C X.env))
   (compPost (model X.prog X.w) X.A X.xe none (EP X pins σ Q) (.ref s2.heap.objs.size) C) s5:=by
  rintro s5 rfl
  have stat:∀ {H':Hp},(∀ b∈fp,H' b=none)->∀ b∈fp,gU Y [] H' b:=fun {H'} hn b hb=>by
   obtain⟨f0,f1,f2',f3,f4,f5⟩:=hf3 b hb;refine⟨hn b hb,?_,fun z=>?_,.inl hb,fun x c e=>f4 x c (q1 x c e),fun p hp=>absurd (show p∈([]:List (Addr×Obj)) from hp) (by simp)⟩
   ·show b≠C
    rw[<-hC];exact Ib (flt3 b hb)
   ·have z:b∈gY X.stack:=z
    rcases HW.mp (I3.stkSub b z) with y | y
    ·exact f1 y
    ·exact f2' y
  refine jv (fun x=>hs1 _ x) (fun n s'=>∃ i σ' H',ax Y [] σ' H' s'/\tn i s'.heap/\(∀ b∈fp,H' b=none)/\W i n σ' H') ?_ m0 ⟨0,_,_,I4,st4,fun b hb=>(hf3 b hb).1,w0⟩;rintro n s6 ⟨i,σ6,H6,I6,st6,fr6,w6⟩;rcases turn i n σ6 H6 w6 with ⟨stop,qn⟩ | ⟨go,Nx,hN,step⟩
  ·refine bc (T.done Y rfl rfl rfl hc i [] s6 σ6 H6 _ I6 (stat fr6) st6 stop) fun r s7 ⟨hr,I7⟩=>?_
   subst hr;obtain⟨m,hn,_⟩:=id I7.loc;refine⟨m,hn,fun h' hsb=>?_⟩
   have neC:∀ b o,s3.heap.get? b=some o->b≠C:=fun b o e=>by rw[<-hC];exact Ib (HQ e)
   have freeC:H6 C=none:=I7.free
   have un:Un (gY X.stack) fp (upd H2 s2.heap.objs.size (.lst [])) H6 s3.heap h' :=
    ⟨fun b o e n hb hx=>(hsb.2 b (neC b o e)).trans (I7.base.keep b o e n hb hx),fun b o e n hb hx=>by
      obtain⟨sl,q⟩:=I7.base.slot b o e n hb hx
      exact⟨sl,(hsb.2 b (neC b o e)).trans q⟩,I7.base.free,fun b o e hx=>by
      obtain⟨o',q⟩:=I7.base.there b o e hx
      exact⟨o',(hsb.2 b (neC b o e)).trans q⟩,I7.base.tups,I7.base.frzs,I7.base.tbls⟩
   have hok:i7 X.prog X.w H6 h':=fun b ob e=>by
    refine (I7.hok b ob e).stay (fun c w' hc' q=>(hsb.2 c ?_).trans q) (fun _ q=>q) fun _ _ q=>q;rintro rfl;rcases hc' with z | z
    ·rw[<-z,freeC]at e;cases e
    ·rw[freeC]at z;cases z
   have J7:ax X pins σ H6 { s7 with heap:=h' }:=I3.call' (ch:=fp) (s':={ s7 with heap:=h' }) I7.os un hok I7.bare fun b hb=>⟨(hf3 b hb).2.2.2.1,(hf3 b hb).2.1,(hf3 b hb).2.2.2.2.1,(hf3 b hb).2.2.2.2.2⟩;exact⟨.ref s2.heap.objs.size,H6,J7,rfl,qn⟩
  ·refine bc (T.item Y rfl rfl rfl hc i [] s6 σ6 H6 _ I6 (stat fr6) st6 go) fun r s7 ⟨u,hr,h7⟩=>?_
   subst hr;refine bc h7 fun _ s8 ⟨x,H8,I8,r8,y8,st8,fr8⟩=>?_;have I8':=I8.pinned (stat fr8) (T.obj _ _ st8);refine bc (hg _ s8 σ6 H8 x u _ I8' r8 (step x H8 y8)) fun _ s9 ⟨σ9,H9,I9,q9⟩=>?_
   have again:∀ {s':Shared}{σ7:St}{H7:Hp},ax Y ([]++iJ fp s8.heap) σ7 H7 s'->Nx σ7 H7->∃ m,m<n/\∃ i σ' H',ax Y [] σ' H' s'/\tn i s'.heap/\(∀ b∈fp,H' b=none)/\W i m σ' H':=fun {s' σ7 H7} I7 n7=>by
    obtain⟨m',hm,w7⟩:=hN σ7 H7 n7;refine⟨m',hm,i+1,σ7,H7,I7.unpinned,T.keep _ _ _ st8 fun b hb o e=>(I7.pin (b,o) (Ig _ (Ig _ (bQ hb e)))).1,fun b hb=>?_,w7⟩;obtain⟨o,e,d⟩:=T.obj _ _ st8 b hb;exact (I7.pin (b,o) (Ig _ (Ig _ (bQ hb e)))).2.1
   refine bc (ht _ s9 σ9 H9 _ I9 q9) fun ok s10 ⟨H10,I10,q10⟩=>?_
   cases ok with
   | false =>
    rw[Hu HN]at q10 ⊢;exact again I10 q10
   | true =>
    rw[Hw rfl]at q10 ⊢;refine bc (hi1 _ s10 σ9 H10 _ I10 q10) fun x1 s11 h11=>bc h11 fun it1 s12 h12=>?_;obtain⟨ia,fp1,tn1,J1,H12,e1,I12,T1,st12,f12,hR1⟩:=h12;subst e1;have inner:=xG (Y:=Y) (t0:=tg) (i0:=iter) (c0:=ifs) (i1:=i1) (sc:=sc) (pos:=pos) hc rfl I12 T1 st12 f12 hR1 hg1 ht1 he;have inner':=Jx inner (R':=fun r s₆=>r=.ok .next/\∃ m,m<n/\∃ i σ' H',ax Y [] σ' H' s₆/\tn i s₆.heap/\(∀ b∈fp,H' b=none)/\W i m σ' H') fun r s6 ⟨er,σ7,H7,I7,n7⟩=>⟨er,again I7 n7⟩;exact jw inner' (T1.self _ 0 _ _ _ st12 inner')
 exact codeAny_compStart_list (loop _ rfl) (T.self _ 0 _ _ _ st4 (loop _ rfl))
end L2
namespace Qs
open PySem PySem.W PyProof.Rows
structure AH (n:Nat)(lt:Nat->Nat->Bool):Prop where
 irr:∀ i,lt i i=false
 tot:∀ i j,i<n->j<n->i≠j->lt i j=true\/lt j i=true
 tr:∀ i j k,lt i j=true->lt j k=true->lt i k=true
def ask {α:Type}(lt:Nat->Nat->Bool):KasT α->α
 | .ret a=>a
 | .ask i j k=>ask lt (k (lt i j))
def EQ {α:Type}(n:Nat)(lt:Nat->Nat->Bool):KasT α->Prop
 | .ret _=>True
 | .ask i j k=>i<n/\j<n/\EQ n lt (k (lt i j))
theorem vY {α β:Type}{lt:Nat->Nat->Bool}{f:α->KasT β}:∀ t:KasT α,ask lt (t.bind f)=ask lt (f (ask lt t))
 | .ret _=>rfl
 | .ask i j k=>vY (k (lt i j))
theorem w5 {α β:Type}{n:Nat}{lt:Nat->Nat->Bool}{f:α->KasT β}:∀ t:KasT α,EQ n lt t->EQ n lt (f (ask lt t))->EQ n lt (t.bind f)
 | .ret _,_,h=>h
 | .ask i j k,⟨h1,h2,h3⟩,h=>⟨h1,h2,w5 (k (lt i j)) h3 h⟩
def xt {α:Type}(n:Nat)(lt:Nat->Nat->Bool)(t:KasT α)(R:α->Prop):Prop:=EQ n lt t/\R (ask lt t)
theorem jJ {α β:Type}{n:Nat}{lt:Nat->Nat->Bool}{t:KasT α}{f:α->KasT β}{R:β->Prop}(h:xt n lt t fun a=>xt n lt (f a) R):xt n lt (t.bind f) R :=
 ⟨w5 t h.1 h.2.1,by rw[vY];exact h.2.2⟩
theorem fR {α:Type}{n:Nat}{lt:Nat->Nat->Bool}{t:KasT α}{R R':α->Prop}(h:xt n lt t R)(hr:∀ a,R a->R' a):xt n lt t R':=⟨h.1,hr _ h.2⟩
theorem dJ {α:Type}{n:Nat}{lt:Nat->Nat->Bool}{a:α}{R:α->Prop}(h:R a):xt n lt (.ret a) R:=⟨trivial,h⟩
theorem l8 {α:Type}{n:Nat}{lt:Nat->Nat->Bool}{i j:Nat}{k:Bool->KasT α}{R:α->Prop}(hi:i<n)(hj:j<n)(h:∀ b,lt i j=b->xt n lt (k b) R):xt n lt (.ask i j k) R:=by
 have:=h _ rfl;exact⟨⟨hi,hj,this.1⟩,this.2⟩
section
variable {n:Nat}{lt:Nat->Nat->Bool}{p:Array Nat}
def Pm (n:Nat)(p:Array Nat):Prop:=p.Perm (List.toArray (List.range n))
theorem Pm.sz (h:Pm n p):p.size=n:=by have:=h.size_eq;simpa using this
theorem Pm.below (h:Pm n p)(hn:0<n)(i:Nat):p.getD i 0<n:=by
 by_cases hi:i<p.size
 ·have e:p.getD i 0=p[i]:=by simp[Array.getD,hi]
  rw[e]
  have hm:p[i]∈p.toList:=by simp
  have:=(Array.perm_iff_toList_perm.mp h).mem_iff.mp hm;simpa using this
 ·have e:p.getD i 0=0:=by simp[Array.getD,hi]
  rw[e];exact hn
theorem Pm.ne (h:Pm n p){i j:Nat}(hi:i<n)(hj:j<n)(hij:i≠j):p.getD i 0≠p.getD j 0:=by
 have hs:=h.sz;have nd:p.toList.Nodup:=(Array.perm_iff_toList_perm.mp h).nodup_iff.mpr (by simpa using List.nodup_range)
 have e1:p.getD i 0=p.toList[i]'(by simp;omega):=by simp[Array.getD,show i<p.size by omega]
 have e2:p.getD j 0=p.toList[j]'(by simp;omega):=by simp[Array.getD,show j<p.size by omega]
 rw[e1,e2];intro e;exact hij ((List.getElem_inj nd).mp e)
def Up (lt:Nat->Nat->Bool)(p:Array Nat)(k:Nat):Prop:=∀ i j,i<j->j<k->lt (p.getD i 0) (p.getD j 0)=true
def Dn (lt:Nat->Nat->Bool)(p:Array Nat)(k:Nat):Prop:=∀ i j,i<j->j<k->lt (p.getD j 0) (p.getD i 0)=true
theorem uK (L:AH n lt)(P:Pm n p){i j:Nat}(hi:i<n)(hj:j<n)(hij:i≠j)(h:lt (p.getD i 0) (p.getD j 0)=false):lt (p.getD j 0) (p.getD i 0)=true:=by
 rcases L.tot _ _ (P.below (by omega) i) (P.below (by omega) j) (P.ne hi hj hij) with z | z
 ·rw[h]at z;cases z
 ·exact z
theorem Dr (L:AH n lt){a:Nat}(h1:1<=a)(hs:Up lt p a)(h:lt (p.getD (a-1) 0) (p.getD a 0)=true):Up lt p (a+1):=by
 intro i j hij hj
 by_cases hja:j<a
 ·exact hs i j hij hja
 ·have e:j=a:=by omega
  subst e
  by_cases hi:i=j-1
  ·rw[hi];exact h
  ·exact L.tr _ _ _ (hs i (j-1) (by omega) (by omega)) h
theorem yN (L:AH n lt){a:Nat}(h1:1<=a)(hs:Dn lt p a)(h:lt (p.getD a 0) (p.getD (a-1) 0)=true):Dn lt p (a+1):=by
 intro i j hij hj
 by_cases hja:j<a
 ·exact hs i j hij hja
 ·have e:j=a:=by omega
  subst e
  by_cases hi:i=j-1
  ·rw[hi];exact h
  ·exact L.tr _ _ _ h (hs i (j-1) (by omega) (by omega))
theorem vh (L:AH n lt)(P:Pm n p):∀ (f a:Nat),1<=a->a+f<=n->Up lt p a->xt n lt (kas_asc p f a) fun m=>a<=m/\m<=a+f/\Up lt p m/\(m<a+f->lt (p.getD m 0) (p.getD (m-1) 0)=true)
 | 0,a,_,_,hs=>dJ ⟨Hv _,Hv _,hs,fun h=>absurd h (by omega)⟩
 | f+1,a,h1,h2,hs=>by
  refine l8 (P.below (by omega) _) (P.below (by omega) _) fun b hb=>?_
  cases b with
  | true=>exact dJ ⟨Hv _,by omega,hs,fun _=>hb⟩
  | false =>
   have hlt:=uK L P (show a<n by omega) (show a-1<n by omega) (by omega) hb;refine fR (vh L P f (a+1) (by omega) (by omega) (Dr L h1 hs hlt)) fun m ⟨m1,m2,m3,m4⟩=>⟨by omega,by omega,m3,fun h=>m4 (by omega)⟩
theorem xi (L:AH n lt)(P:Pm n p):∀ (f a:Nat),1<=a->a+f<=n->Dn lt p a->xt n lt (kas_desc f p a 0) fun r=>r.1=p/\r.2.2=0/\a<=r.2.1/\r.2.1<=a+f/\Dn lt p r.2.1
 | 0,a,_,_,hs=>dJ ⟨rfl,rfl,Hv _,Hv _,hs⟩
 | f+1,a,h1,h2,hs=>by
  refine l8 (P.below (by omega) _) (P.below (by omega) _) fun b hb=>?_
  cases b with
  | true =>
   rw[Hw rfl,Hu (by omega)];exact fR (xi L P f (a+1) (by omega) (by omega) (yN L h1 hs hb)) fun r ⟨r1,r2,r3,r4,r5⟩=>⟨r1,r2,by omega,by omega,r5⟩
  | false =>
   rw[Hu HN];have hlt:=uK L P (show a<n by omega) (show a-1<n by omega) (by omega) hb;refine l8 (P.below (by omega) _) (P.below (by omega) _) fun d hd=>?_;rw[hlt]at hd;subst hd;rw[Hw rfl];exact dJ ⟨rfl,rfl,Hv _,Nat.le_add_right _ _,hs⟩
theorem zf {a:Nat}(ha:a<=p.size)(k:Nat):(kas_rev p 0 a).getD k 0=if k<a then p.getD (a-1-k) 0 else p.getD k 0:=by
 have h:=getElem?_mirror_all (xs:=p) (i:=0) (j:=a) ha k
 have e:∀ (q:Array Nat)(i:Nat),q.getD i 0=(q[i]?).getD 0:=fun q i=>by
  simp[Array.getD];split<;>simp_all
 show (mirror p 0 a ((a-0)/2)).getD k 0=_
 rw[e,h]
 by_cases hk:k<a
 ·rw[Hw ⟨Ip _,hk⟩,Hw hk,e]
  congr 2
  omega
 ·rw[Hu (by omega),Hu hk,e]
theorem Pm.rev (h:Pm n p)(i j:Nat):Pm n (kas_rev p i j):=(mirror_perm _ _ _ _).trans h
theorem As (L:AH n lt)(P:Pm n p){a:Nat}(h1:1<=a)(h2:a<=n)(hd:Dn lt p a):xt n lt (kas_tail3 a n p) fun r=>Pm n r.2/\Up lt r.2 r.1/\1<=r.1/\r.1<=n:=by
 have P':=P.rev 0 a
 have hs:Up lt (kas_rev p 0 a) a:=fun i j hij hj=>by
  rw[zf (by rw[P.sz];exact h2),zf (by rw[P.sz];exact h2),Hw (by omega),Hw hj];exact hd _ _ (by omega) (by omega)
 refine jJ (fR (vh L P' (n-a) a h1 (by omega) hs) fun m ⟨m1,m2,m3,_⟩=>dJ ⟨P',m3,by omega,by omega⟩)
theorem Aq (L:AH n lt)(P:Pm n p)(hn:2<=n):xt n lt (kas_count n p) fun r=>Pm n r.2/\Up lt r.2 r.1/\1<=r.1/\r.1<=n:=by
 refine jJ (fR (vh L P (n-1) 1 (Hv _) (by omega) fun i j hij hj=>by omega) fun m ⟨m1,m2,m3,m4⟩=>?_)
 by_cases hm:m=n
 ·rw[Hw (by simp[hm])]
  exact dJ ⟨P,m3,m1,by omega⟩
 ·rw[Hu (by simp[hm])]
  by_cases h1:m>1
  ·rw[Hw h1]
   refine l8 (P.below (by omega) _) (P.below (by omega) _) fun b hb=>?_;rw[m3 0 (m-1) (by omega) (by omega)]at hb;subst hb;rw[Hw rfl];exact dJ ⟨P,m3,m1,by omega⟩
  ·rw[Hu h1]
   have e:m=1:=by omega
   subst e;have hlt:=m4 (by omega);have hd:Dn lt p (1+1):=yN L (Hv _) (fun i j hij hj=>by omega) hlt;refine jJ (fR (xi L P (n-(1+1)) (1+1) (by omega) (by omega) hd) fun r ⟨r1,r2,r3,r4,r5⟩=>?_);rw[r2,Hu (by omega),r1];exact As L P (by omega) (by omega) r5
theorem nJ (L:AH n lt)(P:Pm n p){k:Nat}(hk:k<n)(hs:Up lt p k):∀ (f l r:Nat),l<=r->r<=k->r-l<=f->(∀ i,i<l->lt (p.getD i 0) (p.getD k 0)=true)->(∀ i,r<=i->i<k->lt (p.getD k 0) (p.getD i 0)=true) ->
  xt n lt (kas_place p k f l r) fun m=>m<=k/\(∀ i,i<m->lt (p.getD i 0) (p.getD k 0)=true)/\∀ i,m<=i->i<k->lt (p.getD k 0) (p.getD i 0)=true
 | 0,l,r,h1,h2,h3,hl,hr=>dJ ⟨by omega,hl,fun i hi hk=>hr i (by omega) hk⟩
 | f+1,l,r,h1,h2,h3,hl,hr=>by
  show xt n lt (if l>=r then .ret l else _) _
  by_cases h:l>=r
  ·rw[Hw h]
   exact dJ ⟨by omega,hl,fun i hi hk=>hr i (by omega) hk⟩
  ·rw[Hu h]
   refine l8 (P.below (by omega) _) (P.below (by omega) _) fun b hb=>?_
   cases b with
   | true =>
    rw[Hw rfl];refine nJ L P hk hs f l ((l+r)/2) (by omega) (by omega) (by omega) hl fun i hi hik=>?_
    by_cases he:i=(l+r)/2
    ·rw[he];exact hb
    ·exact L.tr _ _ _ hb (hs _ _ (by omega) hik)
   | false =>
    rw[Hu HN];have hlt:=uK L P hk (show (l+r)/2<n by omega) (by omega) hb;refine nJ L P hk hs f ((l+r)/2+1) r (by omega) h2 (by omega) (fun i hi=>?_) hr
    by_cases he:i=(l+r)/2
    ·rw[he];exact hlt
    ·exact L.tr _ _ _ (hs _ _ (by omega) (by omega)) hlt
theorem CA {k l:Nat}(hk:k<p.size)(hl:l<=k)(i:Nat):(bubble p k (k-l)).getD i 0=if i=l then p.getD k 0 else if l<i/\i<=k then p.getD (i-1) 0 else p.getD i 0:=by
 have h:=getElem?_bubble (xs:=p) hk (k-l) (by omega) i
 have e:∀ (q:Array Nat)(i:Nat),q.getD i 0=(q[i]?).getD 0:=fun q i=>by
  simp[Array.getD];split<;>simp_all
 rw[e,h,show k-(k-l)=l by omega]
 by_cases h1:i=l
 ·rw[Hw h1,Hw h1,e]
 ·rw[Hu h1,Hu h1]
  by_cases h2:l<i/\i<=k
  ·rw[Hw h2,Hw h2,e]
  ·rw[Hu h2,Hu h2,e]
theorem zg (L:AH n lt):∀ (f:Nat)(p:Array Nat)(k:Nat),Pm n p->k+f=n->Up lt p k->xt n lt (kas_bin f p k) fun q=>Pm n q/\Up lt q n
 | 0,p,k,P,h,hs=>dJ ⟨P,by rw[show n=k by omega];exact hs⟩
 | f+1,p,k,P,h,hs=>by
  have hk:k<n:=by omega
  refine jJ (fR (nJ L P hk hs k 0 k (Ip _) (Hv _) (by omega) (fun i hi=>by omega) (fun i hi hik=>by omega)) fun l ⟨l1,l2,l3⟩=>?_);have g:=fun i=>CA (p:=p) (k:=k) (l:=l) (by rw[P.sz];exact hk) l1 i;refine zg L f _ (k+1) ((bubble_perm _ _ _).trans P) (by omega) fun i j hij hj=>?_;rw[g,g]
  by_cases hi1:i=l
  ·rw[Hw hi1,Hu (by omega),Hw ⟨by omega,by omega⟩]
   exact l3 _ (by omega) (by omega)
  ·rw[Hu hi1]
   by_cases hi2:l<i/\i<=k
   ·rw[Hw hi2,Hu (by omega),Hw ⟨by omega,by omega⟩]
    exact hs _ _ (by omega) (by omega)
   ·rw[Hu hi2]
    by_cases hj1:j=l
    ·rw[Hw hj1]
     exact l2 _ (by omega)
    ·rw[Hu hj1]
     by_cases hj2:l<j/\j<=k
     ·rw[Hw hj2]
      exact hs _ _ (by omega) (by omega)
     ·rw[Hu hj2]
      exact hs _ _ hij (by omega)
theorem B0 (L:AH n lt)(hn:2<=n):xt n lt (kas_sort n) fun q=>Pm n q/\Up lt q n:=by
 refine jJ (fR (Aq L (p:=List.toArray (List.range n)) (Array.Perm.refl _) hn) fun r ⟨r1,r2,r3,r4⟩=>?_)
 by_cases h:r.1<n
 ·rw[Hw h]
  exact zg L _ _ _ r1 (by omega) (by rw[Nat.max_eq_left r3];exact r2)
 ·rw[Hu h]
  exact dJ ⟨r1,by rw[show n=r.1 by omega];exact r2⟩
end
theorem A9 {α:Type}{n:Nat}{lt:Nat->Nat->Bool}{cmp:Nat->Nat->(Bool->Shared->Prop)->Shared->Prop}{Q:α->Shared->Prop}{I:Shared->Prop}
  (hc:∀ i j,i<n->j<n->∀ (C:Bool->Shared->Prop) s,I s->(∀ s',I s'->C (lt i j) s')->cmp i j C s):∀ (t:KasT α)(s:Shared),EQ n lt t->I s->(∀ s',I s'->Q (ask lt t) s')->t.kasWp cmp Q s
 | .ret a,s,_,hI,hq=>hq s hI
 | .ask i j k,s,⟨h1,h2,h3⟩,hI,hq=>hc i j h1 h2 _ s hI fun s' hs'=>A9 hc (k (lt i j)) s' h3 hs' hq
def ltP (p q:Int×Int):Bool:=decide (p.1<q.1\/(p.1=q.1/\p.2<q.2))
theorem ltP_irr (p:Int×Int):ltP p p=false:=by unfold ltP;simp
theorem ltP_tr {p q r:Int×Int}(h1:ltP p q=true)(h2:ltP q r=true):ltP p r=true:=by
 unfold ltP at *;have h1:=IZ h1;have h2:=IZ h2;exact HY (by omega)
theorem C4 {p q:Int×Int}(h:p≠q):ltP p q=true\/ltP q p=true:=by
 unfold ltP
 by_cases h1:p.1<q.1
 ·exact .inl (HY (.inl h1))
 ·by_cases h2:q.1<p.1
  ·exact .inr (HY (.inl h2))
  ·have e:p.1=q.1:=by omega
   have n:p.2≠q.2:=fun z=>h (Prod.ext e z)
   by_cases h3:p.2<q.2
   ·exact .inl (HY (.inr ⟨e,h3⟩))
   ·exact .inr (HY (.inr ⟨e.symm,by omega⟩))
def Ee (ps:List (Int×Int))(i j:Nat):Bool:=ltP (ps.getD i (0,0)) (ps.getD j (0,0))
theorem Ed {ps:List (Int×Int)}(nd:ps.Nodup):AH ps.length (Ee ps) where
 irr:=fun i=>ltP_irr _
 tot:=fun i j hi hj hij=>C4 fun e=>hij (by
  have e1:ps.getD i (0,0)=ps[i]:=by simp[hi]
  have e2:ps.getD j (0,0)=ps[j]:=by simp[hj]
  rw[e1,e2]at e
  exact (List.getElem_inj nd).mp e)
 tr:=fun i j k=>ltP_tr
def PairAt (h:Heap)(v:Value)(p:Int×Int):Prop:=∃ (b:Addr)(o:Obj)(n:Nat)(t u:Tok),v=.ref b/\h.get? b=some o/\o.cls=.type "tuple"/\o.data=.seq #[.int p.1 t,.int p.2 u] n
section
variable {prog:Program}{w:World}{A:Around}{E:Value->Shared->Prop}{s:Shared}
theorem C5 {x y:Value}{p q:Int×Int}{Q:Bool->Shared->Prop}(hx:PairAt s.heap x p)(hy:PairAt s.heap y q)(h:Q (ltP p q) s):wpAny (model prog w) A (keyLt' (tuples' true) x y) Q E s:=by
 obtain⟨b,o,n,t,u,rfl,ho,hc,hd⟩:=hx;obtain⟨b',o',n',t',u',rfl,ho',hc',hd'⟩:=hy;refine kat_lt ho hd ho' hd' ?_
 show KatLex prog w A true (decide (2<2)) Q [(.int p.1 t,.int q.1 t'),(.int p.2 u,.int q.2 u')] 0 s
 refine kat_cons (wpAny_eqBool_int ?_)
 by_cases h1:p.1=q.1
 ·rw[show (p.1 == q.1)=true by simpa using h1]
  refine kat_yes (kat_cons (wpAny_eqBool_int ?_))
  by_cases h2:p.2=q.2
  ·rw[show (p.2 == q.2)=true by simpa using h2]
   refine kat_yes (kat_nil ?_)
   have e:ltP p q=decide (2<2):=by rw[show p=q from Prod.ext h1 h2,ltP_irr];rfl
   rw[<-e];exact h
  ·rw[show (p.2 == q.2)=false by simpa using h2]
   refine kat_no ?_
   show wpAny (model prog w) A (oneLt' false (.int p.2 u) (.int q.2 u')) Q _ s
   refine kat_one _ _ (wpAny_lt_int ?_)
   show Q (decide (p.2<q.2)) s
   have e:ltP p q=decide (p.2<q.2):=by unfold ltP;simp[h1]
   rw[<-e];exact h
 ·rw[show (p.1 == q.1)=false by simpa using h1]
  refine kat_no ?_
  show wpAny (model prog w) A (oneLt' true (.int p.1 t) (.int q.1 t')) Q _ s
  refine oneLt_int ?_
  have e:ltP p q=decide (p.1<q.1):=by unfold ltP;simp[h1]
  rw[<-e];exact h
theorem zt {h:Heap}:∀ {vs:List Value}{ps:List (Int×Int)},Paired (PairAt h) vs ps->∃ fs:List Value,KatTups h vs fs/\fs.length=vs.length/\∀ v∈fs,∃ i t,v=Value.int i t
 | [],[],.nil=>⟨[],KatTups.nil,rfl,fun v h=>by cases h⟩
 | v::vs,p::ps,.cons hv r=>by
  obtain⟨fs,k,hl,hi⟩:=zt r;obtain⟨b,o,n,t,u,rfl,ho,hc,hd⟩:=hv;refine⟨.int p.1 t::fs,KatTups.cons ho hc hd rfl k,by simp[hl],fun v hv=>?_⟩;rcases HW.mp hv with z | z
  ·exact⟨_,_,z⟩
  ·exact hi v z
theorem xW {vs:List Value}{ps:List (Int×Int)}{Q:SortKind->Shared->Prop}(hp:Paired (PairAt s.heap) vs ps)(h2:0<vs.length)(h:Q (tuples' true) s):wpAny (model prog w) A (keyKind' vs.toArray) Q E s:=by
 obtain⟨fs,k,hl,hi⟩:=zt hp;refine kat_kind (T:=.type "int") k (by omega) (fun v hv=>?_) (by decide) h;obtain⟨i,t,rfl⟩:=hi v hv;exact .now
theorem jE {α β:Type}{F:α->β->Prop}{d:α}{e:β}:∀ {l:List α}{m:List β},Paired F l m->∀ i,i<l.length->F (l.getD i d) (m.getD i e)
 | _::_,_::_,.cons h _,0,_=>h
 | _::l,_::m,.cons _ r,i+1,hi=>jE r i (by simpa using hi)
def xx (vs:List Value)(ps:List (Int×Int))(out:List Value):Prop:=∃ ix:List Nat,ix.Perm (List.range vs.length)/\out=ix.map (fun i=>vs.getD i Value.none)/\(ix.map fun i=>ps.getD i (0,0)).Pairwise (fun a b=>ltP a b=true)
theorem Ar {vs:List Value}{ps:List (Int×Int)}{Q:SortSt->Shared->Prop}(hp:Paired (PairAt s.heap) vs ps)(nd:ps.Nodup)(h2:2<=vs.length)(h64:vs.length<64)
  (h:∀ st':SortSt,failedOf st'=none->(∃ out:List Value,(arrOf st').map (·.2)=out.toArray/\xx vs ps out)->Q st' s) :
  wpAny (model prog w) A ((sortRuns').run (SortSt.mk' (tuples' true) (vs.toArray.zip vs.toArray) #[] 7 none)) (fun r s'=>Q r.2 s') E s:=by
 have hl:vs.length=ps.length:=Ic hp;have L:=Ed nd;rw[<-hl]at L;obtain⟨ok,P,hs⟩:=B0 L h2;refine kat_run (G:=fun p s'=>p=ask (Ee ps) (kas_sort vs.length)/\s'=s) rfl h2 h64 (fun p st' s' hsz har hf hg=>?_) ?_
 ·obtain⟨e1,e2⟩:=hg
  subst e2;rw[<-e1]at P hs;refine h st' hf ⟨_,kat_snds rfl har,p.toList,?_,rfl,?_⟩
  ·have:=Array.perm_iff_toList_perm.mp P
   simpa using this
  ·rw[JO,JQ]
   intro i j hi hj hij
   have hj':j<p.size:=by simpa using hj
   have hi':i<p.size:=by simpa using hi
   have:=hs i j hij (by rw[<-hsz];exact hj')
   have e3:p.getD i 0=p.toList[i]:=by simp[Array.getD,hi']
   have e4:p.getD j 0=p.toList[j]:=by simp[Array.getD,hj']
   rw[e3,e4]at this;exact this
 ·refine A9 (I:=fun s'=>s'=s) (lt:=Ee ps) (n:=vs.length) (fun i j hi hj C s' hs' hC=>?_) _ s ok rfl fun s' hs'=>⟨rfl,hs'⟩
  subst hs'
  show wpAny (model prog w) A (keyLt' (tuples' true) (vs.getD i Value.none) (vs.getD j Value.none)) C _ s'
  exact C5 (jE hp i hi) (jE hp j hj) (hC _ rfl)
end
section
variable {prog:Program}{w:World}{A:Around}{E:Value->Shared->Prop}{s:Shared}
theorem sort_pairs {a:Addr}{vs:List Value}{ps:List (Int×Int)}{n:Nat}{P:Fin->Shared->Prop}(ho:s.heap.get? a=some (seqObj "list" vs.toArray n))(hp:Paired (PairAt s.heap) vs ps)(nd:ps.Nodup)(h64:vs.length<64)
  (h:∀ out:List Value,xx vs ps out->P (.done (.ret .none)) { s with heap:=sortedHeap s.heap a vs out.toArray }):wpAny (model prog w) A (Builtin.«list.sort» ⟨[.ref a],[]⟩) P E s:=by
 have ha:a<s.heap.objs.size:=HQ ho;have hl:vs.length=ps.length:=Ic hp;obtain⟨e1,ho1⟩:∃ e1,(s.heap.update a (Obj.mapSeq fun _=>#[])).get? a=some (seqObj "list" #[] e1):=⟨_,get?_update_seq ho (fun _=>#[])⟩
 have ho6:(((s.heap.update a (Obj.mapSeq fun _=>#[])).push (seqObj "tuple" vs.toArray 0)).push (seqObj "list" #[] 0)).get? a=some (seqObj "list" #[] e1):=by
  rw[Heap.get?_push_ne _ _ _ (by rw[size_push',Heap.size_update];exact Ib (Jn ha)),Heap.get?_push_ne _ _ _ (by rw[Heap.size_update];exact Ib ha)];exact ho1
 have sz:vs.toArray.size<=sizeLine:=by rw[HU,Jt];omega
 rw[list_sort_plain];refine Ht (listItems_at ho rfl (Ht (listUpdate_at ho rfl ?_ sz (Ip _))));refine Ht (seqEpoch_at ho1 rfl (Ht (wpAny_newTuple ?_ (by show vs.length<=_;rw[Jt];omega))));refine Ht (wpAny_newList (Jf ?_) (Ip _))
 show wpAny (model prog w) A _ P E { s with heap:=((s.heap.update a (Obj.mapSeq fun _=>#[])).push (seqObj "tuple" vs.toArray 0)).push (seqObj "list" #[] 0) }
 dsimp only
 by_cases h2:vs.toArray.size<2
 ·rw[Hw h2,Hw h2]
  refine Ht (Hz ?_);rw[StateT.run_pure];refine Ht (Hz ?_);dsimp only
  have e:((vs.toArray.zip vs.toArray).map (·.2))=vs.toArray:=by
   apply Array.ext';simp[List.map_snd_zip]
  refine Ht (seqEpoch_at ho6 rfl (Ht (listUpdate_at ho6 rfl ?_ (Ip _) ?_)))
  ·simp only[bne_self_eq_false,Bool.false_eq_true,if_false]
   refine Hz ?_
   show P _ { s with heap:=(((s.heap.update a _).push _).push _).update a (Obj.mapSeq fun _=>(vs.toArray.zip vs.toArray).map (·.2)) }
   rw[e];refine h vs ⟨List.range vs.length,List.Perm.refl _,?_,?_⟩
   ·apply List.ext_getElem?
    intro i;rw[List.getElem?_map]
    by_cases hi:i<vs.length
    ·rw[List.getElem?_range hi];simp[hi]
    ·rw[List.getElem?_eq_none (by omega),List.getElem?_eq_none (by simp;omega)];rfl
   ·have hv:vs.length<2:=by simpa using h2
    rw[JO,JQ];intro i j hi hj hij;rw[Jo]at hi hj;omega
  ·show ((vs.toArray.zip vs.toArray).map (·.2)).size<=_
   rw[e];omega
 ·rw[Hu h2,Hu h2]
  have h2':2<=vs.length:=by rw[HU]at h2;omega
  have hp':Paired (PairAt (((s.heap.update a (Obj.mapSeq fun _=>#[])).push (seqObj "tuple" vs.toArray 0)).push (seqObj "list" #[] 0))) vs ps:=L2.Paired.mapP hp fun v q ⟨b,o,m,t,u,ev,hb,hc,hd⟩=>by
   refine⟨b,o,m,t,u,ev,?_,hc,hd⟩
   have nb:b≠a:=fun z=>by
    rw[z,ho]at hb;cases hb;exact absurd hc (by show ¬ (Value.type "list" = .type "tuple");decide)
   have hlt:=HQ hb;rw[Heap.get?_push_ne _ _ _ (by rw[size_push',Heap.size_update];exact Ib (Jn hlt)),Heap.get?_push_ne _ _ _ (by rw[Heap.size_update];exact Ib hlt),Heap.get?_update_ne _ _ _ _ nb];exact hb
  refine Ht (xW (s:={ s with heap:=((s.heap.update a (Obj.mapSeq fun _=>#[])).push (seqObj "tuple" vs.toArray 0)).push (seqObj "list" #[] 0) }) hp' (by omega) ?_);refine Ht (Ar (Q:=fun st' s'=>failedOf st'=none/\(∃ out:List Value,(arrOf st').map (·.2)=out.toArray/\xx vs ps out)/\s'={ s with heap:=((s.heap.update a (Obj.mapSeq fun _=>#[])).push (seqObj "tuple" vs.toArray 0)).push (seqObj "list" #[] 0) }) hp' nd h2' h64 (fun st' hf ho=>⟨hf,ho,rfl⟩) |> fun q=>Il q (fun r s' hr=>?_) fun _ _ x=>x);obtain⟨⟨⟩,st'⟩:=r;obtain⟨hf,⟨out,hout,so⟩,rfl⟩:=hr;dsimp only at hf hout ⊢
  have hol:out.length=vs.length:=by
   obtain⟨ix,hx,rfl,_⟩:=so;rw[Hs,hx.length_eq,Jo]
  rw[hout];refine Ht (seqEpoch_at ho6 rfl (Ht (listUpdate_at ho6 rfl ?_ (Ip _) (by show out.toArray.size<=_;rw[HU,hol,Jt];omega))));rw[hf];simp only[bne_self_eq_false,Bool.false_eq_true,if_false];exact Hz (h out so)
end
def RawAt (h:Heap)(d:Addr)(es:Array DictEntry)(ep:Nat):Prop:=∃ o,h.get? d=some o/\o.ExactDict/\o.data=.dict es ep
section
variable {prog:Program}{w:World}{A:Around}{E:Value->Shared->Prop}{s:Shared}{d it:Addr}{es:Array DictEntry}{ep i:Nat}
theorem RawAt.typeIs (h:RawAt s.heap d es ep):s.TypeIs (.ref d) "dict":=let ⟨o,ho,hc,_⟩:=h;⟨o,ho,hc.1⟩
theorem RawAt.lt {h:Heap}(x:RawAt h d es ep):d<h.objs.size:=let ⟨_,ho,_⟩:=x;HQ ho
theorem RawAt.at {h h':Heap}(x:RawAt h d es ep)(e:∀ o,h.get? d=some o->h'.get? d=some o):RawAt h' d es ep:=let ⟨o,ho,r⟩:=x;⟨o,e _ ho,r⟩
theorem BV {Q:Value->Shared->Prop}(lo:(d == sysModules)=false)(hm:RawAt s.heap d es ep)
  (hQ:Q (.ref s.heap.objs.size) { s with heap:=s.heap.push { cls:=.type "dict_keyiterator",data:=.fields #[.ref d,.int 0 0,.int es.size 0,.int ep 0] } }):wpAny (model prog w) A (pyIter (.ref d)) Q E s:=by
 have hT:=hm.typeIs;obtain⟨o,ho,hc,hdat⟩:=hm;refine wpAny_pyIter_slot hT F.slot_dict_iter (JU F.slot_dict_iter hT F.entry_dict_iter ?go (F.args_dict_iter_1 _))
 case go =>
  unfold Builtin.«dict.__iter__»;refine Ht ?_;unfold Builtin.Dict.dictSlotNone;refine Ht (wpAny_notOrdered_dict hT (?_:wpAny (model prog w) A.in1 (pure (Value.ref d)) _ _ s));refine Hz ?_
  show wpAny _ _ (Builtin.Dict.showsAll d >>= _) _ _ s;unfold Builtin.Dict.showsAll;rw[Hu (by rw[lo];simp)]
  refine Ht (Hz (Ht (wpAny_dictEntries ho hdat (Ht (wpAny_dictEpoch ho hdat ?_)))));refine Ht (IM (Hz ⟨_,rfl,"dict_keyiterator",_,⟨_,Heap.get?_push_size _ rfl,rfl⟩,Jj.lookup,?_⟩));simpa [rawInt] using hQ
theorem BU {Q:Option Value->Shared->Prop}{e:DictEntry}(hit:s.heap.IsKeyIter it d i es.size ep)(hm:RawAt s.heap d es ep)(hx:es[i]? = some e)
  (hQ:∀ h',h'.IsKeyIter it d (i+1) es.size ep->Heap.SameBut it s.heap h'->Q (some e.key) { s with heap:=h' }):wpAny (model prog w) A (pyNext (.ref it)) Q E s:=by
 obtain⟨o,ho,hc,hd⟩:=id hit;obtain⟨od,hod,hcd,hdd⟩:=id hm
 have hlt:i<es.size:=by
  by_cases h:i<es.size
  ·exact h
  ·rw[Array.getElem?_eq_none (by omega)]at hx;cases hx
 have he:es[i]=e:=by rw[Array.getElem?_eq_getElem hlt]at hx;exact Hy hx
 unfold pyNext;refine Ht (wpAny_attempt (wpAny_callSpecial?_slot (name:=Str.ofString "__next__") hit.typeIs Jj (JU Jj hit.typeIs F.entry_dict_keyiterator_next ?go (F.args_dict_keyiterator_next_1 _))))
 case go =>
  refine Ht (Hz (Ht (Ht ?_)))
  first | refine Ht (Jc hit.typeIs (Hz (Ht (wpAny_fieldsOf ho hd ?_)))) | refine Ht (Jz hit.typeIs (Hz (Ht (wpAny_fieldsOf ho hd ?_))))
  simp only[show Builtin.Dict_items.ownsTuple "dict_keyiterator" = false by decide,Bool.false_eq_true,if_false]
  show wpAny _ _ (if (Value.ref d == Value.none)=true then _ else _) _ _ s;rw[Hu (show ¬ ((Value.ref d == Value.none)=true) from HN)]
  refine Ht (Hz (Ht (wpAny_dictEntries hod hdd ?_)));rw[Hu (by simp)];refine Ht (Hz (Ht (wpAny_dictEpoch hod hdd ?_)));rw[Hu (by simp)];refine Hz ?_;simp only[show ¬ ((i:Int)<0) from by omega,if_false,JM,Array.getElem?_eq_getElem hlt];refine Ht ?_
  first | refine Ht (Jc hit.typeIs (Hz (Ht (wpAny_isOneOf_keyiter hit.typeIs ?_)))) | refine Ht (Jz hit.typeIs (Hz (Ht (wpAny_isOneOf_keyiter hit.typeIs ?_)))) | (first | refine Ht (Jc hit.typeIs (Hz ?_)) | refine Ht (Jz hit.typeIs (Hz ?_));refine Ht (wpAny_isOneOf_keyiter hit.typeIs ?_))
  show wpAny _ _ (setField (.ref it) 1 (rawInt ((i:Int)+1)) >>= _) _ _ s;refine Ht (J9 ho hd (by simp) ?_)
  have hit':(s.heap.update it (Obj.mapFields (·.setIfInBounds 1 (rawInt ((i:Int)+1))))).IsKeyIter it d (i+1) es.size ep:=⟨_,Heap.get?_update_self _ ho (Obj.isFreed_of_fields (J3 hd _)),(Obj.cls_mapFields ..).trans hc,by rw[J3 hd];simp[rawInt]⟩;refine Ht (Jf (Ht (wpAny_isOneOf_keyiter (s:={ s with heap:=s.heap.update it (Obj.mapFields (·.setIfInBounds 1 (rawInt ((i:Int)+1)))) }) hit'.typeIs ?_)))
  show wpAny _ _ (pure es[i].key) _ _ _;rw[he];exact Hz (Hz ⟨_,rfl,Hz (hQ _ hit' (Heap.SameBut.update ..))⟩)
theorem Dk {Q:Option Value->Shared->Prop}(hh:A.handled=none)(hit:s.heap.IsKeyIter it d i es.size ep)(hm:RawAt s.heap d es ep)(hx:es.size<=i)
  (hQ:∀ h',Heap.ExtBut it s.heap h'->Q none { s with heap:=h' }):wpAny (model prog w) A (pyNext (.ref it)) Q E s:=by
 obtain⟨o,ho,hc,hd⟩:=id hit;obtain⟨od,hod,hcd,hdd⟩:=id hm;unfold pyNext;refine Ht (wpAny_attempt (wpAny_callSpecial?_slot (name:=Str.ofString "__next__") hit.typeIs Jj (JU Jj hit.typeIs F.entry_dict_keyiterator_next ?go (F.args_dict_keyiterator_next_1 _))))
 case go =>
  refine Ht (Hz (Ht (Ht ?_)))
  first | refine Ht (Jc hit.typeIs (Hz (Ht (wpAny_fieldsOf ho hd ?_)))) | refine Ht (Jz hit.typeIs (Hz (Ht (wpAny_fieldsOf ho hd ?_))))
  simp only[show Builtin.Dict_items.ownsTuple "dict_keyiterator" = false by decide,Bool.false_eq_true,if_false]
  show wpAny _ _ (if (Value.ref d == Value.none)=true then _ else _) _ _ s;rw[Hu (show ¬ ((Value.ref d == Value.none)=true) from HN)]
  refine Ht (Hz (Ht (wpAny_dictEntries hod hdd ?_)));rw[Hu (by simp)];refine Ht (Hz (Ht (wpAny_dictEpoch hod hdd ?_)));rw[Hu (by simp)];refine Hz ?_;simp only[show ¬ ((i:Int)<0) from by omega,if_false,JM,Array.getElem?_eq_none hx];refine Ht ?_
  first | refine Ht (Jc hit.typeIs (Hz ?_)) | refine Ht (Jz hit.typeIs (Hz ?_))
  show wpAny _ _ (setField (.ref it) 0 .none >>= _) _ _ s;refine Ht (J9 ho hd (by simp) ?_)
  show wpAny _ _ (newExc (.type "StopIteration") [] >>= _) _ _ _;refine Ht ?_;simp only[newExc,newTuple]
  refine Ht (IM ?_ (by size_fits));refine Ht (m:=firstArgMember _ _) (wpAny_of_eq (a:=Value.none) (by first | rfl | (simp only[firstArgMember];rfl)) ?_);refine IM ?_ (by size_fits);simp only[raiseNew];refine Ht (wpAny_handled ?_);rw[show A.in1.handled=none from hh];refine Ht (Hz (wpAny_throw ?_));refine Ht (wpAny_isInstance (T:="StopIteration") (b:=true) ⟨_,Heap.get?_push_size _ rfl,rfl⟩ isSubtype_stop ?_);exact Hz (hQ _ (((Heap.SameBut.update ..).extBut.push _).push _))
end
theorem Ap {prog:Program}{w:World}{A:Around}(hh:A.handled=none)(I d:Addr)(hne:d≠I)(es:Array DictEntry)(ep:Nat) :
  Walks prog w A I [I,d] [I] es.size (fun i v=>∃ e,es[i]? = some e/\v=e.key) (fun i h=>h.IsKeyIter I d i es.size ep/\RawAt h d es ep) where
 sub:=fun b hb=>by simp at hb;simp[hb]
 frame:=fun _ _ _ st hk=>⟨st.1.at fun o e=>hk I (by simp) o e,st.2.at fun o e=>hk d (by simp) o e⟩
 item:=fun i s Q E hi st hQ=>BU st.1 st.2 (Array.getElem?_eq_getElem hi) fun h' hit' hs'=>hQ _ h' s.toks ⟨_,Array.getElem?_eq_getElem hi,rfl⟩ ⟨hit',st.2.at fun o e=>hs'.extBut d o hne e⟩ fun b o hb e=>hs'.extBut b o (fun h=>hb (by simp[h])) e
 done:=fun s Q E st hQ=>Dk hh st.1 st.2 (Hv _) fun h' he'=>hQ h' s.toks fun b o hb e=>he' b o (fun h=>hb (by simp[h])) e
 self:=fun _ _ _ _ st hQ=>wpAny_pyIter_keyiter st.1 hQ
theorem raw_src {prog:Program}{w:World}{d:Addr}{es:Array DictEntry}{ep:Nat}(lo:(d == sysModules)=false):KdlSrc prog w "dict" d d es.size (fun i v=>∃ e,es[i]? = some e/\v=e.key) (fun h=>RawAt h d es ep) where
 type:=fun _ hm=>hm.typeIs
 there:=fun _ hm=>⟨hm.lt,hm.lt⟩
 keep:=fun _ _ hm hk=>hm.at fun o e=>hk d (.inl rfl) o e
 notList:=by decide
 notTuple:=by decide
 hint:=fun _ _ _ _ hm hq=>kdl_hint_dict hm.typeIs hq
 iter:=fun _ _ hh hm=>⟨_,_,(fun _ _ hq=>BV lo hm hq),Ap hh _ d (Ib hm.lt) es ep,⟨⟨_,Heap.get?_push_size _ rfl,rfl,rfl⟩,hm.at fun o e=>Heap.get?_push_of_some _ e⟩⟩
end Qs
namespace Wz
open PySem PySem.Spec PyProof.Rows L2
theorem jF {α β γ:Type}{F:β->γ->Prop}{f:α->β}{g:α->γ}:∀ (l:List α),(∀ x∈l,F (f x) (g x))->Paired F (l.map f) (l.map g)
 | [],_=>.nil
 | x::l,h=>.cons (h x HV) (jF l fun y hy=>h y (HL _ hy))
theorem kG {α:Type}(d:α)(l:List α):(List.range l.length).map (fun i=>l.getD i d)=l:=by
 apply List.ext_getElem?
 intro i;rw[List.getElem?_map]
 by_cases hi:i<l.length
 ·rw[List.getElem?_range hi];simp[hi]
 ·rw[List.getElem?_eq_none (by simp;omega),List.getElem?_eq_none (by omega)];rfl
theorem uw {X:Cx}(hc:X.calm=true):eX X (.builtin "sorted") (fun xs H Q=>∃ (p:Addr)(ml:List (Int×Int)),xs=[.ref p]/\H p=some (.dT (jU ml))/\ml.Nodup/\ml.length<64 /\
  ∀ (l:Addr)(qs:List (Int×Int))(H':Hp),H l=none->aB H H'->bJ H' l qs->qs.Perm ml->qs.Pairwise (fun a b=>Qs.ltP a b=true)->Q (.ref l) H'):=by
 intro pins s σ H xs us Q I r h;obtain⟨p,ml,rfl,hH,nd,h64,q⟩:=h;obtain⟨u,rfl,rx⟩:=jP r;cases rx;obtain⟨hz,lo,ks,rel,o,es,ep,ho,hex,hd,hes,hnd⟩:=(show bb X.prog X.w H s.heap p (.dT (jU ml)) from I.hok p _ hH);have raw:Qs.RawAt s.heap p es ep:=⟨o,ho,hex,hd⟩
 have l1:ks.length=ml.length:=by
  have:=Ic rel;unfold jU at this;rw[Hs]at this;exact this.symm
 have l2:es.size=ml.length:=by
  have:=JJ List.length hes;rw[Hs,Jp]at this;omega
 have tup:∀ i,i<ml.length->H ((ks.map fun x=>x.2.1).getD i 0)=some (.tup [.int (ml.getD i (0,0)).1,.int (ml.getD i (0,0)).2]):=fun i hi=>by
  have hk:ks[i]? = some (ks[i]'(by omega)):=by simp[show i<ks.length by omega]
  have hm:(jU ml)[i]? = some ([Sum.inl (ml[i]).1,Sum.inl (ml[i]).2],V.bl true):=by unfold jU;rw[List.getElem?_map];simp[hi]
  obtain⟨b,hb,e1,e2,e3⟩:=bg rel hm;rw[hk]at hb;cases hb
  have e4:(ks.map fun x=>x.2.1).getD i 0=(ks[i]'(by omega)).2.1:=by simp[show i<ks.length by omega]
  have e5:ml.getD i (0,0)=ml[i]:=by simp[hi]
  rw[e4,e5,e2];rfl
 refine PySem.Calls.call_function_entry kind_sorted plain_sorted entry_sorted (args_sorted1 _) ?_;unfold Builtin.«sorted»;refine Ht (m:=checkCount "sorted" 1 1 _) (Hz (Ht (PySem.W.kdu_collect (A:=X.A.in1) (Qs.raw_src lo) (I.ok.hd hc) raw (by rw[l2,Jt];omega) fun h' tk acc kp hacc=>?_)));have I1:ax X pins σ H { s with heap:=h',toks:=tk }:=I.kept kp
 have al:acc.toList.length=ml.length:=by rw[Jp,hacc.1,l2]
 have ea:acc.toList=(ks.map fun x=>x.2.1).map Value.ref:=by
  apply List.ext_getElem?
  intro i
  by_cases hi:i<ml.length
  ·have hv:acc.toList[i]? = some (acc.toList[i]'(by omega)):=by simp[show i<acc.size by rw[hacc.1,l2];exact hi]
   obtain⟨e,he,hk⟩:=hacc.2 i _ (by rw[<-Array.getElem?_toList];exact hv);rw[hv,hk,List.getElem?_map,List.getElem?_map]
   have:es.toList[i]? = some e:=by rw[Array.getElem?_toList];exact he
   rw[hes,List.getElem?_map]at this
   cases ek:ks[i]? with
   | none=>rw[ek]at this;cases this
   | some x =>
    rw[ek]at this;have e2:=Hy this;rw[<-e2];rfl
  ·rw[List.getElem?_eq_none (by omega),List.getElem?_eq_none (by simp;omega)]
 have pa:Paired (Qs.PairAt h') acc.toList ml:=by
  rw[ea,<-kG (0,0) ml,<-kG 0 (ks.map fun x=>x.2.1),Hs,l1,IA];refine jF _ fun i hi=>?_
  have hi:i<ml.length:=by simpa using hi
  obtain⟨_,its,rv,ob,hob,hcl,n,hdt⟩:=(show bb X.prog X.w H h' _ (.tup _) from I1.hok _ _ (tup i hi))
  cases rv with
  | cons r1 r2 =>
   cases r2 with
   | cons r3 r4 =>
    cases r4;obtain⟨t,rfl⟩:=r1;obtain⟨t',rfl⟩:=r3;exact⟨_,ob,n,t,t',rfl,hob,hcl,hdt⟩
 refine Ht (wpAny_newList ?_ (by rw[al,Jt];omega));have hoL:(h'.push (seqObj "list" acc.toList.toArray 0)).get? h'.objs.size=some (seqObj "list" acc.toList.toArray 0):=Heap.get?_push_size _ rfl;have fF:Paired (Qs.PairAt (h'.push (seqObj "list" acc.toList.toArray 0))) acc.toList ml:=Paired.mapP pa fun v x ⟨b,ob,n,t,t',e,hb,hc',hd'⟩=>⟨b,ob,n,t,t',e,Heap.get?_push_of_some _ hb,hc',hd'⟩;refine Ht (Jf (JU slot_list_sort ⟨_,hoL,rfl⟩ entry_list_sort (Qs.sort_pairs hoL fF nd (by rw[al];exact h64) fun out so=>⟨_,rfl,?_⟩) (args_list_sort _)));refine Hz ⟨_,rfl,?_⟩;obtain⟨ix,hx,hout,hso⟩:=so;rw[al]at hx
 have hin:∀ i∈ix,i<ml.length:=fun i hi=>by have:=hx.mem_iff.mp hi;simpa using this
 have eo:out=(ix.map fun i=>(ks.map fun x=>x.2.1).getD i 0).map Value.ref:=by
  rw[hout,IA];refine JE fun i hi=>?_;have:=hin i hi;rw[ea]
  show ((ks.map fun x=>x.2.1).map Value.ref).getD i Value.none=Value.ref ((ks.map fun x=>x.2.1).getD i 0)
  simp[show i<ks.length by omega]
 obtain⟨e,he⟩:=sortedHeap_at (vs:=acc.toList) (out:=out.toArray) hoL
 have hl2:out.length=ml.length:=by rw[eo,Hs,Hs,hx.length_eq,Jo]
 have vr:∀ l:List Addr,aQ (l.map V.ref) (l.map Value.ref):=fun l=>by
  induction l with
  | nil=>exact .nil
  | cons a l ih=>exact .cons rfl ih
 have fr:=I1.hok.fresh (Hv h'.objs.size);refine⟨.ref h'.objs.size,_,I1.laid (t':=tk) (a:=h'.objs.size) (o:=.lst ((ix.map fun i=>(ks.map fun x=>x.2.1).getD i 0).map V.ref)) (fun b ob eb=>?_) (Hv _) ⟨?_,out,e,?_,by simpa using he⟩,rfl,?_⟩
 ·rw[sortedHeap_old (Ib (HQ eb)) (by rw[size_push'];exact Jn (HQ eb))]
  exact Heap.get?_push_of_some _ eb
 ·rw[Hs,Hs,hx.length_eq,Jo,Jt];omega
 ·rw[eo];exact vr _
 ·refine q h'.objs.size (ix.map fun i=>ml.getD i (0,0)) _ fr (ah fr) ⟨_,ac,?_⟩ ?_ hso
  ·refine jF ix fun i hi=>(ah fr) _ _ (tup i (hin i hi))
  ·have:=hx.map fun i=>ml.getD i (0,0)
   rwa [kG]at this
end Wz
namespace L2
open PySem PySem.Spec PyProof.Rows
theorem ax.thaw {X:Cx}{pins:List (Addr×Obj)}{σ:St}{H:Hp}{s:Shared}{d:Addr}{o:Obj}{u:HO}(I:ax X pins σ H s)(hd:H d=some (.frz o u))(h0:∀ o' u',X.H₀ d≠some (.frz o' u')):ax X pins σ (upd H d u) s:=by
 have up:∀ b,upd H d u b=none->H b=none:=fun b e=>by
  by_cases hb:b=d
  ·rw[hb,ac]at e;cases e
  ·rw[ae hb]at e;exact e
 have dn:∀ b,H b=none->upd H d u b=none:=fun b e=>by rw[ae (fun z=>by rw[z,hd]at e;cases e)];exact e
 have ne:∀ b v,H b=some v->(∀ o' u',v≠.frz o' u')->b≠d:=fun b v e n z=>by rw[z,hd]at e;exact n _ _ (Hy e).symm
 refine⟨I.ok,I.os,I.bare,⟨I.base.keep,I.base.slot,fun b ob e n hx=>dn _ (I.base.free b ob e n hx),I.base.there,fun b xs e=>?_,fun b ob v e=>?_,fun b ps e=>?_⟩,I.loc,I.cell,dn _ I.free,fun x c e=>dn _ (I.freeC x c e),fun p hp=>?_,fun b ob e=>?_,I.len⟩
 ·have e1:=I.base.tups b xs e
  rw[ae (ne b _ e1 (fun _ _ z=>by cases z))];exact e1
 ·have nb:b≠d:=fun z=>h0 ob v (by rw[<-z];exact e)
  rw[ae nb];exact I.base.frzs b ob v e
 ·obtain⟨more,e1⟩:=I.base.tbls b ps e
  exact⟨more,by rw[ae (ne b _ e1 (fun _ _ z=>by cases z))];exact e1⟩
 ·obtain⟨a1,a2,a3⟩:=I.pin p hp
  exact⟨a1,dn _ a2,a3⟩
 ·have tr:∀ v,bb X.prog X.w H s.heap b v->bb X.prog X.w (upd H d u) s.heap b v:=fun v x=>x.stay (fun c w' hc q=>q) (fun c q=>(by rw[ae (ne c _ q (fun _ _ z=>by cases z))];exact q)) (fun c y q=>(by rw[ae (ne c _ q (fun _ _ z=>by cases z))];exact q))
  by_cases hb:b=d
  ·rw[hb,ac]at e
   cases e;obtain⟨_,x⟩:=(show bb X.prog X.w H s.heap d (.frz o u) from I.hok d _ hd);rw[hb];rw[hb]at tr;exact tr u x
  ·rw[ae hb]at e
   exact tr ob (I.hok b ob e)
def FO (H0:Hp)(nx:St->Hp->Prop):St->Hp->Prop:=fun σ H=>∃ d o u,H d=some (.frz o u)/\(∀ o' u',H0 d≠some (.frz o' u'))/\nx σ (upd H d u)
theorem vg {X:Cx}{st:Stmt}{t:TS}(h:PS X st t):PS X st (fun D σ H=>t { D with nx:=FO X.H₀ D.nx } σ H):=by
 intro pins s σ H D I ht;refine bc (h pins s σ H _ I ht) fun f s' hq=>?_
 cases f with
 | next=>obtain⟨σ',H',I',d,o,u,hd,h0,q⟩:=hq;exact⟨σ',_,I'.thaw hd h0,q⟩
 | brk=>exact hq
 | cont=>exact hq
 | ret v=>exact hq
end L2
namespace Wz
open PySem L2
structure zx (L:List Int)(st:b7):Prop where
 kn:(st.circ.map (·.1)).Nodup
 kl:∀ x∈st.circ,x.1∈L/\x.2.Nodup/\∀ b∈x.2,b∈L
theorem Ge {L:List Int}:zx L ⟨[],[],[],[]⟩:=⟨JS,fun x h=>by cases h⟩
theorem Cw {L ks:List Int}{b:Int}(h:ks.Nodup/\∀ x∈ks,x∈L)(hb:b∈L):(j5 ks b).Nodup/\∀ x∈j5 ks b,x∈L:=by
 unfold j5;split
 ·exact h
 ·rename_i n
  refine⟨lP h.1 n,fun x hx=>?_⟩;rcases Ie.mp hx with z | z
  ·exact h.2 x z
  ·rw[HR.mp z];exact hb
theorem um {L:List Int}{a b:Int}(ha:a∈L)(hb:b∈L):∀ {ci:List (Int×List Int)},(ci.map (·.1)).Nodup->(∀ x∈ci,x.1∈L/\x.2.Nodup/\∀ y∈x.2,y∈L) ->
  ((bW ci a b).map (·.1)).Nodup/\(∀ x∈bW ci a b,x.1∈L/\x.2.Nodup/\∀ y∈x.2,y∈L)/\∀ k,k∈(bW ci a b).map (·.1)->k∈ci.map (·.1)\/k=a
 | [],_,_=>by
  refine⟨by simp[bW],fun x hx=>?_,fun k hk=>?_⟩
  ·simp[bW]at hx
   subst hx;exact⟨ha,by simp,fun y hy=>by simp at hy;rw[hy];exact hb⟩
  ·simp[bW]at hk
   exact .inr hk
 | x::r,hn,hl=>by
  rw[Iw,Iz]at hn;unfold bW
  by_cases h:x.1=a
  ·rw[Hw h]
   refine⟨by rw[Iw,Iz];exact hn,fun y hy=>?_,fun k hk=>.inl (by simpa using hk)⟩;rcases HW.mp hy with z | z
   ·subst z
    obtain⟨h1,h2,h3⟩:=hl x HV;exact⟨h1,Cw ⟨h2,h3⟩ hb⟩
   ·exact hl y (HL _ z)
  ·rw[Hu h]
   obtain⟨i1,i2,i3⟩:=um ha hb (ci:=r) hn.2 (fun y hy=>hl y (HL _ hy));refine⟨?_,fun y hy=>?_,fun k hk=>?_⟩
   ·rw[Iw,Iz]
    refine⟨fun z=>?_,i1⟩;rcases i3 _ z with z | z
    ·exact hn.1 z
    ·exact h z
   ·rcases HW.mp hy with z | z
    ·subst z;exact hl _ HV
    ·exact i2 y z
   ·rw[Iw]at hk
    rcases HW.mp hk with z | z
    ·exact .inl (by rw[z];simp)
    ·rcases i3 k z with z | z
     ·exact .inl (HL _ z)
     ·exact .inr z
theorem AM {L:List Int}{st:b7}{d:aT}(h:zx L st)(hn:∀ g∈names d,g∈L):zx L (cQ st d):=by
 unfold cQ;split
 ·cases d with
  | come g=>exact⟨h.kn,h.kl⟩
  | go g=>exact⟨h.kn,h.kl⟩
  | exch a b =>
   have ha:=hn a (by simp[names]);have hb:=hn b (by simp[names]);obtain⟨j1,j2,_⟩:=um ha hb h.kn h.kl;obtain⟨k1,k2,_⟩:=um hb ha j1 j2;exact⟨k1,k2⟩
 ·exact h
theorem uu {L:List Int}{a:Int}:∀ {ci:List (Int×List Int)},(∀ x∈ci,x.1∈L/\x.2.Nodup/\∀ y∈x.2,y∈L)->(ir ci a).Nodup/\(∀ y∈ir ci a,y∈L)/\∀ y,y∈ir ci a->a∈ci.map (·.1)
 | [],_=>⟨JS,(fun y h=>by cases h),fun y h=>by cases h⟩
 | x::r,hl=>by
  unfold ir
  by_cases h:x.1=a
  ·rw[Hw h]
   obtain⟨_,h2,h3⟩:=hl x HV;exact⟨h2,h3,fun y _=>by rw[<-h];simp⟩
  ·rw[Hu h]
   obtain⟨i1,i2,i3⟩:=uu (ci:=r) (a:=a) fun y hy=>hl y (HL _ hy);exact⟨i1,i2,fun y hy=>HL _ (i3 y hy)⟩
theorem zx.cl {L:List Int}{st:b7}(h:zx L st)(a:Int):(ir st.circ a).length<=L.length:=by obtain⟨h1,h2,_⟩:=uu (a:=a) h.kl;exact bO h1 h2
theorem zx.kk {L:List Int}{st:b7}(h:zx L st):st.circ.length<=L.length:=by
 have:=bO h.kn (m:=L) fun x hx=>by obtain⟨y,hy,e⟩:=IB.mp hx;rw[<-e];exact (h.kl y hy).1
 rwa [Hs]at this
def dy (ci:List (Int×List Int))(a:Int):List (Int×Int):=((aD (ir ci a)).filter fun b=>decide (a<b)).map fun b=>(a,b)
def dE (ci:List (Int×List Int)):List (Int×Int):=(aD (ci.map (·.1))).flatMap (dy ci)
structure vP (ml:List (Int×Int)):Prop where
 nd:ml.Nodup
 lo:∀ p∈ml,p.1<p.2
theorem Hd:vP []:=⟨JS,fun p h=>by cases h⟩
theorem C6 {st:b7}{ml:List (Int×Int)}(h:vP ml)(d:aT):vP (ku st ml d):=by
 unfold ku;split
 ·rename_i hj
  cases d with
  | come g=>exact h
  | go g=>exact h
  | exch a b =>
   have hab:a≠b:=fun e=>by
    subst e
    cases e:look st.worn a with
    | none=>simp[bw,e]at hj
    | some m=>simp[bw,e]at hj
   show vP (gK ml (fg a b))
   unfold gK;split
   ·exact h
   ·rename_i n
    refine⟨?_,fun p hp=>?_⟩
    ·rw[JN]
     exact⟨h.nd,by simp,fun x hx y hy e=>n (by rw[HR.mp hy]at e;rw[<-e];exact hx)⟩
    ·rcases Ie.mp hp with z | z
     ·exact h.lo p z
     ·rw[HR.mp z]
      unfold fg;split
      ·assumption
      ·show a<b
       omega
 ·exact h
theorem lS {L:List Int}{st:b7}(h:zx L st):(dE st.circ).Pairwise fun a b=>Qs.ltP a b=true:=by
 have ss:∀ l:List Int,l.Nodup->(aD l).Pairwise (· < ·):=fun l nd=>by
  have h1:=kM l;have h2:(aD l).Nodup:=(cG l).nodup_iff.mpr nd
  exact (h1.and h2).imp fun {a b} ⟨x,y⟩=>by have:a≠b:=y;omega
 unfold dE;rw[List.pairwise_flatMap];refine⟨fun a ha=>?_,(ss _ h.kn).imp fun {a b} hab x hx y hy=>?_⟩
 ·unfold dy
  rw[JO];refine ((ss _ (uu h.kl).1).filter _).imp fun {x y} hxy=>?_;unfold Qs.ltP;exact HY (.inr ⟨rfl,hxy⟩)
 ·unfold dy at hx hy
  obtain⟨x',_,rfl⟩:=IB.mp hx;obtain⟨y',_,rfl⟩:=IB.mp hy;unfold Qs.ltP;exact HY (.inl hab)
theorem t7 {L:List Int}{st:b7}{ml:List (Int×Int)}(h:zx L st)(al:nX st ml)(ok:vP ml)(p:Int×Int):p∈dE st.circ↔p∈ml:=by
 obtain⟨a,b⟩:=p
 have hm:b∈ir st.circ a↔fg a b∈ml:=by
  have:=al a b;unfold jg qC at this;constructor
  ·intro z;rw[HY z]at this;exact IZ this.symm
  ·intro z;rw[HY z]at this;exact IZ this
 unfold dE;rw[List.mem_flatMap];constructor
 ·rintro⟨a',ha',hb⟩
  unfold dy at hb;obtain⟨b',hb',e⟩:=IB.mp hb;cases e;obtain⟨h1,h2⟩:=Iy.mp hb';have h2:=IZ h2;have:=hm.mp (fE.mp h1);unfold fg at this;rw[Hu (by omega)]at this;exact this
 ·intro hp
  have hlt:=ok.lo _ hp;have hb:b∈ir st.circ a:=hm.mpr (by unfold fg;rw[Hu (by show ¬ b<a;have:a<b:=hlt;omega)];exact hp);refine⟨a,fE.mpr ((uu h.kl).2.2 b hb),?_⟩;unfold dy;exact IB.mpr ⟨b,Iy.mpr ⟨fE.mpr hb,HY hlt⟩,rfl⟩
theorem Bx {L:List Int}{st:b7}{ml qs:List (Int×Int)}(h:zx L st)(al:nX st ml)(ok:vP ml)(hp:qs.Perm ml)(hs:qs.Pairwise fun a b=>Qs.ltP a b=true):dE st.circ=qs:=by
 have p1:=lS h
 have irr:∀ a b:Int×Int,Qs.ltP a b=true->a≠b:=fun a b z e=>by rw[e,Qs.ltP_irr]at z;cases z
 have nd1:(dE st.circ).Nodup:=p1.imp fun {a b} z=>irr a b z;have nd2:qs.Nodup:=hp.nodup_iff.mpr ok.nd
 have pm:(dE st.circ).Perm qs:=(List.perm_ext_iff_of_nodup nd1 nd2).mpr fun x=>by rw[t7 h al ok,hp.mem_iff]
 exact pm.eq_of_pairwise (fun a b _ _ z1 z2=>by have:=Qs.ltP_tr z1 z2;rw[Qs.ltP_irr]at this;cases this) p1 hs
inductive iL (C:Addr) (vs:List V) (H:Hp) (Q:VK) (E_:XK):Prop
 | mk (p:Addr) (A:HA) (st:b7) (g:Int) (h_0:vs=[.ref p,.int g]) (h_1:aE C H p A st) (h_2:(ir st.circ g).length<64) (h_3:∀ (l:Addr)(H':Hp),H l=none->aB H H'->H' l=some (.lst ((aD (ir st.circ g)).map V.int))->Q (.ref l) H'):iL C vs H Q E_
inductive mq (C:Addr) (vs:List V) (H:Hp) (Q:VK) (E_:XK):Prop
 | mk (p:Addr) (A:HA) (st:b7) (L:List Int) (h_0:vs=[.ref p]) (h_1:aE C H p A st) (h_2:zx L st) (h_3:L.length<64) (h_4:(dE st.circ).length<=1000) (h_5:∀ (l:Addr)(H':Hp),H l=none->aB H H'->bJ H' l (dE st.circ)->Q (.ref l) H'):mq C vs H Q E_
end Wz
namespace L2
open PySem PySem.Spec PyProof.Rows
inductive Fw (neg:Bool) (x:V) (y:V) (H:Hp) (Q:VK):Prop
 | mk (a b:Bool) (h_0:x=.bl a) (h_1:y=.bl b) (h_2:Q (.bl (if neg then !decide (a=b) else decide (a=b))) H):Fw neg x y H Q
theorem Af {X:Cx}:ph X (compareOp .IsNot) (Fw true):=by
 intro pins s σ H x y v u Q I rx ry h;obtain⟨a,b,rfl,rfl,q⟩:=h;cases rx;cases ry;refine wpAny_isNot_plain rfl ⟨.bl _,H,I,?_,q⟩;cases a<;>cases b<;>rfl
theorem BJ {X:Cx}{tg:Expr}(K:PySem.W.Frag){l:Expr}{tl:TE}(hl:PE X l tl)(hK:X.K=K:=by rfl):PI X tg l (A5 K tl):=by subst hK;exact bq hl
theorem B6 {wi1:TI}{g1:TG}{tt1:TT}{te:TE}{a:Addr}{D:im}{σ:St}{H:Hp}(h:wi1 σ H fun J1 H2=>i8 J1 g1 (Aw tt1 te a) { nx:=D.nx,rt:=fun _ _=>False } σ H2):EL sP wi1 g1 tt1 te a D σ H:=by
 unfold EL sP;dsimp only;rw[Hw rfl];exact h
end L2
namespace Wz
open PySem L2
inductive my (c:HX) (vs:List V) (H:Hp) (Q:VK) (E_:XK):Prop
 | mk (p w m ls:Addr) (A:HA) (st:b7) (ml:List (Int×Int)) (L:List Int) (h_0:vs=[.ref p,.ref w,.ref m,.ref ls]) (h_1:aE c.C H p A st) (h_2:w∉A.fp) (h_3:H w=some (.dK (dk st.worn))) (h_4:H m=some (.dT (jU ml))) (h_5:bN H ls st.deeds) (h_6:ed st) (h_7:nX st ml) (h_8:zx L st) (h_9:vP ml) (h_10:L.length<64) (h_11:ml.length<64) (h_12:st.worn.length<64) (h_13:(∀ g∈ak st.worn,cp g)) (h_14:∀ H',aB H H'->Q (.bl true) H'):my c vs H Q E_
end Wz
namespace L2
open PySem PySem.Spec PyProof.Rows
end L2
namespace Wz
open PySem L2
def rT:aT->Bool
 | .exch _ _=>true
 | _=>false
inductive mj (K:PySem.W.Frag) (vs:List V) (H:Hp) (Q:VK) (E_:XK):Prop
 | mk (a:Addr) (ns:List Int) (h_0:vs=[.ref a]) (h_1:aL K H a (ns.map V.int)) (h_2:∀ (l:Addr)(H':Hp)(ds:List aT),H l=none->aB H H'->bN H' l ds->(∀ d∈ds,∀ g∈names d,g∈ca 40 (cX ns 1))->ds.length<=88->(ds.filter rT).length<=48->Q (.ref l) H'):mj K vs H Q E_
theorem x0 (st:b7)(ml:List (Int×Int))(d:aT):(ku st ml d).length<=ml.length+(if rT d then 1 else 0):=by
 unfold ku;split
 ·cases d with
  | come g=>exact Hv _
  | go g=>exact Hv _
  | exch a b=>show (gK ml _).length<=_;unfold gK;split<;>simp[rT]
 ·omega
end Wz
namespace L2
open PySem PySem.Spec PyProof.Rows
end L2
namespace Wz
open PySem L2
def lL (ds:List aT):List (Int×Int):=ds.foldl p0 []
theorem z5 (ds:List aT)(d:aT):lL (ds++[d])=p0 (lL ds) d:=by unfold lL;rw[JC];rfl
theorem qo:∀ (ds:List aT)(st:b7),(ds.foldl after st).deeds=st.deeds++ds
 | [],st=>by simp
 | d::ds,st=>by rw[Jy,qo ds,vW,JD];rfl
theorem kN (ds:List aT):(da ds).deeds=ds:=by unfold da;rw[qo];rfl
structure ER (L:List Int)(ds:List aT):Prop where
 good:ed (da ds)
 of:Of L (da ds)
 sz:Sz ds.length (da ds)
 al:nX (da ds) (lL ds)
 ci:zx L (da ds)
 mo:vP (lL ds)
 ml:(lL ds).length<=(ds.filter rT).length
theorem Gs {L:List Int}:ER L []:=⟨qt,of_empty,G6,vX,Ge,Hd,Hv _⟩
theorem qL {ds:List aT}{d:aT}(hj:bw (da ds) d=.done):cQ (da ds) d=da (ds++[d]):=by unfold cQ;rw[Hw hj,uc]
theorem qK {ds:List aT}{d:aT}(hj:bw (da ds) d=.done):ku (da ds) (lL ds) d=lL (ds++[d]):=by unfold ku;rw[Hw hj,z5]
theorem ER.next {L:List Int}{ds:List aT}{d:aT}(h:ER L ds)(hj:bw (da ds) d=.done)(hn:∀ g∈names d,g∈L/\cp g):ER L (ds++[d]):=by
 have e1:=qL hj;have e2:=qK hj;refine⟨?_,?_,?_,?_,?_,?_,?_⟩
 ·rw[<-e1];exact tL h.good fun g hg=>(hn g hg).2
 ·rw[<-e1];exact y9 h.good h.of fun g hg=>(hn g hg).1
 ·rw[<-e1,Ia];exact zn h.sz d
 ·rw[<-e1,<-e2];exact xB h.al
 ·rw[<-e1];exact AM h.ci fun g hg=>(hn g hg).1
 ·rw[<-e2];exact C6 h.mo d
 ·rw[<-e2,Je,Ia]
  have h1:=x0 (da ds) (lL ds) d;have h2:=h.ml;cases e:rT d<;>simp[e]at h1 ⊢<;>omega
theorem yn {L:List Int}{ds:List aT}(hd:ij ds)(hn:∀ d∈ds,∀ g∈names d,g∈L/\cp g):∀ i,ER L (ds.take i)
 | 0=>Gs
 | i+1=>by
  have ih:=yn hd hn i;rw[Iv]
  cases e:ds[i]? with
  | none=>simpa using ih
  | some d=>rw[ID];exact ih.next (hd i d e) (hn d (Hx e))
inductive iK (K:PySem.W.Frag) (vs:List V) (H:Hp) (Q:VK) (E_:XK):Prop
 | mk (a:Addr) (ns:List Int) (h_0:vs=[.ref a]) (h_1:aL K H a (ns.map V.int)) (h_2:∀ (t w m ls:Addr)(H':Hp)(es:List aT),aB H H'->H' t=some (.tup [.ref w,.ref m,.ref ls])->zB H H' w m ls (da es) (lL es)->ij es->(∀ d∈es,∀ g∈names d,g∈ca 40 (cX ns 1))->es.length<=88->(es.filter rT).length<=48->Q (.ref t) H'):iK K vs H Q E_
end Wz
namespace L2
open PySem PySem.Spec PyProof.Rows
theorem Ag {X:Cx}(K:PySem.W.Frag)(hK:X.K=K:=by rfl):ph X (compareOp .NotIn) (Gv K true):=by subst hK;exact lR
theorem tK (ns:List Int):(ns.map V.int).all jy=true:=by rw[List.all_map];simp[jy,Function.comp_def]
theorem yQ (x:Int)(ns:List Int):D5 (.int x) (ns.map V.int)=decide (x∈ns):=by
 unfold D5;rw[J8]
 induction ns with
 | nil=>rfl
 | cons n r ih =>
  rw[Jg,ih]
  have e:(xI (V.int n) (V.int x))=decide (x=n):=by
   by_cases h:x=n
   ·subst h;simp[xI]
   ·simp[xI,h,Ik h]
  show (xI (V.int n) (V.int x)||_)=_
  rw[e]
  by_cases h:x=n<;>simp[h]
end L2
namespace Wz
open PySem L2
def Cn (f:Int->Int):Prop:=∀ a b,f a=f b->a=b
theorem A6 {f:Int->Int}(h:Cn f)(p:Int×Int):Cn (cw f p):=by
 intro a b e;unfold cw at e
 by_cases a2:a=p.2
 ·by_cases b2:b=p.2
  ·rw[a2,b2]
  ·rw[Hw a2,Hu b2]at e
   by_cases b1:b=p.1
   ·rw[Hw b1]at e
    have:=h _ _ e;rw[a2,b1,this]
   ·rw[Hu b1]at e
    exact absurd (h _ _ e).symm b1
 ·rw[Hu a2]at e
  by_cases b2:b=p.2
  ·rw[Hw b2]at e
   by_cases a1:a=p.1
   ·rw[Hw a1]at e
    have:=h _ _ e;rw[a1,b2,this]
   ·rw[Hu a1]at e
    exact absurd (h _ _ e) a1
  ·rw[Hu b2]at e
   by_cases a1:a=p.1
   ·rw[Hw a1]at e
    by_cases b1:b=p.1
    ·rw[a1,b1]
    ·rw[Hu b1]at e
     exact absurd (h _ _ e).symm b2
   ·rw[Hu a1]at e
    by_cases b1:b=p.1
    ·rw[Hw b1]at e
     exact absurd (h _ _ e) a2
    ·rw[Hu b1]at e
     exact h _ _ e
theorem rN {w:List (Int×Int)}{g:Int}(h:g∉ak w):wr w g=g:=by
 unfold wr
 cases e:look w g with
 | none=>rfl
 | some m=>exact absurd (bL.mp (by rw[e];rfl)) h
def iter (f:Int->Int):Nat->Int->Int
 | 0,g=>g
 | n+1,g=>f (iter f n g)
theorem lF (f:Int->Int)(m:Nat):∀ (n:Nat)(g:Int),iter f (n+m) g=iter f n (iter f m g)
 | 0,_=>by rw[Nat.zero_add];rfl
 | n+1,g=>by
  rw[Nat.add_right_comm]
  show f (iter f (n+m) g)=f (iter f n (iter f m g))
  rw[lF f m n g]
theorem qw {f:Int->Int}(h:Cn f):∀ (n:Nat){a b:Int},iter f n a=iter f n b->a=b
 | 0,_,_,e=>e
 | n+1,_,_,e=>qw h n (h _ _ e)
theorem jT {f:Int->Int}{ks:List Int}(hk:∀ g∈ks,f g∈ks){g:Int}(hg:g∈ks):∀ n,iter f n g∈ks
 | 0=>hg
 | n+1=>hk _ (jT hk hg n)
theorem ng:∀ {l:List Int},¬ l.Nodup->∃ i j:Nat,i<j/\∃ x,l[i]? = some x/\l[j]? = some x
 | [],h=>absurd JS h
 | a::r,h=>by
  by_cases ha:a∈r
  ·obtain⟨n,hn,e⟩:=Jq ha
   exact⟨0,n+1,Nat.succ_pos _,a,rfl,by rw[List.getElem?_cons_succ,List.getElem?_eq_getElem hn,e]⟩
  ·have hr:¬ r.Nodup:=fun z=>h (Iz.mpr ⟨ha,z⟩)
   obtain⟨i,j,hij,x,e1,e2⟩:=ng hr;exact⟨i+1,j+1,Nat.succ_lt_succ hij,x,by simpa using e1,by simpa using e2⟩
theorem xF {f:Int->Int}(hf:Cn f){ks:List Int}(hk:∀ g∈ks,f g∈ks){g:Int}(hg:g∈ks):∃ n,0<n/\n<=ks.length/\iter f n g=g:=by
 have h:¬ ((List.range (ks.length+1)).map fun n=>iter f n g).Nodup:=fun nd=>by
  have:=bO nd (m:=ks) fun x hx=>by
   obtain⟨n,_,rfl⟩:=IB.mp hx;exact jT hk hg n
  rw[Hs,Jo]at this;omega
 obtain⟨i,j,hij,x,e1,e2⟩:=ng h;rw[List.getElem?_map]at e1 e2
 have hj:j<ks.length+1:=by
  have:=(List.getElem?_eq_some_iff.mp (show ((List.range (ks.length+1)).map fun n=>iter f n g)[j]? = some x by rw[List.getElem?_map];exact e2)).1;simpa using this
 have hi:i<ks.length+1:=by omega
 rw[List.getElem?_range hi]at e1;rw[List.getElem?_range hj]at e2;have e1':iter f i g=x:=Hy e1;have e2':iter f j g=x:=Hy e2;refine⟨j-i,by omega,by omega,?_⟩
 have e3:iter f (i+(j-i)) g=iter f i g:=by rw[show i+(j-i)=j by omega,e2',e1']
 rw[lF]at e3;exact qw hf i e3
theorem xM {f:Int->Int}{g:Int}:∀ (n:Nat),0<n->iter f n g=g->∃ m,0<m/\m<=n/\iter f m g=g/\∀ k,0<k->k<m->iter f k g≠g:=by
 intro n
 induction n using Nat.strongRecOn with
 | _ n ih =>
  intro hn he
  by_cases h:∃ k,0<k/\k<n/\iter f k g=g
  ·obtain⟨k,k0,kn,ke⟩:=h
   obtain⟨m,m0,mk,me,mf⟩:=ih k kn k0 ke;exact⟨m,m0,by omega,me,mf⟩
  ·exact⟨n,hn,Hv _,he,fun k k0 kn ke=>h ⟨k,k0,kn,ke⟩⟩
def cU (f:Int->Int)(g:Int)(m:Nat):List Int:=(List.range m).map fun i=>iter f i g
theorem rl {f:Int->Int}(hf:Cn f){g:Int}{m:Nat}(hm:∀ k,0<k->k<m->iter f k g≠g):(cU f g m).Nodup:=by
 cases Classical.em (cU f g m).Nodup with
 | inl h=>exact h
 | inr h =>
  obtain⟨i,j,hij,x,e1,e2⟩:=ng h;unfold cU at e1 e2
  have hj:j<m:=by
   have:=(List.getElem?_eq_some_iff.mp e2).1;simpa using this
  rw[List.getElem?_map,List.getElem?_range (by omega)]at e1;rw[List.getElem?_map,List.getElem?_range hj]at e2;have e1':iter f i g=x:=Hy e1;have e2':iter f j g=x:=Hy e2
  have e3:iter f (i+(j-i)) g=iter f i g:=by rw[show i+(j-i)=j by omega,e2',e1']
  rw[lF]at e3;exact absurd (qw hf i e3) (hm (j-i) (by omega) (by omega))
theorem oQ {f:Int->Int}{g:Int}{m:Nat}(hm:0<m)(he:iter f m g=g){x:Int}(hx:x∈cU f g m):f x∈cU f g m:=by
 unfold cU at hx ⊢;obtain⟨i,hi,rfl⟩:=IB.mp hx;have hi:=IR.mp hi
 by_cases h:i+1<m
 ·exact IB.mpr ⟨i+1,IR.mpr h,rfl⟩
 ·refine IB.mpr ⟨0,IR.mpr hm,?_⟩
  have:i+1=m:=by omega
  rw[<-this]at he;exact he.symm
theorem xl (l:List Int):(aD l).Perm l:=JX l _
def mL (f:Int->Int)(g:Int)(m:Nat):Prop:=0<m/\iter f m g=g/\∀ k,0<k->k<m->iter f k g≠g
def sD (f:Int->Int)(N:Nat)(g:Int):Nat:=((List.range N).find? fun i=>decide (iter f (i+1) g=g)).getD 0+1
def dI (f:Int->Int)(N:Nat)(g:Int):List Int:=cU f g (sD f N g)
theorem qi (p:Nat->Bool):∀ (N m:Nat),m<N->p m=true->(∀ k,k<m->p k=false)->(List.range N).find? p=some m
 | 0,m,h,_,_=>by omega
 | N+1,m,h,hm,hk=>by
  rw[List.range_succ,List.find?_append]
  by_cases e:m<N
  ·rw[qi p N m e hm hk];rfl
  ·have e:m=N:=by omega
   subst e;rw[List.find?_eq_none.mpr fun x hx=>by rw[hk x (IR.mp hx)];simp];simp[hm]
theorem Bv {f:Int->Int}{g:Int}{m N:Nat}(h:mL f g m)(hN:m<=N):sD f N g=m:=by
 obtain⟨h0,h1,h2⟩:=h;unfold sD;rw[qi _ N (m-1) (by omega) (by rw[show m-1+1=m by omega];exact HY h1) fun k hk=>Ih (h2 (k+1) (by omega) (by omega))];simp;omega
theorem tM {f:Int->Int}(hf:Cn f){K:List Int}(hk:∀ g∈K,f g∈K){g:Int}(hg:g∈K){N:Nat}(hN:K.length<=N):mL f g (sD f N g):=by
 obtain⟨n,n0,n1,n2⟩:=xF hf hk hg;obtain⟨m,m0,m1,m2,m3⟩:=xM n n0 n2;have R:mL f g m:=⟨m0,m2,m3⟩;rw[Bv R (by omega)];exact R
theorem lZ {f:Int->Int}{g x:Int}{m:Nat}:x∈cU f g m↔∃ i,i<m/\x=iter f i g:=by
 unfold cU;rw[IB];constructor
 ·rintro⟨i,hi,rfl⟩;exact⟨i,IR.mp hi,rfl⟩
 ·rintro⟨i,hi,rfl⟩;exact⟨i,IR.mpr hi,rfl⟩
theorem oB {f:Int->Int}{S:List Int}(h:∀ x∈S,f x∈S):∀ (n:Nat){x:Int},x∈S->iter f n x∈S
 | 0,_,hx=>hx
 | n+1,_,hx=>h _ (oB h n hx)
theorem yo {f:Int->Int}{g:Int}{m:Nat}(R:mL f g m){S:List Int}(hS:∀ x∈S,f x∈S)(hg:g∉S):∀ x∈cU f g m,x∉S:=fun x hx z=>by
 obtain⟨i,hi,rfl⟩:=lZ.mp hx;have:=oB hS (m-i) z;rw[<-lF,show m-i+i=m by omega,R.2.1]at this;exact hg this
def cO (f:Int->Int)(N:Nat):List Int->List Int->List (List Int)
 | [],_=>[]
 | g::ks,S=>if g∈S then cO f N ks S else dI f N g::cO f N ks (S++dI f N g)
theorem l7 {f:Int->Int}(hf:Cn f){K:List Int}(hk:∀ g∈K,f g∈K){N:Nat}(hN:K.length<=N):∀ (ks S:List Int),(∀ x∈ks,x∈K)->(∀ x∈S,f x∈S) ->
  (cO f N ks S).flatten.Nodup/\(∀ x∈(cO f N ks S).flatten,x∉S/\x∈K)/\(∀ x∈ks,x∈S\/x∈(cO f N ks S).flatten)/\∀ r∈cO f N ks S,∃ g∈ks,r=dI f N g/\mL f g (sD f N g)
 | [],S,_,_=>by simp[cO]
 | g::ks,S,h1,h2=>by
  have hgK:=h1 g HV;have h1':∀ x∈ks,x∈K:=fun x hx=>h1 x (HL _ hx);unfold cO
  by_cases hg:g∈S
  ·rw[Hw hg]
   obtain⟨a,b,c,d⟩:=l7 hf hk hN ks S h1' h2;refine⟨a,b,fun x hx=>?_,fun r hr=>?_⟩
   ·rcases HW.mp hx with rfl | z
    ·exact .inl hg
    ·exact c x z
   ·obtain⟨q,hq,e⟩:=d r hr
    exact⟨q,HL _ hq,e⟩
  ·rw[Hu hg]
   have R:=tM hf hk hgK hN;have ap:=yo R h2 hg;have cl:∀ x∈dI f N g,f x∈dI f N g:=fun x hx=>oQ R.1 R.2.1 hx
   have inK:∀ x∈dI f N g,x∈K:=fun x hx=>by
    obtain⟨i,hi,rfl⟩:=lZ.mp hx;exact jT hk hgK i
   have g0:g∈dI f N g:=lZ.mpr ⟨0,R.1,rfl⟩
   obtain⟨a,b,c,d⟩:=l7 hf hk hN ks (S++dI f N g) h1' fun x hx=>by
    rcases Ie.mp hx with z | z
    ·exact Ie.mpr (.inl (h2 x z))
    ·exact Ie.mpr (.inr (cl x z))
   rw[List.flatten_cons];refine⟨?_,fun x hx=>?_,fun x hx=>?_,fun r hr=>?_⟩
   ·rw[JN]
    exact⟨rl hf R.2.2,a,fun x hx y hy e=>(b y hy).1 (Ie.mpr (.inr (by rw[<-e];exact hx)))⟩
   ·rcases Ie.mp hx with z | z
    ·exact⟨ap x z,inK x z⟩
    ·exact⟨fun q=>(b x z).1 (Ie.mpr (.inl q)),(b x z).2⟩
   ·rcases HW.mp hx with rfl | z
    ·exact .inr (Ie.mpr (.inl g0))
    ·rcases c x z with q | q
     ·rcases Ie.mp q with q | q
      ·exact .inl q
      ·exact .inr (Ie.mpr (.inl q))
     ·exact .inr (Ie.mpr (.inr q))
   ·rcases HW.mp hr with rfl | z
    ·exact⟨g,HV,rfl,R⟩
    ·obtain⟨q,hq,e⟩:=d r z
     exact⟨q,HL _ hq,e⟩
theorem zW {f:Int->Int}{N:Nat}{g:Int}:(dI f N g).length=sD f N g:=by unfold dI cU;rw[Hs,Jo]
def bA (r:List Int):List (Int×Int):=r.zip (r.drop 1)
theorem qy (r:List Int):(bA r).length=r.length-1:=by unfold bA;rw[List.length_zip,JT];omega
theorem Paired.mapP' {α β:Type}{F G:α->β->Prop}:∀ {l₁:List α}{l₂:List β},Paired F l₁ l₂->(∀ a b,a∈l₁->F a b->G a b)->Paired G l₁ l₂
 | _,_,.nil,_=>.nil
 | _,_,.cons e r,h=>.cons (h _ _ HV e) (Paired.mapP' r fun a b ha=>h a b (HL _ ha))
structure xw (W:List (Int×Int)):Prop where
 inj:Cn (wr W)
 cl:∀ g∈ak W,wr W g∈ak W
 nd:(ak W).Nodup
theorem iE {W:List (Int×Int)}{g:Int}(h:g∈ak W):look W g=some (wr W g):=by
 obtain⟨m,e⟩:=IJ.mp (bL.mpr h);unfold wr;rw[e];rfl
theorem xb {st:b7}(G:ed st):xw st.worn:=by
 refine⟨fun a b e=>?_,fun g hg=>G.ow g _ (iE hg),G.wn⟩
 by_cases ha:a∈ak st.worn
 ·have ea:=iE ha
  by_cases hb:b∈ak st.worn
  ·have eb:=iE hb
   have h1:=(G.wh a _).mp ea;have h2:=(G.wh b _).mp eb;rw[e,h2]at h1;exact (Hy h1).symm
  ·have:=G.ow a _ ea
   rw[e,rN hb]at this;exact absurd this hb
 ·by_cases hb:b∈ak st.worn
  ·have:=G.ow b _ (iE hb)
   rw[<-e,rN ha]at this;exact absurd this ha
  ·rw[rN ha,rN hb]at e
   exact e
theorem lI (W:List (Int×Int)):(ak W).length=W.length:=by unfold ak;rw[Hs]
theorem xw.ring {W:List (Int×Int)}(P:xw W){g:Int}(hg:g∈ak W):mL (wr W) g (sD (wr W) W.length g):=tM P.inj P.cl hg (by rw[lI];exact Hv _)
theorem xw.ord_le {W:List (Int×Int)}(P:xw W){g:Int}(hg:g∈ak W):sD (wr W) W.length g<=W.length:=by
 have h:=bO (rl P.inj (P.ring hg).2.2) (m:=ak W) fun x hx=>by
  obtain⟨i,_,rfl⟩:=lZ.mp hx;exact jT P.cl hg i
 rw[lI]at h;unfold cU at h
 rwa [Hs,Jo]at h
def yp (W:List (Int×Int)):List (List Int):=cO (wr W) W.length (bv W) []
theorem xw.wrong {W:List (Int×Int)}(P:xw W):(∀ g∈bv W,g∈ak W/\wr W g≠g)/\(bv W).Nodup/\(∀ g∈bv W,wr W g∈bv W)/\(bv W).length<=W.length:=by
 have m:∀ g,g∈bv W↔g∈ak W/\wr W g≠g:=fun g=>by
  unfold bv;rw[Iy,(xl _).mem_iff];simp
 refine⟨fun g hg=>(m g).mp hg,((xl _).nodup_iff.mpr P.nd).filter _,fun g hg=>(m _).mpr ⟨P.cl g ((m g).mp hg).1,fun z=>((m g).mp hg).2 (P.inj _ _ z)⟩,uh W⟩
theorem rj (f:Int->Int)(g:Int)(i:Nat):cU f g (i+1)=cU f g i++[iter f i g]:=by unfold cU;rw[List.range_succ,Ii];rfl
theorem zV (f:Int->Int)(g:Int)(i:Nat):(cU f g i).length=i:=by unfold cU;rw[Hs,Jo]
def zm (f:Int->Int)(N:Nat)(q:List Int×List (List Int))(g:Int):List Int×List (List Int):=if g∈q.1 then q else (q.1++dI f N g,q.2++[dI f N g])
theorem iC (f:Int->Int)(N:Nat):∀ (ks S:List Int)(rs:List (List Int)),ks.foldl (zm f N) (S,rs)=(S++(cO f N ks S).flatten,rs++cO f N ks S)
 | [],S,rs=>by simp[cO]
 | g::ks,S,rs=>by
  rw[Jy];unfold zm cO
  by_cases h:g∈S
  ·rw[Hw h,Hw h];exact iC f N ks S rs
  ·rw[Hu h,Hu h]
   have:=iC f N ks (S++dI f N g) (rs++[dI f N g]);unfold zm at this;rw[this,List.flatten_cons];simp
def qR (W:List (Int×Int))(i:Nat):List Int×List (List Int):=((bv W).take i).foldl (zm (wr W) W.length) ([],[])
theorem Ew (W:List (Int×Int)){n:Nat}(h:(bv W).length<=n):(qR W n).2=yp W:=by unfold qR;rw[List.take_of_length_le h,iC];rfl
theorem Ft {W:List (Int×Int)}(P:xw W)(i:Nat):(qR W i).1.Nodup/\(∀ x∈(qR W i).1,x∈bv W)/\(∀ x∈(qR W i).1,wr W x∈(qR W i).1)/\(qR W i).1.length<=W.length/\(qR W i).2.length<=i:=by
 obtain⟨w1,w2,w3,w4⟩:=P.wrong;have sub:∀ x∈(bv W).take i,x∈bv W:=fun x hx=>List.mem_of_mem_take hx;obtain⟨a,b,c,d⟩:=l7 P.inj w3 w4 ((bv W).take i) [] sub (fun x h=>by cases h)
 have e:qR W i=((cO (wr W) W.length ((bv W).take i) []).flatten,cO (wr W) W.length ((bv W).take i) []):=by unfold qR;rw[iC];rfl
 rw[e];refine⟨a,fun x hx=>(b x hx).2,fun x hx=>?_,Ix (bO a fun x hx=>(b x hx).2) w4,?_⟩
 ·obtain⟨r,hr,hxr⟩:=List.mem_flatten.mp hx
  obtain⟨g,_,rfl,R⟩:=d r hr;exact List.mem_flatten.mpr ⟨_,hr,oQ R.1 R.2.1 hxr⟩
 ·have:∀ (ks S:List Int),(cO (wr W) W.length ks S).length<=ks.length:=by
   intro ks
   induction ks with
   | nil=>intro S;exact Hv _
   | cons g ks ih =>
    intro S;unfold cO;split
    ·exact Nat.le_succ_of_le (ih S)
    ·rw[IN,IN]
     have:=ih (S++dI (wr W) W.length g);omega
  have h1:=this ((bv W).take i) [];rw[Io]at h1
  show (cO (wr W) W.length ((bv W).take i) []).length<=i
  omega
theorem xh {W:List (Int×Int)}(P:xw W):(yp W).length<=W.length/\∀ r∈yp W,r.length<=W.length:=by
 obtain⟨w1,w2,w3,w4⟩:=P.wrong;have h:=Ft P (bv W).length;rw[Ew W (Hv _)]at h;refine⟨by omega,fun r hr=>?_⟩;obtain⟨g,hg,rfl,R⟩:=(l7 P.inj w3 w4 (bv W) [] (fun x h=>h) (fun x h=>by cases h)).2.2.2 r hr;rw[zW];exact P.ord_le (w1 g hg).1
end Wz
namespace L2
open PySem PySem.Spec PyProof.Rows
theorem xC {X:Cx}:eX X (.type "dict") (fun xs H Q=>∃ p kvs,xs=[.ref p]/\H p=some (.dK kvs)/\∀ l,H l=none->Q (.ref l) (upd H l (.dK kvs))):=by
 intro pins s σ H xs us Q I r h;obtain⟨p,kvs,rfl,hp,q⟩:=h;obtain⟨u,rfl,rx⟩:=jP r;cases rx;obtain⟨hz,hS,vs,rv,m⟩:kvs.length<=sizeLine/\(p == sysModules)=false/\∃ vs,KV kvs vs/\s.heap.DictOf (be X.prog X.w) p vs:=I.hok p _ hp;have hlen:kvs.length=vs.length:=Ic rv;refine kt_call_dict hS m (by omega) fun h' hm hs=>?_;have kp:∀ b o',s.heap.get? b=some o'->h'.get? b=some o':=fun b o' e=>hs.extBut b o' (Ib (HQ e)) (Heap.get?_push_of_some _ e);have e0:bb X.prog X.w (upd H s.heap.objs.size (.dK [])) _ s.heap.objs.size (.dK []):=lu s.heap I.big;have e1:(s.heap.objs.size == sysModules)=false:=e0.2.1;exact⟨.ref s.heap.objs.size,_,I.laid (t':=s.toks) kp (Hv _) (show bb X.prog X.w _ h' _ (.dK kvs) from ⟨hz,e1,vs,rv,hm⟩),rfl,q _ (I.hok.fresh (Hv _))⟩
theorem E8 (xs:List V):iA xs (some 1) none=xs.drop 1:=by
 unfold iA;rw[show HT.sIx xs.length 0 (some 1)=min 1 xs.length from HT.sIx_nat _ _ 1,HT.sIx_none]
 by_cases h:xs=[]
 ·subst h;rfl
 ·have:0<xs.length:=List.length_pos_iff.mpr h
  rw[show min 1 xs.length=1 by omega,List.take_of_length_le (by rw[JT];omega)]
end L2
namespace Wz
open PySem L2
theorem jV {W:List (Int×Int)}{ps:List (Int×Int)}(nd:(ak W).Nodup)(h:∀ p∈ps,p.1∈ak W/\p.2∈ak W):(aX W ps).length<=W.length:=by
 have:=bO (jC ps nd) (m:=ak W) fun x hx=>by
  rcases (m5 ps).mp hx with z | ⟨p,hp,e⟩
  ·exact z
  ·rcases e with rfl | rfl
   ·exact (h p hp).1
   ·exact (h p hp).2
 rwa [lI,lI]at this
theorem zF {ns:List Int}{k:Int}{n:Nat}(h0:0<=k)(h:k<n):cX (ns.take n) k=cX ns k:=by
 unfold cX;rw[Io]
 by_cases hk:k<(ns.length:Int)
 ·rw[Hw hk,Hw (by omega),List.getD_eq_getElem?_getD,List.getD_eq_getElem?_getD,List.getElem?_take_of_lt (by omega)]
 ·rw[Hu hk,Hu (by omega)]
end Wz
namespace L2
open PySem PySem.Spec PyProof.Rows PySem.Calls
section
variable {X:Cx}{pins:List (Addr×Obj)}{σ:St}{H H':Hp}{s:Shared}
end
section
variable {prog:Program}{w:World}{A:Around}{E:Value->Shared->Prop}{s:Shared}
end
end L2
namespace Wz
open PySem L2
theorem Aj {r:List Int}(nd:r.Nodup){p:Int×Int}(h:p∈bA r):p.1≠p.2/\p.1∈r/\p.2∈r:=by
 unfold bA at h;obtain⟨i,hi⟩:=List.getElem?_of_mem h;obtain⟨e1,e2⟩:=List.getElem?_zip_eq_some.mp hi;rw[List.getElem?_drop]at e2;refine⟨fun z=>?_,Hx e1,Hx e2⟩;have hl:=(List.getElem?_eq_some_iff.mp e1).1;rw[z]at e1;have:=(List.getElem?_inj hl nd).mp (e1.trans e2.symm);omega
inductive pN (vs:List V) (H:Hp) (Q:VK) (E_:XK):Prop
 | mk (w:Addr) (W:List (Int×Int)) (g:Int) (h_0:vs=[.ref w,.int g]) (h_1:H w=some (.dK (dk W))) (h_2:W.length<64) (h_3:xw W) (h_4:g∈ak W) (h_5:∀ (l:Addr)(H':Hp),H l=none->aB H H'->H' l=some (.lst ((dI (wr W) W.length g).map V.int))->Q (.ref l) H'):pN vs H Q E_
end Wz
namespace L2
open PySem PySem.Spec PyProof.Rows
end L2
namespace Wz
open PySem L2
end Wz
namespace L2
open PySem PySem.Spec PyProof.Rows
end L2
namespace Wz
open PySem L2
end Wz
namespace L2
open PySem PySem.Spec PyProof.Rows
theorem zG {X:Cx}{pins:List (Addr×Obj)}{σ:St}{H:Hp}{s:Shared}{a:Addr}{v:V}{u r:Value}{A:Around}{E:Value->Shared->Prop}{kvs:List (bP×V)}{k:bP}{Q:Unit->Shared->Prop}(I:ax X pins σ H s)(e:H a=some (.dK kvs))(l:kvs.length<sizeLine)(ry:aO (kV k) u)(rv:aO v r)(h:∀ s',ax X pins σ (upd H a (.dK (dq kvs k v))) s'->Q () s') :
  wpAny (model X.prog X.w) A (dictSet a u r) Q E s:=by
 obtain⟨z,hd,vs,rel,dd⟩:=wg I.hok e
 have hz:vs.length<=sizeLine:=by rw[<-rel.length];exact z
 have hl:(dq kvs k v).length<=sizeLine:=by have:=eC kvs k v;omega
 refine wpAny_dictSet_pairs (hsz:=hz) (kq ry) dd fun h' dd' hs=>h _ ?_;have he:∃ q,h'.get? a=some q:=let ⟨q,_,_,hq,_⟩:=dd';⟨q,hq⟩;exact jS I (by rw[e];exact True.intro) hs he (qc hl hd (rel.put k rv) dd')
theorem jf {prog:Program}{w:World}{A:Around}{R:Result->Shared->Prop}{s:Shared}{kx vx target iter:Expr}{ifs:List Expr}{scope:Scope}{pos:Pos}{it:Value}{acc:Addr}{env:Env}(I:Nat->Shared->Prop)
  (turn:∀ n s,I n s->wpAny (model prog w) A (pyNext it) (fun r s₁=>match r with
   | none=>R (.ok .next) s₁
   | some v=>wpAny (model prog w) A (letOwnedTupleGo target it v) (fun _ s₁'=>wpAny (model prog w) A (assign target env v) (fun _ s₂ =>
     wpAny (model prog w) A (forIn ifs true fun c r=>if r=true then do let ok <-isTrue c env (eval c env);pure (ForInStep.yield ok) else pure (ForInStep.yield r)) (fun ok s₃ =>
      if ok=true then wpAny (model prog w) A (eval kx env) (fun kv s₄=>wpAny (model prog w) A (eval vx env) (fun vv s₅ =>
       wpAny (model prog w) A (dictSet acc kv vv) (fun _ s₆=>∃ m,m<n/\I m s₆) (fun _ _=>False) s₅) (fun _ _=>False) s₄) (fun _ _=>False) s₃
      else ∃ m,m<n/\I m s₃) (fun _ _=>False) s₂) (fun _ _=>False) s₁') (fun _ _=>False) s₁) (fun _ _=>False) s)
  (n:Nat) (h:I n s) :
  codeAny (model prog w) A (.compLoop (.DictComp kx vx [⟨target,iter,ifs,0⟩] scope pos) 0 it (.ref acc) env) R s:=by
 refine codeAny_loop rfl I (fun n s hI=>?_) n h
 show wpAny _ A ((compTurn (.DictComp kx vx [⟨target,iter,ifs,0⟩] scope pos) 0 it (.ref acc) env).onRaise (fun x=>do noteFrame x env;theTreesLotGoes x)) _ _ s
 refine wpAny_noted ?_;rw[compTurn_dict];refine Ht (IT (Ht (Il (turn n s hI) (fun r s₁ h₁=>?_) fun _ _ h'=>h'.elim)))
 cases r with
 | none=>exact Hz h₁
 | some v =>
  refine Ht (Il h₁ (fun _ s₁' h₁'=>?_) fun _ _ h'=>h'.elim);refine Ht (Il h₁' (fun _ s₂ h₂=>Ht (Il h₂ (fun ok s₃ h₃=>?_) fun _ _ h'=>h'.elim)) fun _ _ h'=>h'.elim)
  cases ok with
  | false=>exact Hz ⟨rfl,h₃⟩
  | true =>
   exact Ht (Ht (Il h₃ (fun kv s₄ h₄=>Ht (Jf (Il h₄ (fun vv s₅ h₅=>Ht (IT (Jf (Il h₅ (fun _ s₆ h₆=>Hz ⟨rfl,h₆⟩) fun _ _ h'=>h'.elim)))) fun _ _ h'=>h'.elim))) fun _ _ h'=>h'.elim))
def GM (tt:TT)(tk tv:TE)(a:Addr):TS:=fun D σ H=>tt σ H fun b H1=>if b=true then tk σ H1 fun y H2=>tv σ H2 fun z H3=>∃ kvs k,H3 a=some (.dK kvs)/\y=kV k/\kvs.length<sizeLine/\D.nx σ (upd H3 a (.dK (dq kvs k z))) else D.nx σ H1
open PySem
theorem Dw {tk tv:TE}{a:Addr}{D:im}{σ:St}{H:Hp}(h:tk σ H fun y H2=>tv σ H2 fun z H3=>∃ kvs k,H3 a=some (.dK kvs)/\y=kV k/\kvs.length<sizeLine/\D.nx σ (upd H3 a (.dK (dq kvs k z)))):GM sP tk tv a D σ H:=by
 unfold GM sP;dsimp only;rw[Hw rfl];exact h
end L2
namespace Wz
open PySem L2
end Wz
namespace L2
open PySem PySem.Spec PyProof.Rows
end L2
namespace Wz
open PySem L2
structure GQ (K:PySem.W.Frag)(mg:Str->Option Value)(o:Addr):Prop where
 e:eL K o
 m:mg "NoWay" = some (.ref o)
 x:PySem.W.exmOne K (.ref o) (.ref o)=some true
theorem ux (xs:List V):iA xs none (some (-1))=xs.dropLast:=by
 unfold iA;rw[HT.sIx_none,List.drop_zero,Nat.sub_zero,List.dropLast_eq_take]
 congr 1
 unfold HT.sIx;dsimp only;rw[Hw (by decide)];omega
open L2
end Wz
namespace L2
open PySem PySem.Spec PyProof.Rows
end L2
namespace Wz
open PySem L2
end Wz
namespace L2
open PySem PySem.Spec PyProof.Rows PySem.Calls
def EW (K:PySem.W.Frag)(a:Addr)(xs:List V):It :=
 ⟨fun i H=>aL K H a xs/\i<xs.length,fun i H x H'=>H'=H/\xs.reverse[i]? = some x,fun i H=>aL K H a xs/\xs.length<=i⟩
theorem Ca {P:Program}{w:World}{K:PySem.W.Frag}{tg:Expr}(a it:Addr)(hne:a≠it)(xs:List V):vT P w K tg (EW K a xs) [it] it (fun i h=>i<=xs.length/\h.IsRevIter it a ((xs.length:Int)-1-i)) where
 mem:=by simp
 obj:=fun i h st b hb=>by
  have e:b=it:=by simpa using hb
  subst e;obtain⟨_,o,e,c,d⟩:=st;exact⟨o,e,fun v z=>by rw[d]at z;cases z⟩
 keep:=fun i h h' st k=>⟨st.1,st.2.at fun o e=>k it (by simp) o e⟩
 item:=by
  intro X hP hw hK hc i pins s σ H E I hf st hg;subst hP hw hK;obtain⟨hq,hi⟩:=hg;obtain⟨its,rv,pl,hz⟩:=I.list hq;obtain⟨f0,f1,f2,f3,f4,f5⟩:=hf it (by simp);have hl:=rv.length;have W:=Walks.listRev (prog:=X.prog) (w:=X.w) (A:=X.A) (I.ok.hd hc) it a hne its.toArray;refine W.item i s _ _ (by rw[HU];omega) ⟨by rw[HU];omega,by rw[HU,<-hl];exact st.2,pl.isList⟩ fun v h' tk hv st' hk=>?_;obtain⟨s1,s2,s3⟩:=st';rw[HU]at s1 s2 hv;have I1:ax X pins σ H { s with heap:=h',toks:=tk }:=I.turned (t':=tk) (fun b o hb e=>hk b o (by simpa using hb) e) f0 f1 f3 f4 f5;obtain⟨o,e,c,d⟩:=id s2;have er:xs.reverse[i]? = xs[xs.length-1-i]?:=List.getElem?_reverse hi;obtain⟨x,hx⟩:∃ x,xs[xs.length-1-i]? = some x:=⟨_,List.getElem?_eq_getElem (by omega)⟩;obtain⟨u,hu,ru⟩:=rv.get hx
  have hv':its[its.length-1-i]? = some v:=by simpa using hv
  rw[hl]at hu;rw[hu]at hv';have euv:u=v:=Hy hv';subst euv;refine⟨u,rfl,wu (s:={ s with heap:=h',toks:=tk }) e c d (by decide) ⟨x,H,I1,ru,⟨rfl,er.trans hx⟩,⟨by omega,?_⟩,fun b hb=>(hf b hb).1⟩⟩;rw[hl];exact s2
 done:=by
  intro X hP hw hK hc i pins s σ H E I hf st hg;subst hP hw hK;obtain⟨hq,hi⟩:=hg;obtain⟨its,rv,pl,hz⟩:=I.list hq;obtain⟨f0,f1,f2,f3,f4,f5⟩:=hf it (by simp);have hl:=rv.length;have ei:i=xs.length:=Nat.le_antisymm st.1 hi;subst ei;have W:=Walks.listRev (prog:=X.prog) (w:=X.w) (A:=X.A) (I.ok.hd hc) it a hne its.toArray;refine W.done s _ _ ⟨by rw[HU];omega,by rw[HU,<-hl];exact st.2,pl.isList⟩ fun h' tk hk=>⟨rfl,I.turned (t':=tk) (fun b o hb e=>hk b o (by simpa using hb) e) f0 f1 f3 f4 f5⟩
 self:=fun _ _ _ _ _ st h=>wpAny_pyIter_revIter st.2 h
def Gi (K:PySem.W.Frag)(te:TE):TI:=fun σ H R=>te σ H fun x H1=>∃ a xs,x=.ref a/\aL K H1 a xs/\R (EW K a xs) H1
theorem Ep {X:Cx}{tg e:Expr}{te:TE}{p pos:Pos}(he:PE X e te)(hg:Gl X "reversed")(hm:X.mg "reversed" = none)(hs:starEach [e] X.env=[(false,eval e X.env)]:=by rfl):PI X tg (.Call (.Name "reversed" p) [e] [] pos) (Gi X.K te):=by
 intro pins s σ H R I h;refine IX (mY I hg hm boot_reversed ?_ (by decide) (by decide));refine JH ?_ hs rfl;rw[hs];refine spliced_cons (bc (he pins s σ H _ I h) fun u s1 ⟨x,H1,I1,rx,a,xs,ex,hq,q⟩=>spliced_nil ?_);subst ex;cases rx;obtain⟨its,rv,pl,hz⟩:=I1.list hq
 have hlt:a<s1.heap.objs.size:=by obtain⟨o,n,e,_⟩:=pl;exact HQ e
 have hl:=rv.length;refine call_reversed_list pl.isList ?_;refine wpAny_pyIter_revIter (s:={ s1 with heap:=s1.heap.push (revObj a ((its.toArray.size:Int)-1)) }) (i:=(its.toArray.size:Int)-1) ⟨_,Heap.get?_push_size _ rfl,rfl,rfl⟩ ?_;refine⟨s1.heap.objs.size,[s1.heap.objs.size],_,_,H1,rfl,I1.kept (t':=s1.toks) fun b o e=>Heap.get?_push_of_some _ e,Ca a _ (Ib hlt) xs,⟨Ip _,?_⟩,fun b hb=>?_,q⟩
 ·rw[show ((xs.length:Int)-1-((0:Nat):Int))=(its.toArray.size:Int)-1 by rw[HU,hl];simp]
  exact⟨_,Heap.get?_push_size _ rfl,rfl,rfl⟩
 ·have e:b=s1.heap.objs.size:=by simpa using hb
  subst e;exact I1.fpOk (Hv _) (I1.hok.fresh (Hv _))
theorem CL {K:PySem.W.Frag}{a:Addr}{xs:List V}{g:TG}{tb:TS}{D:im}{σ:St}{H:Hp}(Pv:Nat->St->Hp->Prop)(h0:Pv 0 σ H)(hl:∀ i σ H,i<=xs.length->Pv i σ H->aL K H a xs)
  (hs:∀ i x σ H,xs.reverse[i]? = some x->Pv i σ H->g x σ H fun σ2 H2=>tb { D with nx:=Pv (i+1),ct:=Pv (i+1),bk:=D.nx } σ2 H2) (hd:∀ σ H,Pv xs.length σ H->D.nx σ H) :
  ∃ W:Nat->Nat->St->Hp->Prop,(∃ m,W 0 m σ H)/\∀ i m σ H,W i m σ H ->
   ((EW K a xs).stop i H/\D.nx σ H)\/((EW K a xs).go i H/\∃ N:St->Hp->Prop,(∀ σ' H',N σ' H'->∃ m',m'<m/\W (i+1) m' σ' H')/\∀ x H',(EW K a xs).yld i H x H'->g x σ H' fun σ2 H2=>tb { D with nx:=N,ct:=N,bk:=D.nx } σ2 H2):=by
 refine⟨fun i m σ H=>m=xs.length-i/\i<=xs.length/\Pv i σ H,⟨xs.length,by simp,Ip _,h0⟩,?_⟩;rintro i m σ H ⟨rfl,hi,p⟩;have q:=hl i σ H hi p
 by_cases hlt:i<xs.length
 ·refine .inr ⟨⟨q,hlt⟩,Pv (i+1),fun σ' H' p'=>⟨xs.length-(i+1),by omega,rfl,hlt,p'⟩,fun x H' y=>?_⟩
  obtain⟨e,hx⟩:=y;subst e;exact hs i x σ _ hx p
 ·have e:i=xs.length:=by omega
  subst e;exact .inl ⟨⟨q,Hv _⟩,hd σ H p⟩
end L2
namespace Wz
open PySem L2
theorem BY {HH:Hp}{q t:Addr}{ds:List Addr}{ps:List (Int×Int)}{a b:Int}(h1:HH q=some (.lst (ds.map V.ref)))(h2:Paired (fun b (e:Int×Int)=>HH b=some (.tup [.int e.1,.int e.2])) ds ps)(ht:HH t=none) :
  bJ (upd (upd HH t (.tup [.int a,.int b])) q (.lst (ds.map V.ref++[V.ref t]))) q (ps++[(a,b)]):=by
 refine⟨ds++[t],by rw[ac,Ii];rfl,?_⟩;exact bx (Paired.mapP h2 fun b e y=>by rw[ae (bY y h1 (by intro u;cases u))];exact (ah ht) _ _ y) (.cons (by rw[ae ((aj h1 ht).symm),ac]) .nil)
theorem Dl {HH:Hp}{q:Addr}{ds cs:List Addr}{ps ps':List (Int×Int)}(h1:HH q=some (.lst (ds.map V.ref)))(h2:Paired (fun b (e:Int×Int)=>HH b=some (.tup [.int e.1,.int e.2])) ds ps)(h3:Paired (fun b (e:Int×Int)=>HH b=some (.tup [.int e.1,.int e.2])) cs ps') :
  bJ (upd HH q (.lst (ds.map V.ref++cs.map V.ref))) q (ps++ps'):=by
 refine⟨ds++cs,by rw[ac,Ii],?_⟩;exact bx (Paired.mapP h2 fun b e y=>by rw[ae (bY y h1 (by intro u;cases u))];exact y) (Paired.mapP h3 fun b e y=>by rw[ae (bY y h1 (by intro u;cases u))];exact y)
theorem Ai {K:PySem.W.Frag}{te:TE}{Qf:Hp->Prop}{lr q:Addr}{α:Type}{f:α->V}{pr:α->Int×Int}{zs:List α}{rest:St}{H:Hp}(hq:H q=none)(h1:H lr=some (.lst (zs.map f)))(hlen:zs.length<=1000)
  (ht:∀ (i:Nat)(z:α)(HK:Hp)(Q':VK),zs[i]? = some z->aB H HK->(∀ (t:Addr),HK t=none->Q' (.ref t) (upd HK t (.tup [.int (pr z).1,.int (pr z).2])))->te (some (f z)::rest) HK Q')
  (k:∀ (HK:Hp),aB H HK->bJ HK q (zs.map pr)->Qf HK) :
  i8 (Co K lr) (lC 0) (Aw sP te q) { nx:=fun _ H'=>Qf H',rt:=fun _ _=>False } (none::rest) (upd H q (.lst [])):=by
 refine bj (K:=K) (a:=lr) (xs:=zs.map f) (fun i σ HK=>∃ v:Option V,σ=v::rest/\aB H HK/\bJ HK q ((zs.take i).map pr))
  ⟨none,rfl,ah hq,[],ac,.nil⟩ (fun i σ HK _ ⟨_,_,s2,_⟩=>aL.of (s2 _ _ h1)) ?_ ?_
 ·rintro i y σ HK hi ⟨v,rfl,t1,ds,hq2,pd⟩
  obtain⟨z,hz,rfl⟩:=aY hi;have hil:i<zs.length:=(List.getElem?_eq_some_iff.mp hz).1;have dl:=Ic pd;rw[Hs,Io]at dl;refine jZ (ht i z HK _ hz t1 fun t ht=>?_);refine⟨_,(ah ht) _ _ hq2,by rw[Hs];exact aG (by omega),_,rfl,aZ (t1.trans (ah ht)) hq,?_⟩;rw[Iv,hz,ID,Ii];exact BY hq2 pd ht
 ·rintro σ HK ⟨v,rfl,t1,row⟩
  rw[Hs,Ir]at row;exact k HK t1 row
open L2
section
variable {st:b7}
end
section
variable {st:b7}{ml:List (Int×Int)}
end
end Wz
namespace L2
open PySem
theorem cx.m {j k:Nat}{A:Around}(r:cx k A)(h:j<=k:=by decide):cx j A:=r.mono h
theorem eZ {X:Cx}{e:Expr}{t:TE}(h:PE X e t)(hs:starEach [e] X.env=(false,eval e X.env)::starEach [] X.env:=by rfl):PA X [e] (rL t vI):=aq h aI hs
theorem fF {X:Cx}{e e2:Expr}{t t2:TE}(h:PE X e t)(h2:PE X e2 t2)(hs:starEach [e,e2] X.env=(false,eval e X.env)::starEach [e2] X.env:=by rfl)(hs2:starEach [e2] X.env=(false,eval e2 X.env)::starEach [] X.env:=by rfl):PA X [e,e2] (rL t (rL t2 vI)):=aq h (aq h2 aI hs2) hs
theorem C9 {X:Cx}{e e2 e3:Expr}{t t2 t3:TE}(h:PE X e t)(h2:PE X e2 t2)(h3:PE X e3 t3)(hs:starEach [e,e2,e3] X.env=(false,eval e X.env)::starEach [e2,e3] X.env:=by rfl)(hs2:starEach [e2,e3] X.env=(false,eval e2 X.env)::starEach [e3] X.env:=by rfl)(hs3:starEach [e3] X.env=(false,eval e3 X.env)::starEach [] X.env:=by rfl):PA X [e,e2,e3] (rL t (rL t2 (rL t3 vI))):=aq h (aq h2 (aq h3 aI hs3) hs2) hs
theorem bB {X:Cx}{pos:Pos}(i:Nat){x:Str}{e:Expr}{te:TE}{pos':Pos}(hN:X.N.Nodup)(he:PE X e te)(hi:X.N[i]? = some x:=by rfl)(hx:DZ X.env.scope x:=by first | exact Or.inl rfl | exact Or.inr rfl)(hs:swapsWith e (some (.Name x pos')) pos.line X.env=pure false:=by rfl)(hf:X.fn x=true\/X.env.scope.names.lookup x=some .local:=by first | exact .inl rfl | exact .inr rfl | assumption) :
  PS X (.Assign [.Name x pos'] e pos) (EB te (lC i)):=cZ hN hi hx he hs hf
theorem j7 {X:Cx}{pos:Pos}(i:Nat){x:Str}(hN:X.N.Nodup)(hi:X.N[i]? = some x:=by rfl)(hx:DZ X.env.scope x:=by first | exact Or.inl rfl | exact Or.inr rfl)(hf:X.fn x=true\/X.env.scope.names.lookup x=some .local:=by first | exact .inl rfl | exact .inr rfl | assumption):PG X (.Name x pos) (lC i):=gq hN hi hx hf
theorem xH {so sc:Scope}{N N':List Str}{src:List (Option Nat)}(a:sc.kind=.function:=by rfl)(b:∀ y∈sc.names,y.2≠.cell:=by decide +kernel)(c:∀ y∈sc.names,y.2=.local->sc.names.lookup y.1=some .local:=by decide +kernel)(d:∀ y∈sc.names,y.2=.free->so.names.lookup y.1=some .cell\/so.names.lookup y.1=some .free:=by decide +kernel)(e:N'.Nodup:=by decide +kernel)(f:src.length=N'.length:=by rfl)
  (g:∀ p∈N'.zip src,(match p.2 with | none=>true | some j=>decide (N[j]? = some p.1/\sc.names.lookup p.1=some .free))=true:=by decide +kernel):sV so sc N N' src:=⟨a,b,c,d,e,f,g⟩
theorem fb {N P:List Str}{sc:Scope}(a:sc.kind=.function:=by rfl)(b:sc.isCoroutine=false:=by rfl)(c:sc.isGenerator=false:=by rfl)(d:N.Nodup:=by decide +kernel)(e:N.take P.length=P:=by rfl)(f:∀ x∈P,sc.names.lookup x=some .local\/sc.names.lookup x=some .cell:=by decide +kernel)(g:∀ y∈sc.names,y.2≠.free:=by decide +kernel):au N P sc:=⟨a,b,c,d,e,f,g⟩
end L2
namespace Wz
open PySem L2
def ba (K:PySem.W.Frag)(x:Str)(st:Stmt):Prop:=∃ (f:Addr)(fd:FuncData),PySem.W.nsIn K mainGlobals x=some (some (.ref f))/\dv K x x st f fd
theorem fact_mk {K:PySem.W.Frag}{x:Str}{st:Stmt}{f:Addr}{oc:Value}{od an:Option Addr}{osl:Array (Option Value)}{kV doc pm cdv ct:Value}(a:PySem.W.nsIn K mainGlobals x=some (some (.ref f)))(l:K.lookup f=some ⟨oc,od,.func (PySem.W.fnOf x x (e9 st) (c8 st) (ai st) .none kV doc pm an cdv ct),osl⟩)
  (c:PySem.W.codeIn K cdv x=true) (k:PySem.W.keepIn K (.ref f)=true):ba K x st:=⟨f,_,a,A1 l c k⟩
def cK (K:PySem.W.Frag)(C:Addr)(m q:Str)(st:Stmt):Prop:=∃ (f:Addr)(fd:FuncData),PySem.W.findIn K (.ref C) m=some (some (.ref f))/\PySem.W.isFn K (.ref f)=true/\dv K m q st f fd
theorem mfact_mk {K:PySem.W.Frag}{C:Addr}{m q:Str}{st:Stmt}{f:Addr}{oc:Value}{od an:Option Addr}{osl:Array (Option Value)}{kV doc pm cdv ct:Value}(a:PySem.W.findIn K (.ref C) m=some (some (.ref f)))(i:PySem.W.isFn K (.ref f)=true)(l:K.lookup f=some ⟨oc,od,.func (PySem.W.fnOf m q (e9 st) (c8 st) (ai st) .none kV doc pm an cdv ct),osl⟩)
  (c:PySem.W.codeIn K cdv q=true) (k:PySem.W.keepIn K (.ref f)=true):cK K C m q st:=⟨f,_,a,i,A1 l c k⟩
section
variable {P:Program}{w:World}{K:PySem.W.Frag}{h base:Heap}{mg:Str->Option Value}{x m q:Str}{st:Stmt}{k:Nat}{ps:List Str}{sp:Sp}{C:Addr}{CX:rP}
theorem Ff {n:Nat}{P:List Value->Prop}(h:∀ (a:Value)(vs:List Value),vs.length=n->P (a::vs)):∀ us:List Value,us.length=n+1->P us
 | a::vs,e=>h a vs (Nat.succ.inj e)
theorem Fe {P:List Value->Prop}(h:P []):∀ us:List Value,us.length=0->P us
 | [],_=>h
theorem m7 (X:K.In h)(G:h.Ns mainGlobals mg)(F:ba K x st)(ok:∀ f fd,dv K x x st f fd->aS P w K mg base cJ k f fd ps sp)
  (hb:∀ (kV doc pm:Value)(an:Option Addr)(cdv ct:Value)(us:List Value),us.length=ps.length->bindArgs (PySem.W.fnOf x x (e9 st) (c8 st) (ai st) .none kV doc pm an cdv ct) ⟨us,[]⟩=pure (ps.zip us):=by intro _ _ _ _ _ _;(repeat refine Ff fun _=>?_);exact Fe rfl):ay P w K mg base x k ps sp:=by
 obtain⟨f,fd,a,g⟩:=F;exact⟨f,fd,ok f fd g,IU X G a,g.kp,g.binds hb⟩
theorem Gp (X:K.In h)(G:h.Ns mainGlobals mg)(F:ba K x st)(ok:∀ f fd,dv K x x st f fd->aS P w K mg base (iY P w) k f fd ps sp)
  (hb:∀ (kV doc pm:Value)(an:Option Addr)(cdv ct:Value)(us:List Value),us.length=ps.length->bindArgs (PySem.W.fnOf x x (e9 st) (c8 st) (ai st) .none kV doc pm an cdv ct) ⟨us,[]⟩=pure (ps.zip us):=by intro _ _ _ _ _ _;(repeat refine Ff fun _=>?_);exact Fe rfl):XCallee P w K mg base x k ps sp:=by
 obtain⟨f,fd,a,g⟩:=F;exact⟨f,fd,ok f fd g,IU X G a,g.kp,g.binds hb⟩
theorem yW (F:cK K C m q st)(ok:∀ f fd,dv K m q st f fd->aS P w K mg base CX k f fd ps sp)
  (hb:∀ (kV doc pm:Value)(an:Option Addr)(cdv ct:Value)(us:List Value),us.length=ps.length->bindArgs (PySem.W.fnOf m q (e9 st) (c8 st) (ai st) .none kV doc pm an cdv ct) ⟨us,[]⟩=pure (ps.zip us):=by intro _ _ _ _ _ _;(repeat refine Ff fun _=>?_);exact Fe rfl):aK P w K mg base CX C m k ps sp:=by
 obtain⟨f,fd,a,i,g⟩:=F;exact⟨f,fd,ok f fd g,⟨a,i,g.kp⟩,g.binds hb⟩
end
end Wz
namespace L2
open PySem PySem.Spec PyProof.Rows
end L2
namespace Wz
open PySem L2
open L2
end Wz
namespace PySem
open Sem (wp)
section
variable {M:Model}{A:Around}{E:Value->Shared->Prop}{s:Shared}{env:Env}
def ES (M:Model)(A:Around)(E:Value->Shared->Prop)(use:Option (Value->Sem Unit))(Q:Value->Shared->Prop)(acc:Value)(C:Addr)(fr:Option Addr)(r:Result)(s':Shared):Prop :=
 match r,use with
 | .ok _,none=>∃ m,s'.heap.Ns C m/\∀ h',Heap.SameBut C s'.heap h'->Q acc { s' with heap:=h' }
 | .ok _,some u=>wpAny M A (u acc) (fun _ s''=>∃ m,s''.heap.Ns C m/\∀ h',Heap.SameBut C s''.heap h'->Q .none { s'' with heap:=h' }) E s'
 | .error x,_=>∃ m,s'.heap.Ns C m/\∀ h',Heap.SameBut C s'.heap h'->∀ cenv:Env,cenv.frame=fr->wpAny M A (passOn "comprehension.variables-let-go" x cenv:Sem Value) (fun _ _=>False) E { s' with heap:=h' }
end
end PySem
namespace L2
open PySem PySem.Spec PyProof.Rows
section
variable {M:Model}{A:Around}{E:Value->Shared->Prop}{s:Shared}{B:Heap}{env:Env}{outer:List Env}{L e:Addr}{od:Option Addr}{c:Value}
end
section
variable {P:Program}{w:World}{K:PySem.W.Frag}{mg:Str->Option Value}{base:Heap}{N:List Str}{qual:Str}{sc:Scope}{f:Addr}{cd:Value}{A:Around}{outer:List Env}{s0:Shared}{H0:Hp}{E:XK}
end
def vS (CX:rP)(X:Cx)(σ:St)(E:XK):Prop:=∀ (pins:List (Addr×Obj))(H:Hp)(s:Shared)(e:Value)(s':Shared),ax X pins σ H s->CX X.stack H s E e s'->X.xe e s'
theorem Dj {X:Cx}{k:Nat}{ps:List Str}{sp:Sp}{E:St->XK}{x:Str}{p pos:Pos}{e:Expr}{es:List Expr}{t:TA}(M:Wz.XCallee X.prog X.w X.K X.mg X.base x k ps sp)(hr:cx k X.A)(hg:Gl X x)(hx:∀ σ,vS (iY X.prog X.w) X σ (E σ))(ha:PA X (e::es) t)
  (hdb:(x == ("__debug__" : Str))=false:=by decide) (he:starEach (e::es) X.env=(false,eval e X.env)::starEach es X.env:=by rfl) (hpl:(backTo pos (starEach es X.env)).any (·.1)=false:=by rfl) :
  PE X (.Call (.Name x p) (e::es) [] pos) (fun σ H Q=>zo sp [] (E σ) t σ H Q):=by
 obtain⟨f,fd,F,hm,hk,hb⟩:=M;intro pins s σ H Q I h;refine IX (gj I hg hm ?_ hdb);refine PySem.W.callWith_K (h₀:=X.base) I.ok.mod.kin hk (bc (ha pos pins s σ H _ I h) fun us s1 ⟨vs,H1,I1,r,q⟩=>⟨I1.kIn,?_⟩) he hpl;have r2:aQ (vs++[]) (us++[]):=r.append .nil
 have hl:(us++[]).length=ps.length:=by rw[<-r2.length];exact F.len _ _ _ _ q
 refine Ka (Jx (F.run X.A X.stack s1 H1 ⟨us,[]⟩ (us++[]) (vs++[]) Q (E σ) hr I1.env0 (hb s1 us I1.kIn hl) r2 q) fun r s' hq=>?_)
 cases r with
 | error e=>exact hx σ pins H1 s1 e s' I1 hq
 | ok fl =>
  cases fl with
  | ret u=>exact I1.after hq
  | next=>exact False.elim hq
  | brk=>exact False.elim hq
  | cont=>exact False.elim hq
def G5 (X:Cx)(pins:List (Addr×Obj))(E:St->XK)(e:Value)(s':Shared):Prop:=∃ (σ:St)(H:Hp)(ea C:Addr)(od:Option Addr)(B:Heap),e=.ref ea/\DY X pins σ H ea C od B s'/\k8 B X.stack ea (.ref C) od s'.heap/\σ.length=X.N.length/\E σ (.ref C) od H
theorem El {X:Cx}{pins:List (Addr×Obj)}{E:St->XK}(σ:St):vS (iY X.prog X.w) (X.tried pins (G5 X pins E)) σ (E σ):=by
 intro qins H s e s' I hc;obtain⟨ea,C,od,H',B,rfl,fl,un,hok,os,bare,hsB,trB,hE⟩:=hc;exact⟨σ,H',ea,C,od,B,rfl,C3 I.untried fl un hok os bare hsB trB,fl,I.len,hE⟩
theorem Dh {X:Cx}{b0:Stmt}{bs:List Stmt}{hd0:ExceptHandler}{hdl:List ExceptHandler}{tb:(St->XK)->TS}{th:Value->Option Addr->TS}{pos:Pos}
  (hst:X.stack=X.env::X.outer) (hfr:X.env.frame=some X.env.locals) (hb:∀ pins E,vR (X.tried pins (G5 X pins E)) (b0::bs) (tb E)) (hh:FU X (hd0::hdl) th) :
  PS X (.Try (b0::bs) (hd0::hdl) [] [] pos) (fun D σ H=>tb (fun σ' cls od H2=>th cls od D σ' H2) D σ H):=by
 intro pins s σ H D I h;refine wpAny_Try_except ?_;refine Il (hb pins _ [] s σ H D I.tried h) (fun f s1 hq=>?_) fun e s' hx=>?_
 ·cases f with
  | next=>obtain⟨σ',H',I1,q⟩:=hq;exact wpAny_execs_nil ⟨σ',H',I1.untried,q⟩
  | brk=>obtain⟨σ',H',I1,q⟩:=hq;exact⟨σ',H',I1.untried,q⟩
  | cont=>obtain⟨σ',H',I1,q⟩:=hq;exact⟨σ',H',I1.untried,q⟩
  | ret u=>obtain⟨v,σ',H',I1,r,q⟩:=hq;exact⟨v,σ',H',I1.untried,r,q⟩
 ·obtain⟨σ',H',ea,C,od,B,rfl,ld,fl,hl,hE⟩:=hx
  have fl':=fl;rw[hst]at fl';refine zY (by rw[I.ok.frames,hst]) hfr fl' fun h4 held ups4=>?_;refine Ec held fun h5 fl5 ups5=>?_;rw[<-hst]at fl5;exact hh pins σ' H' D ea C od B s' h5 ld fl5 (ups4.trans ups5) hE
end L2
namespace Wz
open PySem L2
end Wz
namespace L2
open PySem PySem.Spec PyProof.Rows
section
variable {P:Program}{w:World}{A:Around}{E:Value->Shared->Prop}{s:Shared}
end
end L2
namespace Wz
open PySem L2
theorem vV (ml:List (Int×Int))(p:Int×Int):(gK ml p).length<=ml.length+1:=by
 unfold gK;split
 ·omega
 ·rw[Ia,IC];omega
def Cy (c d:Int):Int×Int:=(wv (d%14) c,wv (d/14%14) c)
inductive mi (vs:List V) (H:Hp) (Q:VK) (E_:XK):Prop
 | mk (l:Addr) (ds:List Int) (c:Int) (h_0:vs=[.ref l,.int c]) (h_1:H l=some (.lst (ds.map V.int))) (h_2:(∀ d∈ds,0<=d)) (h_3:ds.length<=100) (h_4:∀ (l':Addr)(H':Hp),H l'=none->aB H H'->bJ H' l' (ds.map (Cy c))->Q (.ref l') H'):mi vs H Q E_
def Mu (H:Hp)(b:Addr):Prop:=(∃ k,H b=some (.dK k))\/(∃ k,H b=some (.dT k))\/∃ l,H b=some (.lst l)
theorem aE.mu {C:Addr}{H:Hp}{p:Addr}{A:HA}{st:b7}(x:aE C H p A st):∀ b∈A.fp,Mu H b:=by
 intro b hb;simp only[HA.fp,HW]at hb;rcases hb with rfl | rfl | rfl | rfl | hb
 ·exact .inl ⟨_,x.w⟩
 ·exact .inl ⟨_,x.h⟩
 ·exact .inl ⟨_,x.c⟩
 ·obtain⟨as,h,_⟩:=x.d
  exact .inr (.inr ⟨_,h⟩)
 ·obtain⟨i,hi,rfl⟩:=Jq hb
  obtain⟨y,_,q⟩:=bg x.cs (List.getElem?_eq_getElem hi);exact .inl ⟨_,q⟩
end Wz
namespace L2
open PySem PySem.Spec PyProof.Rows
open AutoSeq1 (wpAny_loadPart')
section
variable {prog:Program}{w:World}{A:Around}{E:Value->Shared->Prop}{s:Shared}
end
abbrev xY (qual:Str)(scope:Scope)(s:Shared)(f c':Addr)(y:Str)(cy:Addr):Env:=PySem.W.envX qual scope s.heap.objs.size f (.ref c') [(y,cy)]
def yI (CX:rP)(P:Program)(w:World)(K:PySem.W.Frag)(mg:Str->Option Value)(base:Heap)(N:List Str)(qual:Str)(scope:Scope)(f c':Addr)(y:Str)(cy:Addr)(A:Around)(outer:List Env)(s:Shared)(H:Hp)(E:XK):Cx where
 prog:=P
 w:=w
 K:=K
 mg:=mg
 base:=base
 A:=A.deeper (xY qual scope s f c' y cy)
 N:=N
 s₀:=s
 H₀:=H
 env:=xY qual scope s f c' y cy
 outer:=outer
 stack:=xY qual scope s f c' y cy::outer
 ex:=[]
 calm:=true
 fn:=fun _=>false
 pn:=[]
 xe:=fun e s'=>wpAny (model P w) (A.deeper (xY qual scope s f c' y cy)) (leaving (xY qual scope s f c' y cy) e) (fun _ s''=>CX outer H s E e s'') (fun e' s''=>CX outer H s E e' s'') s'
structure vO (ps:List Str)(y:Str)(sc:Scope):Prop where
 kind:sc.kind=.function
 co:sc.isCoroutine=false
 gen:sc.isGenerator=false
 nd:(ps++[y]).Nodup
 par:∀ x∈ps,sc.names.lookup x=some .local
 nocell:∀ z∈sc.names,z.2≠.cell
 fr:∀ x,sc.names.lookup x=some .free->x=y
 fry:sc.names.lookup y=some .free
structure sZ (base:Heap)(qual:Str)(params:Arguments)(body:Expr)(scope:Scope)(y:Str)(vy:V)(f c' cy:Addr)(pm ct:Value):Prop where
 ob:base.get? f=some (PySem.W.kla_obj "<lambda>" qual params body scope [(y,cy)] pm c' ct)
 cell:∃ u,aO vy u/\base.IsCell cy (some u)
def nY (H:Hp)(c':Addr)(qual:Str):Prop:=∃ oc vs t,H c'=some (.frz oc (.own c'))/\oc.data=.fields vs/\vs[1]? = some (.str qual t)
theorem nY.rec {P:Program}{w:World}{H:Hp}{h:Heap}{c':Addr}{qual:Str}(x:nY H c' qual)(ok:i7 P w H h):h.CodeRec (.ref c') qual:=by
 obtain⟨oc,vs,t,e,d,v⟩:=x;exact⟨c',oc,vs,t,rfl,(ok c' _ e).1,d,v⟩
theorem yR {α:Type}{x:Str}{u:α}:∀ {l:List (Str×α)},(l.map (·.1)).Nodup->(x,u)∈l->l.lookup x=some u
 | p::l,nd,h=>by
  rw[Iw,Iz]at nd;rw[IK];rcases HW.mp h with e | e
  ·rw[<-e];simp
  ·have ne:(x == p.1)=false:=by
    rw[I0];exact fun z=>nd.1 (by rw[<-z];exact IG (f:=(·.1)) e)
   rw[ne];exact yR nd.2 e
theorem Cm {ps:List Str}{us:List Value}{i:Nat}{x:Str}{u:Value}(nd:ps.Nodup)(hl:ps.length=us.length)(h1:ps[i]? = some x)(h2:us[i]? = some u):(ps.zip us).reverse.lookup x=some u:=by
 refine yR ?_ ?_
 ·rw[List.map_reverse,List.map_fst_zip (by omega)]
  exact (List.reverse_perm ps).nodup_iff.mpr nd
 ·rw[List.mem_reverse]
  exact Hx (i:=i) (List.getElem?_zip_eq_some.mpr ⟨h1,h2⟩)
theorem zT {CX:rP}{P:Program}{w:World}{K:PySem.W.Frag}{mg:Str->Option Value}{base:Heap}{ps:List Str}{y:Str}{qual:Str}{params:Arguments}{body:Expr}{scope:Scope}{vy:V}{f c' cy:Addr}{pm ct:Value}{A:Around}{outer:List Env}{s:Shared}{h1:Heap}{tk:Nat}{H:Hp}{E:XK}{us:List Value}{vs:List V}
  (S:vO ps y scope) (Lm:sZ base qual params body scope y vy f c' cy pm ct) (hd:A.handled=none) (e0:uk P w K mg base A outer s H) (hl:vs.length=ps.length) (r:aQ vs us)
  (hns:h1.Ns s.heap.objs.size (fun x=>(ps.zip us).reverse.lookup x)) (hk:∀ b o,s.heap.get? b=some o->h1.get? b=some o) :
  ax (yI CX P w K mg base (ps++[y]) qual scope f c' y cy A outer s H E) [] (vs.map some++[some vy]) H { s with heap:=h1,toks:=tk }:=by
 have noA:∀ b:Addr,b∉(yI CX P w K mg base (ps++[y]) qual scope f c' y cy A outer s H E).ex:=fun b z=>absurd (show b∈([]:List Addr) from z) (by simp);obtain⟨uy,ry,oc,hoc,hdc⟩:=Lm.cell
 have lk:∀ x c,List.lookup x [(y,cy)]=some c->x=y/\c=cy:=fun x c h=>by
  rw[IK]at h
  cases e:x == y with
  | true=>rw[e]at h;cases h;exact⟨eq_of_beq e,rfl⟩
  | false=>rw[e]at h;cases h
 have lky:List.lookup y [(y,cy)]=some cy:=by rw[IK,beq_self_eq_true]
 refine⟨⟨e0.mod,S.kind,rfl,rfl,Hv _,fun x z c h1 h2=>?_,fun x hx=>?_,fun x c h=>?_,fun _=>hd,Around.frames_deeper e0.frames,.inr ⟨rfl,rfl⟩,fun b z=>absurd z (noA b),e0.bs,e0.bsz,fun b _ _=>noA b,fun b z=>absurd z (noA b),e0.funs,e0.frf⟩,
  rfl,e0.bare,Un.kept hk,⟨_,hns,fun i x v h1 h2 h3=>?_⟩,fun x c h=>?_,e0.hok.fresh (Hv _),fun x c h=>?_,fun p hp=>absurd (show p∈([]:List (Addr×Obj)) from hp) (by simp),e0.hok.kept hk,?_⟩
 ·rw[(lk x c h1).1,(lk z c h2).1]
 ·have hx:scope.names.lookup x=some .cell\/scope.names.lookup x=some .free:=hx
  rcases hx with q | q
  ·exact absurd rfl (S.nocell _ (Ja q))
  ·exact⟨cy,by rw[S.fr x q];exact lky⟩
 ·cases h
 ·by_cases hi:i<ps.length
  ·have hp:ps[i]? = some x:=by
    have h1:(ps++[y])[i]? = some x:=h1;rw[List.getElem?_append_left hi]at h1;exact h1
   have ha:vs[i]? = some v:=by
    have h2:(vs.map some++[some vy])[i]? = some (some v):=h2;rw[List.getElem?_append_left (by simpa [hl] using hi),List.getElem?_map]at h2
    cases e:vs[i]? with
    | none=>rw[e]at h2;cases h2
    | some a=>rw[e]at h2;cases h2;rfl
   obtain⟨u,hu,rv⟩:=r.get ha;refine⟨u,rv,.inl ⟨S.par x (Hx hp),?_⟩⟩;exact Cm (JN.mp S.nd).1 (by rw[<-r.length,hl]) hp hu
  ·have h1:(ps++[y])[i]? = some x:=h1
   have hi2:i=ps.length:=by have:=(List.getElem?_eq_some_iff.mp h1).1;simp at this;omega
   have h2:(vs.map some++[some vy])[i]? = some (some v):=h2;rw[hi2,List.getElem?_append_right (Hv _),Nat.sub_self]at h1;rw[hi2,List.getElem?_append_right (by simp[hl]),show ps.length-(vs.map some).length=0 by simp[hl]]at h2;cases h1;cases h2;exact⟨uy,ry,.inr ⟨.inr S.fry,cy,lky,oc,hk _ _ (e0.bs _ _ hoc).1,hdc⟩⟩
 ·obtain⟨rfl,rfl⟩:=lk x c h
  exact⟨_,oc,hk _ _ (e0.bs _ _ hoc).1,hdc⟩
 ·obtain⟨rfl,rfl⟩:=lk x c h
  exact (e0.bs _ _ hoc).2
 ·show (vs.map some++[some vy]).length=(ps++[y]).length
  simp[hl]
theorem Eb {CX:rP}{P:Program}{w:World}{K:PySem.W.Frag}{mg:Str->Option Value}{base:Heap}{k:Nat}{ps:List Str}{y:Str}{qual:Str}{params:Arguments}{body:Expr}{scope:Scope}{vy:V}{f c' cy:Addr}{pm ct:Value}{sp:Sp}
  (S:vO ps y scope) (Lm:sZ base qual params body scope y vy f c' cy pm ct)
  (len:∀ vs H Q E,sp vs H Q E->vs.length=ps.length) (hcd:∀ vs H Q E,sp vs H Q E->nY H c' qual)
  (hbody:∀ (A:Around)(outer:List Env)(s:Shared)(H:Hp)(vs:List V)(Q:VK)(E:XK),cx k (A.deeper (xY qual scope s f c' y cy))->sp vs H Q E ->
   ∃ t,PE (yI CX P w K mg base (ps++[y]) qual scope f c' y cy A outer s H E) body t/\t (vs.map some++[some vy]) H Q) :
  aS P w K mg base CX (k+1) f (PySem.W.kla_fn "<lambda>" qual params body scope [(y,cy)] pm (.ref c') ct) ps sp:=by
 refine⟨len,fun A outer s H args us vs Q E hr e0 hb r hsp=>?_⟩;have hl:=len _ _ _ _ hsp;have hkp:∀ b o,base.get? b=some o->s.heap.get? b=some o:=fun b o e=>(e0.bs b o e).1;have lim:s.heap.NoLimit:=e0.mod.nolimit.keeps hkp;refine PySem.W.kla_callFunE hr.depth (hkp _ _ Lm.ob) rfl S.co S.gen rfl ((hcd _ _ _ _ hsp).rec e0.hok) (hb _ _ _ _ ?_);refine JP S.nocell (fun z hz=>S.par z.1 (List.of_mem_zip hz).1) (fun h1 hns hsb=>⟨lim.fresh _ hsb,?_⟩) S.kind;have hk1:∀ b o,s.heap.get? b=some o->h1.get? b=some o:=fun b o e=>hsb.extBut b o (Ib (HQ e)) (Heap.get?_push_of_some _ e)
 show codeAny _ _ (.expr body (xY qual scope s f c' y cy)) _ _
 obtain⟨t,ht,hq⟩:=hbody A outer s H vs Q E (hr.deeper _) hsp;have I:ax (yI CX P w K mg base (ps++[y]) qual scope f c' y cy A outer s H E) [] (vs.map some++[some vy]) H { s with heap:=h1,toks:=s.toks+(ps.zip us).length }:=zT S Lm hr.hd e0 hl r hns hk1;refine PySem.W.kla_codeExpr (Il (ht [] _ _ H Q I hq) (fun u s' ⟨v,H',J,rv,q⟩=>?_) fun e s' hs=>hs);exact⟨v,H',J.os,J.bare,J.base,J.hok,rv,q⟩
def kR (K:PySem.W.Frag)(c P:Addr):Prop:=∃ (o:Obj)(vs:Array Value)(file:Str)(tf:Tok)(flags:Int)(tg:Tok)(inF:Bool)(text:Int)(tt:Tok),K.lookup c=some o/\o.cls=.type "code"/\o.data=.fields vs/\vs[11]? = some (.ref P)/\vs.getD 11 .none=.ref P/\vs.getD 18 .none=.str file tf /\
  vs.getD 7 .none=.int flags tg/\vs.getD 9 .none=.bool inF/\vs.getD 10 .none=.int text tt/\c≠P
theorem kR.hd {K:PySem.W.Frag}{c P:Addr}{h:Heap}(x:kR K c P)(k:K.In h):PySem.W.CodeHd h c P:=by
 obtain⟨o,vs,file,tf,flags,tg,inF,text,tt,e,r⟩:=x;exact⟨o,vs,file,tf,flags,tg,inF,text,tt,k _ _ e,r⟩
def ui (mg:Str->Option Value)(base:Heap):Prop:=∃ bm ob,mg "__builtins__" = some (.ref bm)/\bm≠builtinsNs/\base.get? bm=some ob/\ob.cls=.type "module"/\ob.dict=some builtinsNs/\ob.data=.plain
def cL (H:Hp)(P:Addr)(pos:Pos)(qual:Str):Prop:=H P=some (.tbl #[])\/∃ c',H P=some (.tbl #[rawInt pos.line,rawInt pos.col,.ref c'])/\nY H c' qual
theorem cL.tbl {H:Hp}{P:Addr}{pos:Pos}{qual:Str}(x:cL H P pos qual):∃ ps,H P=some (.tbl ps):=x.elim (fun e=>⟨_,e⟩) fun ⟨_,e,_⟩=>⟨_,e⟩
theorem cL.same {H H':Hp}{P:Addr}{pos:Pos}{qual:Str}(x:cL H P pos qual)(s:aB H H'):cL H' P pos qual:=by
 rcases x with e | ⟨c',e,oc,vs,t,e2,r⟩
 ·exact .inl (s _ _ e)
 ·exact .inr ⟨c',s _ _ e,oc,vs,t,s _ _ e2,r⟩
section
variable {X:Cx}{pins:List (Addr×Obj)}{σ:St}{H:Hp}{s:Shared}
theorem Bb {A:Around}{E:Value->Shared->Prop}{params:Arguments}{body:Expr}{scope:Scope}{pos:Pos}{y:Str}{c0 P cy:Addr}{qual:Str}{Q:Value->Shared->Prop}(I:ax X pins σ H s)(hc:X.env.code=.ref c0)(C:kR X.K c0 P)(B:ui X.mg X.base)(hq:X.env.qual++"<lambda>" = qual)
  (hT:cL H P pos qual) (hdf:defaultsOf params X.env=([],[])) (hcl:closureFor scope X.env=pure [(y,cy)]) (hcy:X.env.cells.lookup y=some cy)
  (h:∀ (f c':Addr)(pm ct:Value)(H':Hp)(s':Shared),ax X pins σ H' s'->s'.heap.get? f=some (PySem.W.kla_obj "<lambda>" qual params body scope [(y,cy)] pm c' ct)->s.heap.objs.size<=f->H' f=none->nY H' c' qual->cL H' P pos qual->(∀ b o,H b=some o->b≠P->H' b=some o) ->
   (∀ b o,s.heap.get? b=some o->b≠P->s'.heap.get? b=some o)->Q (.ref f) s') :
  wpAny (model X.prog X.w) A (eval (.Lambda params body scope pos) X.env) Q E s:=by
 refine PySem.W.kla_eval hdf ?_;rw[hq];have kb:=I.bk;have CH:=C.hd I.kIn;obtain⟨bm,ob,b1,b2,b3,b4,b5,b6⟩:=B;have gN:s.heap.Ns mainGlobals X.mg:=I.ok.mod.glob.keeps kb;obtain⟨ps,hps⟩:=hT.tbl;have hPo:s.heap.get? P=some (PySem.W.tabObj ps):=I.hok P _ hps
 have nP:∀ b o,X.base.get? b=some o->b≠P:=fun b o e z=>by rw[z]at e;rw[(I.bs _ _ e).2]at hps;cases hps
 have gP:mainGlobals≠P:=fun z=>by
  obtain⟨o,es,ep,e,hd,_⟩:=I.ok.mod.glob;exact nP _ _ e z
 have bG:bm≠mainGlobals:=fun z=>by
  obtain⟨o,es,ep,e,hd,_⟩:=I.ok.mod.glob;rw[z,e]at b3;cases b3;rw[hd]at b6;cases b6
 have hb:s.heap.BuiltinsAt X.mg P:=⟨bm,ob,b1,b2,bG,nP _ _ b3,kb _ _ b3,b4,b5,b6⟩;rcases hT with hT | ⟨c',hT,hcf⟩
 ·rw[hps]at hT
  cases hT;refine PySem.W.kla_makeFunction (mg:=X.mg) hcl I.ok.glob gN hc CH hPo (by trivial) rfl gP hb fun c' ctv h' tk hx hge hlt hrec htb=>?_;obtain⟨c1,oc,vs,t,e1,hoc,hdc,hvc⟩:=hrec;cases e1;have hcH:H c'=none:=I.hok.fresh hge
  have cP:c'≠P:=fun z=>by rw[z,hps]at hcH;cases hcH
  have fH:H h'.objs.size=none:=I.hok.fresh (Ix hge (Ju hlt))
  have fP:h'.objs.size≠P:=fun z=>by rw[z,hps]at fH;cases fH
  have fc:h'.objs.size≠c':=Nat.ne_of_gt hlt;have kk:∀ b o,s.heap.get? b=some o->b≠P->(h'.push (PySem.W.kla_obj "<lambda>" qual params body scope [(y,cy)] ((X.mg "__name__").getD .none) c' ctv)).get? b=some o:=fun b o e n=>Heap.get?_push_of_some _ (hx b o n e);have lt0:∀ b o,s.heap.get? b=some o->b≠c':=fun b o e z=>absurd (Ij (HQ (z▸e)) hge) (JZ _)
  have ltH:∀ b o,H b=some o->b≠c':=fun b o e z=>by rw[z,hcH]at e;cases e
  have I1:ax X pins σ (upd (upd H P (.tbl (#[]++#[rawInt pos.line,rawInt pos.col,.ref c']))) c' (.frz oc (.own c'))) { s with heap:=h'.push (PySem.W.kla_obj "<lambda>" qual params body scope [(y,cy)] ((X.mg "__name__").getD .none) c' ctv),toks:=tk }:=by
   have hne:∀ b o,H b=some o->b≠P->upd (upd H P (.tbl (#[]++#[rawInt pos.line,rawInt pos.col,.ref c']))) c' (.frz oc (.own c')) b=some o:=fun b o e n=>by rw[ae (ltH b o e),ae n];exact e
   refine I.un ⟨fun b o e n _ _=>kk b o e (fun z=>by rw[z,hps]at n;cases n),fun b o e n _ _=>⟨o.slots,kk b o e (fun z=>by rw[z,hps]at n;cases n)⟩,fun b o e n _=>?_,fun b o e _=>?_,fun b xs e=>hne b _ e (fun z=>by rw[z,hps]at e;cases e),fun b o u e=>hne b _ e (fun z=>by rw[z,hps]at e;cases e),fun b qs e=>?_⟩ fun b u e=>?_
   ·rw[ae (lt0 b o e),ae (fun z=>by rw[z,hps]at n;cases n)];exact n
   ·by_cases z:b=P
    ·exact⟨_,by rw[z];exact Heap.get?_push_of_some _ htb⟩
    ·exact⟨o,kk b o e z⟩
   ·by_cases z:b=P
    ·rw[z,hps]at e;cases e
     exact⟨#[rawInt pos.line,rawInt pos.col,.ref c'],by rw[z,ae (Ik cP),ac]⟩
    ·exact⟨#[],by rw[hne b _ e z];simp⟩
   ·by_cases z:b=c'
    ·rw[z,ac]at e
     cases e;rw[z];exact⟨Heap.get?_push_of_some _ hoc,_,Heap.get?_push_of_some _ hoc⟩
    ·rw[ae z]at e
     by_cases z2:b=P
     ·rw[z2,ac]at e
      cases e;rw[z2];exact Heap.get?_push_of_some _ htb
     ·rw[ae z2]at e
      refine (I.hok b u e).stay (fun d v hd q=>kk d v q ?_) (fun d q=>hne d _ q (fun z=>by rw[z,hps]at q;cases q)) fun d xs q=>hne d _ q (fun z=>by rw[z,hps]at q;cases q);rcases hd with r | r
      ·rw[r];exact z2
      ·exact fun z=>by rw[z,hps]at r;cases r
  have cf:nY (upd (upd H P (.tbl (#[]++#[rawInt pos.line,rawInt pos.col,.ref c']))) c' (.frz oc (.own c'))) c' qual:=⟨oc,vs,t,ac,hdc,hvc⟩;refine h _ c' _ ctv _ _ I1 (Heap.get?_push_size _ rfl) (Ix hge (Ju hlt)) ?_ cf (.inr ⟨c',?_,cf⟩) (fun b o e n=>?_) kk
  ·rw[ae fc,ae fP];exact fH
  ·rw[ae (Ik cP),ac];rfl
  ·rw[ae (ltH b o e),ae n];exact e
 ·rw[hps]at hT
  cases hT;refine PySem.W.kla_makeFunctionHit (cv:=.ref c') (mg:=X.mg) hcl I.ok.glob gN hc CH hPo ?_ ?_ hb fun ctv h' tk hk hsz=>?_
  ·exact True.intro
  ·exact codeAmong_snoc (pos:=pos) (c:=.ref c') [] True.intro rfl
  have fH:H h'.objs.size=none:=I.hok.fresh hsz;have kk:∀ b o,s.heap.get? b=some o->(h'.push (PySem.W.kla_obj "<lambda>" qual params body scope [(y,cy)] ((X.mg "__name__").getD .none) c' ctv)).get? b=some o:=fun b o e=>Heap.get?_push_of_some _ (hk b o e);exact h _ c' _ ctv H _ (I.kept kk) (Heap.get?_push_size _ rfl) hsz fH hcf (.inr ⟨c',hps,hcf⟩) (fun b o e _=>e) (fun b o e _=>kk b o e)
theorem oF {h base base':Heap}:∀ {l:List Env},h.FunFrames base l->(∀ b∈gY l,base'.get? b=none)->h.FunFrames base' l
 | [],_,_=>trivial
 | env::r,hl,hn=>by
  obtain⟨hk,⟨L,o,hf,hb,ho,hd⟩,hr⟩:=hl
  have e:gY (env::r)=L::gY r:=by unfold gY;rw[JW,hf]
  rw[e]at hn;exact⟨hk,⟨L,o,hf,hn L HV,ho,hd⟩,oF hr fun b hb=>hn b (HL _ hb)⟩
def p3 (base h:Heap)(f cy:Addr):Heap:=PySem.W.hideAll h ((List.range h.objs.size).filter fun b=>decide (base.get? b=none/\b≠f/\b≠cy))
theorem kD {base h:Heap}{f cy b:Addr}{o:Obj}(e:h.get? b=some o)(hb:(∃ o,base.get? b=some o)\/b=f\/b=cy):(p3 base h f cy).get? b=some o:=by
 refine PySem.W.hideAll_get _ e fun z=>?_;obtain⟨n1,n2,n3⟩:=IZ (Iy.mp z).2;rcases hb with ⟨o,q⟩ | q | q
 ·rw[n1]at q;cases q
 ·exact n2 q
 ·exact n3 q
theorem tY {base h:Heap}{f cy b:Addr}{o:Obj}(e:(p3 base h f cy).get? b=some o):h.get? b=some o/\((∃ o,base.get? b=some o)\/b=f\/b=cy):=by
 have e1:=PySem.W.of_hideAll _ e;refine⟨e1,?_⟩
 by_cases z:base.get? b=none/\b≠f/\b≠cy
 ·have:(p3 base h f cy).get? b=none:=PySem.W.hideAll_none _ (Iy.mpr ⟨IR.mpr (HQ e1),HY z⟩)
  rw[this]at e;cases e
 ·by_cases z1:b=f
  ·exact .inr (.inl z1)
  by_cases z2:b=cy
  ·exact .inr (.inr z2)
  cases q:base.get? b with
  | none=>exact absurd ⟨q,z1,z2⟩ z
  | some o=>exact .inl ⟨o,rfl⟩
theorem Mod.keeps {K:PySem.W.Frag}{mg:Str->Option Value}{base base':Heap}(m:Mod K mg base)(k:∀ b o,base.get? b=some o->base'.get? b=some o):Mod K mg base' :=
 ⟨m.kin.keeps k,m.glob.keeps k,let ⟨mb,h1,h2⟩:=m.blt;⟨mb,h1.keeps k,h2⟩,m.nolimit.keeps k⟩
theorem Ba {f cy:Addr}{y:Str}(I:ax X pins σ H s)(hf:H f=none)(hfo:∃ o,s.heap.get? f=some o)(hs0:X.env.locals<f)(hcy:X.env.cells.lookup y=some cy)(hfn:X.fn y=true):uk X.prog X.w X.K X.mg (p3 X.base s.heap f cy) X.A X.stack s H:=by
 have e0:=I.env0
 have nf:∀ b∈gY X.stack,b≠f/\b≠cy:=fun b hb=>by
  rcases HW.mp (I.stkSub b hb) with z | z
  ·exact⟨by rw[z];exact Ib hs0,by rw[z];exact (I.cne y cy hcy).symm⟩
  ·obtain⟨_,o,ho,_⟩:=I.ok.funs.mem z
   have l1:=HQ ho;have l2:=I.ok.cab y cy hfn hcy;have l3:=I.ok.above;exact⟨Ib (Nat.lt_trans (Ij l1 l3) hs0),Ib (Ij l1 l2)⟩
 refine⟨e0.frames,I.ok.mod.keeps fun b o e=>kD (I.bk b o e) (.inl ⟨o,e⟩),fun b o e=>?_,Nat.le_of_eq (PySem.W.hideAll_size _ _),oF e0.funs fun b hb=>?_,e0.frf,e0.hok,e0.bare⟩
 ·obtain⟨e1,z⟩:=tY e
  refine⟨e1,?_⟩;rcases z with ⟨o',z⟩ | z | z
  ·exact (I.bs b o' z).2
  ·rw[z];exact hf
  ·rw[z];exact I.freeC y cy hcy
 ·cases q:(p3 X.base s.heap f cy).get? b with
  | none=>rfl
  | some o =>
   obtain⟨_,z⟩:=tY q;rcases z with ⟨o',z⟩ | z | z
   ·have:=(I.stack.mem hb).1
    rw[this]at z;cases z
   ·exact absurd z (nf b hb).1
   ·exact absurd z (nf b hb).2
end
section
variable {X:Cx}{CX:rP}{k:Nat}{E:XK}{x y:Str}{p pos:Pos}{e e1 e2:Expr}{es:List Expr}{te t1 t2:TE}{t:TA}
theorem yk {iy:Nat}{fw c0 P cy:Addr}{fdw:FuncData}{psw:List Str}{sp:Addr->Addr->V->Sp}{params:Arguments}{body:Expr}{scope:Scope}{lpos:Pos}{qual:Str}
  (W:∀ (b':Heap)(f c' cy:Addr)(vy:V)(pm ct:Value),Mod X.K X.mg b'->sZ b' qual params body scope y vy f c' cy pm ct->aS X.prog X.w X.K X.mg b' CX k fw fdw psw (sp f c' vy))
  (hr:cx k X.A) (hg:Gl X x) (hm:X.mg x=some (.ref fw)) (hk:PySem.W.keepIn X.K (.ref fw)=true) (hb:d9 X.K fdw psw []) (hx:dD CX X E)
  (h1:PE X e1 t1) (h2:PE X e2 t2) (hc:X.env.code=.ref c0) (C:kR X.K c0 P) (B:ui X.mg X.base) (hq:X.env.qual++"<lambda>" = qual) (hdf:defaultsOf params X.env=([],[])) (hcl:closureFor scope X.env=pure [(y,cy)]) (hcy:X.env.cells.lookup y=some cy)
  (hfn:X.fn y=true) (hN:X.N[iy]? = some y) (hkd:X.env.scope.names.lookup y=some .cell)
  (hdb:(x == ("__debug__" : Str))=false:=by decide) (he:starEach [e1,e2,.Lambda params body scope lpos] X.env=(false,eval e1 X.env)::starEach [e2,.Lambda params body scope lpos] X.env:=by rfl)
  (he2:starEach [e2,.Lambda params body scope lpos] X.env=(false,eval e2 X.env)::starEach [.Lambda params body scope lpos] X.env:=by rfl) (he3:starEach [.Lambda params body scope lpos] X.env=[(false,eval (.Lambda params body scope lpos) X.env)]:=by rfl)
  (hpl:(backTo pos (starEach [e2,.Lambda params body scope lpos] X.env)).any (·.1)=false:=by rfl) :
  PE X (.Call (.Name x p) [e1,e2,.Lambda params body scope lpos] [] pos) (fun σ H Q=>t1 σ H fun x1 H1=>t2 σ H1 fun x2 H2=>cL H2 P lpos qual/\∃ vy,σ[iy]? = some (some vy) /\
   ∀ (f c':Addr)(H3:Hp),nY H3 c' qual->cL H3 P lpos qual->(∀ b o,H2 b=some o->b≠P->H3 b=some o)->sp f c' vy [x1,x2,.ref f] H3 Q E):=by
 intro pins s σ H Q I h;refine IX (gj I hg hm ?_ hdb);refine PySem.W.callWith_K (h₀:=X.base) I.ok.mod.kin hk (Q:=EP X pins σ Q) ?_ he hpl;rw[he,he2,he3]
 show wpAny _ _ (spliced [(false,eval e1 X.env),(false,eval e2 X.env),(false,eval (.Lambda params body scope lpos) X.env)]) _ _ s
 refine IP (bc (h1 pins s σ H _ I h) fun u1 s1 ⟨x1,H1,I1,r1,q1⟩=>?_);refine IP (bc (h2 pins s1 σ H1 _ I1 q1) fun u2 s2 ⟨x2,H2,I2,r2,hT,vy,hσ,q2⟩=>?_);refine IP (Bb I2 hc C B hq hT hdf hcl hcy fun f c' pm ct H3 s3 I3 hfo hsz hfH hcf hT3 hk3 hkk=>?_);refine JA ⟨I3.kIn,?_⟩;have q3:=q2 f c' H3 hcf hT3 hk3;obtain⟨m,hn,hl⟩:=I3.loc;obtain⟨uy,ry,ly⟩:=hl iy y vy hN hσ (.inr (.inl hkd))
 have cl:s3.heap.IsCell cy (some uy):=by
  rcases ly with ⟨z,_⟩ | ⟨_,c,e,ce⟩
  ·have z:X.env.scope.names.lookup y=some .local:=z
   rw[hkd]at z;cases z
  ·rw[hcy]at e;cases e;exact ce
 obtain⟨oc,hoc,hdc⟩:=cl;have e0:=Ba (y:=y) (cy:=cy) I3 hfH ⟨_,hfo⟩ (Ij I2.lt hsz) hcy hfn;have F:=W _ f c' cy vy pm ct e0.mod ⟨kD hfo (.inr (.inl rfl)),uy,ry,oc,kD hoc (.inr (.inr rfl)),hdc⟩;have r3:aQ ([x1,x2,.ref f]++[]) ([u1,u2,.ref f]++[]):=aQ.append (show aQ [x1,x2,.ref f] [u1,u2,.ref f] from .cons r1 (.cons r2 (.cons rfl .nil))) .nil
 have hl3:([u1,u2,.ref f]++[]:List Value).length=psw.length:=by rw[<-r3.length];exact F.len _ _ _ _ q3
 refine Ka (Jx (F.run X.A X.stack s3 H3 ⟨[u1,u2,.ref f],[]⟩ ([u1,u2,.ref f]++[]) ([x1,x2,.ref f]++[]) Q E hr e0 (hb s3 [u1,u2,.ref f] I3.kIn hl3) r3 q3) fun r s' hq=>?_)
 cases r with
 | error e=>exact hx pins σ H3 s3 e s' I3 hq
 | ok fl =>
  cases fl with
  | ret u=>exact I3.after hq
  | next=>exact False.elim hq
  | brk=>exact False.elim hq
  | cont=>exact False.elim hq
theorem BD {i:Nat}{f:Addr}{fd:FuncData}{ps:List Str}{sp:Sp}{o:Obj}(F:aS X.prog X.w X.K X.mg X.base CX k f fd ps sp)(hr:cx k X.A)(hN:X.N[i]? = some x)(hv:E7 X.env.scope x)(ho:X.base.get? f=some o)(hd:o.data=.func fd)
  (hb:∀ (s:Shared)(us:List Value),us.length=ps.length->BindsTo s fd ⟨us,[]⟩ (ps.zip us)) (hx:dD CX X E) (ha:PA X (e::es) t)
  (hdb:(x == ("__debug__" : Str))=false:=by decide) (hcd:(x == ("__classdict__" : Str))=false:=by decide) (he:starEach (e::es) X.env=(false,eval e X.env)::starEach es X.env:=by rfl) (hpl:(backTo pos (starEach es X.env)).any (·.1)=false:=by rfl) :
  PE X (.Call (.Name x p) (e::es) [] pos) (fun σ H Q=>σ[i]? = some (some (.ref f))/\t σ H fun vs H1=>sp vs H1 Q E):=by
 intro pins s σ H Q I h;obtain⟨hσ,h⟩:=h;refine IX (bc (BI hN hv hdb hcd pins s σ H (fun v H'=>v=.ref f/\H'=H) I ⟨_,hσ,rfl,rfl⟩) fun u s1 ⟨v,H1,I1,rv,ev,eh⟩=>?_);subst ev eh;obtain rfl:u=Value.ref f:=rv
 have kp:∀ h:Heap,h.get? f=some o->∃ k,(k=Keeper.frame\/k=Keeper.machine\/k=Keeper.boundFrame)/\PySem.W.Looks (model X.prog X.w) h (keeperOf (.ref f)) k:=fun h q=>by
  obtain⟨oc,od,dt,sl⟩:=o;have hd:dt=.func fd:=hd;subst hd;exact⟨.frame,.inl rfl,(PySem.W.Looks.ld (part:=none) q).andThen .now⟩
 rw[he];refine PySem.W.callWith_of (P:=fun h=>h.get? f=some o) (by show ((false||(backTo pos (starEach es X.env)).any (·.1))||false)=false;rw[hpl];rfl) kp (Ji ?_);have hA:=ha pos pins s1 σ H1 _ I1 h;rw[he]at hA;refine bc hA fun us s2 ⟨vs,H2,I2,r,q⟩=>⟨(I2.bs _ _ ho).1,?_⟩
 have hl:us.length=ps.length:=by rw[<-r.length];exact F.len _ _ _ _ q
 refine Ka (Jx (F.run X.A X.stack s2 H2 ⟨us,[]⟩ us vs Q E hr I2.env0 (hb s2 us hl) r q) fun r s' hq=>?_)
 cases r with
 | error e=>exact hx pins σ H2 s2 e s' I2 hq
 | ok fl =>
  cases fl with
  | ret u=>exact I2.after hq
  | next=>exact False.elim hq
  | brk=>exact False.elim hq
  | cont=>exact False.elim hq
end
theorem dv.okXC {P:Program}{w:World}{K:PySem.W.Frag}{mg:Str->Option Value}{base:Heap}{x qual:Str}{st:Stmt}{f c0:Addr}{fd:FuncData}{N ps:List Str}{k:Nat}{sp:Sp}(F:dv K x qual st f fd)(S:au N ps (ai st))(hco:fd.code=.ref c0)(len:∀ vs H Q E,sp vs H Q E->vs.length=ps.length)
  (hbody:∀ (A:Around)(outer:List Env)(s:Shared)(H:Hp)(vs:List V)(Q:VK)(E:XK),cx k (A.deeper (envOfC qual (ai st) s.heap.objs.size f (.ref c0)))->sp vs H Q E ->
   ∃ t,vR (oX (iY P w) P w K mg base N qual (ai st) f (.ref c0) A outer s H E) (c8 st) t/\t { nx:=fun _ H'=>Q .non H',rt:=Q } (kA N vs) H):aS P w K mg base (iY P w) (k+1) f fd ps sp:=by
 obtain⟨oc,od,kV,doc,pm,an,cdv,ct,osl,rfl,lk,hcd⟩:=F.ex;have e:cdv=.ref c0:=hco;subst e;exact AZ lk hcd S len fun A outer s H vs Q E hr hsp=>hbody A outer s H vs Q E hr hsp
def CZ (e:Expr):Arguments:=match e with | .Lambda a _ _ _=>a | _=>{ posonlyargs:=[],args:=[],vararg:=none,kwonlyargs:=[],kw_defaults:=[],kwarg:=none,defaults:=[] }
def C0 (e:Expr):Expr:=match e with | .Lambda _ b _ _=>b | _=>e
def C2 (e:Expr):Scope:=match e with | .Lambda _ _ s _=>s | _=>{ kind:=.function,names:=[],isGenerator:=false,isCoroutine:=false }
def Gn (e:Expr):Pos:=match e with | .Lambda _ _ _ p=>p | _=>⟨0,0,0,0⟩
end L2
namespace Wz
open PySem L2
def fC (P:Addr)(H H':Hp):Prop:=∀ b o,H b=some o->b≠P->H' b=some o
theorem fC.none {P:Addr}{H H':Hp}{pos:Pos}{qual:Str}{l:Addr}(b:fC P H H')(t:cL H' P pos qual)(h:H' l=none):H l=none:=by
 cases e:H l with
 | none=>rfl
 | some o =>
  by_cases z:l=P
  ·obtain⟨ps,q⟩:=t.tbl
   rw[<-z,h]at q;cases q
  ·rw[b l o e z]at h;cases h
theorem fC.hall {P C p:Addr}{H H':Hp}{A:HA}{st:b7}{pos:Pos}{qual:Str}(S:aE C H p A st)(t:cL H P pos qual)(b:fC P H H'):aE C H' p A st:=by
 obtain⟨ps,q⟩:=t.tbl;refine S.kept (fp:=[P]) (fun y o e n=>b y o e (fun z=>n (by rw[z];exact HR.mpr rfl))) (fun z=>?_) (fun y hy z=>?_) (fun y xs e z=>?_)
 ·have ob:=S.ob
  rw[HR.mp z,q]at ob;cases ob
 ·have mu:=S.mu y hy
  rw[HR.mp z]at mu;rcases mu with ⟨k,e⟩ | ⟨k,e⟩ | ⟨k,e⟩<;>rw[q]at e<;>cases e
 ·rw[HR.mp z,q]at e;cases e
theorem fC.same {P:Addr}{H H1 H2:Hp}(b:fC P H H1)(s:aB H1 H2):fC P H H2:=fun x o e n=>s _ _ (b x o e n)
inductive rG (K:PySem.W.Frag) (P0:Addr) (vs:List V) (H:Hp) (Q:VK) (E_:XK):Prop
 | mk (a:Addr) (ns:List Int) (h_0:vs=[.ref a]) (h_1:aL K H a (ns.map V.int)) (h_2:ns.length<=63) (h_3:H P0=some (.tbl #[])) (h_4:∀ H',Q (.bl true) H'):rG K P0 vs H Q E_
theorem fC.get {P b:Addr}{H H':Hp}{pos:Pos}{qual:Str}{o:HO}(k:fC P H H')(t:cL H P pos qual)(e:H b=some o)(n:∀ ps,o≠.tbl ps):H' b=some o:=by
 obtain⟨ps,q⟩:=t.tbl
 exact k b o e fun z=>by rw[z,q]at e;injection e with e;exact n ps e.symm
theorem fC.deeds {P l:Addr}{H H':Hp}{pos:Pos}{qual:Str}{ds:List aT}(k:fC P H H')(t:cL H P pos qual)(d:bN H l ds):bN H' l ds:=by
 obtain⟨as,h,p⟩:=d;refine⟨as,k.get t h (fun ps z=>by cases z),Paired.mapP p fun a x e=>?_⟩;obtain⟨xs,ex⟩:=dh x;rw[ex]at e ⊢;exact k.get t e (fun ps z=>by cases z)
theorem fC.row {P l:Addr}{H H':Hp}{pos:Pos}{qual:Str}{ps:List (Int×Int)}(k:fC P H H')(t:cL H P pos qual)(d:bJ H l ps):bJ H' l ps:=by
 obtain⟨as,h,p⟩:=d;exact⟨as,k.get t h (fun ps z=>by cases z),Paired.mapP p fun a x e=>k.get t e (fun ps z=>by cases z)⟩
theorem cL.put {H:Hp}{P l:Addr}{pos:Pos}{qual:Str}{xs:List V}{o:HO}(x:cL H P pos qual)(e:H l=some (.lst xs)):cL (upd H l o) P pos qual:=by
 rcases x with q | ⟨c',q,oc,vs,t,e2,r⟩
 ·exact .inl (by rw[ae (bY q e (by intro z;cases z))];exact q)
 ·exact .inr ⟨c',by rw[ae (bY q e (by intro z;cases z))];exact q,oc,vs,t,by rw[ae (bY e2 e (by intro z;cases z))];exact e2,r⟩
theorem fC.put {P l:Addr}{H H':Hp}{o:HO}(b:fC P H H')(h:H l=Option.none):fC P H (upd H' l o):=fun x u e n=>by rw[ae (aj e h)];exact b x u e n
end Wz
namespace L2
open PySem PySem.Spec PyProof.Rows
theorem ue {K:PySem.W.Frag}{x:Str}{c P:Addr}(h:PySem.W.tabIn K x=some (c,P)):∃ (f:Addr)(oc:Value)(od:Option Addr)(fd:FuncData)(osl:Array (Option Value))(o:Obj)(vs:Array Value),PySem.W.nsIn K mainGlobals x=some (some (.ref f))/\K.lookup f=some ⟨oc,od,.func fd,osl⟩/\fd.code=.ref c/\K.lookup c=some o/\o.data=.fields vs/\vs[11]? = some (.ref P):=by
 unfold PySem.W.tabIn at h;split at h
 ·rename_i f hf
  split at h
  ·rename_i oc od fd osl hfo
   split at h
   ·rename_i c₂ hc
    split at h
    ·rename_i a1 a2 vs a3 hco
     split at h
     ·rename_i P₂ hv
      cases h;exact⟨f,oc,od,fd,osl,_,vs,hf,hfo,hc,hco,rfl,hv⟩
     ·cases h
    ·cases h
   ·cases h
  ·cases h
 ·cases h
theorem B3 {K:PySem.W.Frag}{x qual:Str}{st:Stmt}{c P f:Addr}{fd:FuncData}(h:PySem.W.tabIn K x=some (c,P))(hf:PySem.W.nsIn K mainGlobals x=some (some (.ref f)))(F:dv K x qual st f fd):fd.code=.ref c:=by
 obtain⟨f',oc,od,fd',osl,o,vs,e1,e2,e3,_⟩:=ue h;rw[hf]at e1;cases e1;obtain⟨oc2,od2,kV,doc,pm,an,cdv,ct,osl2,e4,lk,_⟩:=F.ex;rw[e2]at lk;cases lk;exact e3
theorem AN {K:PySem.W.Frag}{x:Str}{c P:Addr}{h:Heap}(ht:PySem.W.tabIn K x=some (c,P))(X:K.In h)(C:PySem.W.CodeHd h c P):kR K c P:=by
 obtain⟨f',oc,od,fd',osl,o,vs,e1,e2,e3,e4,e5,e6⟩:=ue ht;obtain⟨o',vs',file,tf,flags,tg,inF,text,tt,g,r⟩:=C;have:=X _ _ e4;rw[g]at this;cases this;exact⟨o,vs',file,tf,flags,tg,inF,text,tt,e4,r⟩
theorem zU {P:Program}{w:World}{K:PySem.W.Frag}{mg mb:Str->Option Value}{CX:rP}{k:Nat}{fa a c0 P0:Addr}{fd:FuncData}{x:Str}{sp:Sp}{s₁:Shared}{vs:List Value}{ns:List Int}
  (KX:K.In s₁.heap) (hns:s₁.heap.Ns mainGlobals mg) (hb:s₁.heap.Ns builtinsNs mb) (hbb:∀ x:Str,x≠"__name__"->mb x=bootBuiltins x) (hlim:s₁.heap.NoLimit) (hg:s₁.gens = #[])
  (ha:s₁.heap.get? a=some { cls:=.type "list",data:=.seq vs.toArray }) (hi:IntsAre vs ns) (hl:ns.length<=sizeLine) (hr:cx k callerA)
  (hK:PySem.W.noTabs K=true) (C:PySem.W.CodeHd s₁.heap c0 P0) (hP:s₁.heap.get? P0=some (PySem.W.tabObj #[])) (BM:ui mg s₁.heap)
  (F:∀ base:Heap,K.In base->base.Ns mainGlobals mg->ui mg base->aS P w K mg base CX k fa fd [x] sp) (hbind:∀ (s:Shared)(u:Value),BindsTo s fd ⟨[u],[]⟩ [(x,u)])
  (hsp:∀ H:Hp,H P0=some (.tbl #[])->aL K H a (ns.map V.int)->sp [.ref a] H (fun v _=>v=.bl true) fun _ _ _=>False)
  (hCX:∀ H e s',CX [] H s₁ (fun _ _ _=>False) e s'->False) :
  codeAny (model P w) callerA (.call (.ref fa) ⟨[.ref a],[]⟩) (fun r s'=>r=.ok (.ret (.bool true))/\OldK s₁.heap s'.heap/\s'.os=s₁.os/\AllBare s'.gens) s₁:=by
 have rv:=uf hi;have lenV:=hi.length
 have aP:a≠P0:=fun z=>by rw[z,hP]at ha;cases ha
 have Kno:∀ b o,K.lookup b=some o->b≠P0:=fun b o e z=>by
  have e2:=KX b o e;rw[z,hP]at e2;cases e2;have h2:=List.all_eq_true.mp hK (b,PySem.W.tabObj #[]) (PySem.W.mem_of_lookupK e);exact absurd (show false=true from h2) HN
 obtain⟨H,HP,HA,Hrest⟩:∃ H:Hp,H P0=some (.tbl #[])/\((K.lookup a=none/\H a=some (.frz { cls:=.type "list",data:=.seq vs.toArray } (.lst (ns.map V.int))))\/(∃ o,K.lookup a=some o)/\H a=none)/\∀ b,b≠P0->b≠a->H b=none:=by
  cases hk:K.lookup a with
  | some o=>exact⟨fun b=>if b=P0 then some (.tbl #[]) else none,Hw rfl,.inr ⟨⟨o,rfl⟩,Hu aP⟩,fun b n _=>Hu n⟩
  | none=>exact⟨fun b=>if b=P0 then some (.tbl #[]) else if b=a then some (.frz { cls:=.type "list",data:=.seq vs.toArray } (.lst (ns.map V.int))) else none,Hw rfl,.inl ⟨rfl,by show (if a=P0 then _ else _)=_;rw[Hu aP,Hw rfl]⟩,fun b n1 n2=>by show (if b=P0 then _ else _)=_;rw[Hu n1,Hu n2]⟩
 have hok:i7 P w H s₁.heap:=fun b u e=>by
  by_cases z:b=P0
  ·rw[z,HP]at e;cases e;rw[z];exact hP
  ·by_cases z2:b=a
   ·rw[z2]at e ⊢
    rcases HA with ⟨_,q⟩ | ⟨_,q⟩
    ·rw[q]at e;cases e
     exact⟨ha,by rw[Hs];exact hl,vs,_,rv,ha⟩
    ·rw[q]at e;cases e
   ·rw[Hrest b z z2]at e;cases e
 have hS:aL K H a (ns.map V.int):=by
  rcases HA with ⟨_,q⟩ | ⟨⟨o,q1⟩,q⟩
  ·exact .inl (.inr ⟨_,q⟩)
  ·have e:=KX a o q1
   rw[ha]at e;cases e;exact .inr ⟨_,vs.toArray,_,q1,rfl,rfl,rfl,by rw[HU,lenV];exact hl,by simpa using rv⟩
 have free:∀ {b:Addr}{o:Obj},s₁.heap.get? b=some o->(∀ qs,o.data≠.fields qs)->(∀ qs n,o.data≠.seq qs n)->H b=none:=fun {b o} e n1 n2=>Hrest b (fun z=>by rw[z,hP]at e;cases e;exact n1 _ rfl) (fun z=>by rw[z,ha]at e;cases e;exact n2 _ _ rfl);have nsK:∀ {b:Addr}{m:Str->Option Value},s₁.heap.Ns b m->(uE s₁.heap H).Ns b m:=fun {b m} ⟨o,es,ep,e,d,r⟩=>⟨o,es,ep,qu e (free e (fun qs z=>by rw[d]at z;cases z) (fun qs n z=>by rw[d]at z;cases z)),d,r⟩
 have hKb:K.In (uE s₁.heap H):=fun b o e=>qu (KX b o e) (by
  by_cases z:b=a
  ·rcases HA with ⟨q0,_⟩ | ⟨_,q⟩
   ·rw[z,q0]at e;cases e
   ·rw[z];exact q
  ·exact Hrest b (Kno b o e) z)
 have hM:Mod K mg (uE s₁.heap H):=⟨hKb,nsK hns,⟨mb,nsK hb,hbb⟩,let ⟨mc,h1,h2⟩:=hlim;⟨mc,nsK h1,h2⟩⟩;have e0:uk P w K mg (uE s₁.heap H) callerA [] s₁ H:=⟨rfl,hM,fun b o e=>C8 e,Nat.le_of_eq (zO _ _),trivial,fun b hb=>absurd (show b∈([]:List Addr) from hb) (by simp),hok,.of_eq hg⟩
 have BM2:ui mg (uE s₁.heap H):=by
  obtain⟨bm,ob,b1,b2,b3,b4,b5,b6⟩:=BM;exact⟨bm,ob,b1,b2,qu b3 (free b3 (fun qs z=>by rw[b6]at z;cases z) (fun qs n z=>by rw[b6]at z;cases z)),b4,b5,b6⟩
 refine Jx ((F _ hKb (nsK hns) BM2).run callerA [] s₁ H ⟨[.ref a],[]⟩ [.ref a] [.ref a] _ _ hr e0 (hbind s₁ (.ref a)) (.cons rfl .nil) (hsp H HP hS)) fun r s' h=>?_
 cases r with
 | error e=>exact (hCX H e s' h).elim
 | ok fl =>
  cases fl with
  | next=>exact False.elim h
  | brk=>exact False.elim h
  | cont=>exact False.elim h
  | ret u =>
   obtain⟨v,H',os,bare,un,hok',r',q⟩:=h;have q':v=.bl true:=q;subst q';obtain rfl:u=Value.bool true:=r'
   have kp:∀ b o,s₁.heap.get? b=some o->b≠P0->s'.heap.get? b=some o:=fun b o e n=>by
    by_cases z:b=a
    ·rcases HA with ⟨_,q1⟩ | ⟨_,q1⟩
     ·have z2:=un.frzs b _ _ (by rw[z];exact q1)
      obtain⟨e2,_⟩:=hok' b _ z2;rw[z,ha]at e;cases e;exact e2
     ·exact un.keep b o e (by rw[z];exact q1) (by intro z;exact absurd (show b∈([]:List Addr) from z) (by simp)) (by simp)
    ·exact un.keep b o e (Hrest b n z) (by intro z;exact absurd (show b∈([]:List Addr) from z) (by simp)) (by simp)
   obtain⟨more,hm⟩:=un.tbls P0 _ HP;have hP':s'.heap.get? P0=some (PySem.W.tabObj (#[]++more)):=hok' P0 _ hm;refine⟨rfl,⟨fun b o e=>?_,fun b o e=>?_⟩,os,bare⟩
   ·by_cases z:b=P0
    ·rw[z]at e ⊢
     have e':=e;rw[hP]at e';cases e';exact .inr (.inl ⟨(C.tab hP).isCodeTable,rfl,#[],more,rfl,hP'⟩)
    ·exact .inl (kp b o e z)
   ·by_cases z:b=P0
    ·exact⟨_,by rw[z];exact hP'⟩
    ·exact⟨o,kp b o e z⟩
theorem walk_ofT {l:PySem.W.OpenLaw}{n k:Nat}{q:Program}{loose:List Str}{XP:(Str->Option Value)->Heap->Prop}{YP:World->Heap->Prop}{d:DefRec}{K:Params->PySem.W.Frag}{CX:World->rP}{sp:World->Sp}{x nm:Str}{c0 P0:Addr}
  (hn:l.most=some n) (hn2:n<=sizeLine) (hdf:d.params.defaults=[]) (hr:cx k callerA)
  (hY:∀ (w:World)(h:Heap),YP w h->(K w.params).In h)
  (hTY:∀ (w:World)(h:Heap),YP w h->h.get? P0=some (PySem.W.tabObj #[])) (hch:∀ w:World,PySem.W.codeHdIn (K w.params) c0 P0=true) (htab:∀ w:World,PySem.W.tabIn (K w.params) nm=some (c0,P0)) (hnt:∀ w:World,PySem.W.noTabs (K w.params)=true)
  (F:∀ (w:World)(mg:Str->Option Value)(fa:Addr)(h:Heap),(K w.params).In h->h.Ns mainGlobals mg->mg d.name=some (.ref fa)->kR (K w.params) c0 P0->PySem.W.tabIn (K w.params) nm=some (c0,P0) ->
   ∃ fd:FuncData,(∀ (s:Shared)(u:Value),BindsTo s fd ⟨[u],[]⟩ [(x,u)]) /\
    ∀ base:Heap,(K w.params).In base->base.Ns mainGlobals mg->ui mg base->aS l.prog w (K w.params) mg base (CX w) k fa fd [x] (sp w))
  (hsp:∀ (w:World)(H:Hp)(a:Addr)(ns:List Int),ns.length<=n->H P0=some (.tbl #[])->aL (K w.params) H a (ns.map V.int)->sp w [.ref a] H (fun v _=>v=.bl true) fun _ _ _=>False)
  (hCX:∀ (w:World)(H:Hp)(s:Shared)(e:Value)(s':Shared),CX w [] H s (fun _ _ _=>False) e s'->False) :
  PySem.W.WalkO q loose XP YP l.row.toRowW d [] (fun f vs=>PySem.call f vs):=by
 refine Att.attach_call hn hdf fun w s₀ s₁ mg mb fa o pm cd doc a vs ns G Y ho hd hcd hmg hobj hints hlen hg=>?_;have KX:=hY w _ Y;have CH:=PySem.W.codeHd_of_K KX (hch w);have hP:=hTY w _ Y;obtain⟨fd,hb,hF⟩:=F w mg fa _ KX G.T.g hmg (AN (htab w) KX CH) (htab w);exact zU KX G.T.g G.T.b G.T.builtins G.T.nolimit hg hobj hints (Ix hlen hn2) hr (hnt w) CH hP G.T.bmain hF hb (fun H hO hS=>hsp w H a ns hlen hO hS) fun H e s'=>hCX w H s₁ e s'
end L2
namespace Wz
open PySem L2
abbrev Nd:=Int×Option Int×Nat
def aA (t:List Nd):List Int:=t.map (·.1)
def sE (R:Int->Int->Bool)(f:Int)(gs:List Int):Nat->List Nd×List Int
 | 0=>([(f,none,0)],gs.filter fun x=>decide (x≠f))
 | n+1=>match (sE R f gs n).1[n]? with
  | none=>sE R f gs n
  | some p=>((sE R f gs n).1++((sE R f gs n).2.filter (R p.1)).map (fun x=>(x,some p.1,p.2.2+1)),(sE R f gs n).2.filter fun x=>!R p.1 x)
structure eY (R:Int->Int->Bool)(f:Int)(gs:List Int)(n:Nat)(t:List Nd)(left:List Int):Prop where
 kn:(aA t).Nodup
 ln:left.Nodup
 dj:∀ x∈aA t,x∉left
 all:∀ x,(x∈aA t\/x∈left)↔(x=f\/x∈gs)
 hd:t[0]? = some (f,none,0)
 up:∀ i e,t[i+1]? = some e->∃ j p,j<=i/\j<n/\t[j]? = some p/\e.2.1=some p.1/\e.2.2=p.2.2+1/\R p.1 e.1=true/\e.1∈gs
 mono:∀ (i j:Nat)(a b:Nd),i<=j->t[i]? = some a->t[j]? = some b->a.2.2<=b.2.2
 last:∀ (j:Nat)(a b:Nd),t[n]? = some a->t[j]? = some b->b.2.2<=a.2.2+1
 near:∀ i a,i<n->t[i]? = some a->∀ y,(y=f\/y∈gs)->R a.1 y=true->∃ (j:Nat)(b:Nd),t[j]? = some b/\b.1=y/\b.2.2<=a.2.2+1
theorem FP {R:Int->Int->Bool}{f:Int}{gs:List Int}(nd:gs.Nodup):eY R f gs 0 (sE R f gs 0).1 (sE R f gs 0).2:=by
 have one:∀ {j:Nat}{b:Nd},([(f,none,0)]:List Nd)[j]? = some b->j=0/\b=(f,none,0):=fun {j b} h=>by
  cases j with
  | zero=>simp at h;exact⟨rfl,h.symm⟩
  | succ j=>simp at h
 refine⟨by simp[sE,aA],nd.sublist (JY),?_,?_,rfl,?_,?_,?_,?_⟩
 ·intro x hx hl
  simp[sE,aA]at hx hl;exact hl.2 hx
 ·intro x
  simp only[sE,aA,Iw,List.map_nil,HR,Iy,decide_eq_true_eq]
  by_cases e:x=f
  ·simp[e]
  ·simp[e]
 ·intro i e h
  have:=(one h).1;omega
 ·intro i j a b _ h1 h2
  rw[(one h1).2,(one h2).2];exact Hv _
 ·intro j a b h1 h2
  rw[(one h1).2,(one h2).2];exact Ip _
 ·intro i a h
  omega
theorem Ax {R:Int->Int->Bool}{f:Int}{gs:List Int}{n:Nat}{t:List Nd}{left:List Int}{p:Nd}(T:eY R f gs n t left)(hp:t[n]? = some p) :
  eY R f gs (n+1) (t++(left.filter (R p.1)).map (fun x=>(x,some p.1,p.2.2+1))) (left.filter fun x=>!R p.1 x):=by
 have nl:=(List.getElem?_eq_some_iff.mp hp).1
 have kk:aA (t++(left.filter (R p.1)).map (fun x=>(x,some p.1,p.2.2+1)))=aA t++left.filter (R p.1):=by
  unfold aA;rw[Ii,IA]
  congr 1
  exact List.map_id _
 have get:∀ {j:Nat}{b:Nd},(t++(left.filter (R p.1)).map (fun x=>(x,some p.1,p.2.2+1)))[j]? = some b->t[j]? = some b\/(t.length<=j/\b.1∈left.filter (R p.1)/\b.2.1=some p.1/\b.2.2=p.2.2+1):=fun {j b} h=>by
  by_cases hj:j<t.length
  ·rw[List.getElem?_append_left hj]at h
   exact .inl h
  ·rw[List.getElem?_append_right (by omega),List.getElem?_map]at h
   cases e:(left.filter (R p.1))[j-t.length]? with
   | none=>rw[e]at h;cases h
   | some x =>
    rw[e]at h;cases h;exact .inr ⟨by omega,Hx e,rfl,rfl⟩
 have old:∀ {j:Nat}{b:Nd},t[j]? = some b->(t++(left.filter (R p.1)).map (fun x=>(x,some p.1,p.2.2+1)))[j]? = some b:=fun {j b} h=>by
  rw[List.getElem?_append_left (List.getElem?_eq_some_iff.mp h).1];exact h
 have lgs:∀ x∈left,x∈gs:=fun x hx=>by
  rcases (T.all x).mp (.inr hx) with z | z
  ·exact absurd hx (T.dj x (by
    have:=Hx T.hd
    rw[z];exact IG (f:=(·.1)) this))
  ·exact z
 refine⟨?_,T.ln.sublist JY,?_,?_,old T.hd,?_,?_,?_,?_⟩
 ·rw[kk]
  refine JN.mpr ⟨T.kn,T.ln.sublist JY,fun a ha b hb e=>?_⟩;exact T.dj a ha (by rw[e];exact (Iy.mp hb).1)
 ·intro x hx hl
  rw[kk]at hx;obtain⟨h1,h2⟩:=Iy.mp hl;rcases Ie.mp hx with z | z
  ·exact T.dj x z h1
  ·rw[(Iy.mp z).2]at h2;cases h2
 ·intro x
  rw[kk,<-T.all x,Ie,Iy,Iy]
  by_cases h1:x∈aA t<;>by_cases h2:x∈left<;>cases h3:R p.1 x<;>simp[h1,h2,h3]
 ·intro i e h
  rcases get h with z | ⟨z1,z2,z3,z4⟩
  ·obtain⟨j,q,h1,h2,h3,r⟩:=T.up i e z
   exact⟨j,q,h1,by omega,old h3,r⟩
  ·obtain⟨h1,h2⟩:=Iy.mp z2
   exact⟨n,p,by omega,by omega,old hp,z3,z4,h2,lgs _ h1⟩
 ·intro i j a b hij h1 h2
  rcases get h1 with z | ⟨z1,z2,z3,z4⟩
  ·rcases get h2 with y | ⟨y1,y2,y3,y4⟩
   ·exact T.mono i j a b hij z y
   ·rw[y4];exact T.last i p a hp z
  ·rcases get h2 with y | ⟨y1,y2,y3,y4⟩
   ·have:=(List.getElem?_eq_some_iff.mp y).1
    omega
   ·rw[z4,y4];exact Hv _
 ·intro j a b h1 h2
  have ha:p.2.2<=a.2.2:=by
   rcases get h1 with z | ⟨z1,z2,z3,z4⟩
   ·exact T.mono n (n+1) p a (by omega) hp z
   ·omega
  rcases get h2 with y | ⟨y1,y2,y3,y4⟩
  ·have:=T.last j p b hp y
   omega
  ·omega
 ·intro i a hi h y hy hr
  rcases get h with z | ⟨z1,_⟩
  ·by_cases hin:i<n
   ·obtain⟨j,b,h1,h2,h3⟩:=T.near i a hin z y hy hr
    exact⟨j,b,old h1,h2,h3⟩
   ·have ei:i=n:=by omega
    rw[ei,hp]at z;cases z;rcases (T.all y).mpr hy with q | q
    ·obtain⟨b,hb,eb⟩:=IB.mp q
     obtain⟨j,hj,ej⟩:=Jq hb
     have hj2:t[j]? = some b:=by rw[List.getElem?_eq_getElem hj,ej]
     exact⟨j,b,old hj2,eb,T.last j p b hp hj2⟩
    ·have hm:y∈left.filter (R p.1):=Iy.mpr ⟨q,hr⟩
     obtain⟨j,hj,ej⟩:=Jq hm;refine⟨t.length+j,(y,some p.1,p.2.2+1),?_,rfl,Hv _⟩;rw[List.getElem?_append_right (by omega),List.getElem?_map,show t.length+j-t.length=j by omega,List.getElem?_eq_getElem hj,ej];rfl
  ·omega
def Ef (o:Option Int):V:=match o with | none=>.non | some p=>.int p
def dB (t:List Nd):List (bP×V):=t.map fun e=>(Sum.inl e.1,Ef e.2.1)
theorem CW (a b:List Nd):dB (a++b)=dB a++dB b:=Ii
theorem wy {t:List Nd}{x:Int}(h:x∉aA t):cH (dB t) (Sum.inl x)=none:=by
 induction t with
 | nil=>rfl
 | cons e t ih =>
  have h1:¬ x=e.1:=fun z=>h (by rw[z];exact HV);have h2:x∉aA t:=fun z=>h (HL _ z)
  show cH ((Sum.inl e.1,Ef e.2.1)::dB t) _=none
  rw[gf (fun z=>h1 (Sum.inl.inj z).symm)];exact ih h2
theorem uG:∀ {t:List Nd}{i:Nat}{e:Nd},(aA t).Nodup->t[i]? = some e->cH (dB t) (Sum.inl e.1)=some (Ef e.2.1)
 | p::t,0,e,_,h=>by cases h;exact h8 (p:=(Sum.inl p.1,Ef p.2.1)) rfl
 | p::t,i+1,e,nd,h=>by
  have h:t[i]? = some e:=h;have nd:(p.1::aA t).Nodup:=nd;rw[Iz]at nd;have ne:¬ p.1=e.1:=fun z=>nd.1 (by rw[z];exact IG (f:=(·.1)) (Hx h))
  show cH ((Sum.inl p.1,Ef p.2.1)::dB t) _=_
  rw[gf (fun z=>ne (Sum.inl.inj z))];exact uG nd.2 h
theorem qx {t:List Nd}{x:Int}(nd:(aA t).Nodup):(cH (dB t) (Sum.inl x)).isSome=decide (x∈aA t):=by
 by_cases h:x∈aA t
 ·obtain⟨e,he,ee⟩:=IB.mp h
  obtain⟨i,hi⟩:=List.getElem?_of_mem he;have:=uG nd hi;rw[show e.1=x from ee]at this;rw[this,HY h];rfl
 ·rw[wy h,Ih h];rfl
theorem CY {t:List Nd}{x p:Int}{d:Nat}(h:x∉aA t):dq (dB t) (Sum.inl x) (.int p)=dB (t++[(x,some p,d)]):=by
 rw[CW];unfold dq;rw[Hu]
 ·rfl
 ·rw[hZ,wy h];exact HN
theorem iB {K:PySem.W.Frag}{tt:TT}{Qf:Hp->Prop}{lr q:Addr}{rs:List Int}{f:Int->Bool}{rest:St}{H:Hp}(hq:H q=none)(h1:H lr=some (.lst (rs.map V.int)))(hlen:rs.length<=1000)
  (ht:∀ (r:Int)(HK:Hp)(Q':Bool->Hp->Prop),r∈rs->aB H HK->(∀ H5,aB HK H5->Q' (f r) H5)->tt (some (.int r)::rest) HK Q')
  (k:∀ (HK:Hp),aB H HK->HK q=some (.lst ((rs.filter f).map V.int))->Qf HK) :
  i8 (Co K lr) (lC 0) (Aw tt (B1 0) q) { nx:=fun _ H'=>Qf H',rt:=fun _ _=>False } (none::rest) (upd H q (.lst [])):=by
 refine bj (K:=K) (a:=lr) (xs:=rs.map V.int) (fun i σ HK=>∃ (v:Option V),σ=v::rest/\aB H HK/\HK q=some (.lst (((rs.take i).filter f).map V.int)))
  ⟨none,rfl,ah hq,ac⟩ (fun i σ HK _ ⟨_,_,s2,_⟩=>aL.of (s2 _ _ h1)) ?_ ?_
 ·rintro i y σ HK hi ⟨v,rfl,t1,hq2⟩
  obtain⟨r,hr0,rfl⟩:=aY hi;have hil:i<rs.length:=(List.getElem?_eq_some_iff.mp hr0).1
  have ex:(rs.take (i+1)).filter f=(rs.take i).filter f++[r].filter f:=by rw[Iv,hr0,ID,Je]
  have hl2:((rs.take i).filter f).length<=i:=Ix (IV _ _) (by rw[Io];omega);refine rM (ht r HK _ (Hx hr0) t1 fun H5 s5=>?_)
  cases e:f r with
  | true =>
   rw[Hw rfl];refine⟨_,rfl,_,s5 _ _ hq2,by rw[Hs];exact aG (by omega),_,rfl,aZ (t1.trans s5) hq,?_⟩;rw[ac,ex,show [r].filter f=[r] by simp[e],Ii];rfl
  | false =>
   rw[Hu HN];exact⟨_,rfl,t1.trans s5,by rw[ex,show [r].filter f=[] by simp[e],Jw];exact s5 _ _ hq2⟩
 ·rintro σ HK ⟨v,rfl,t1,hq2⟩
  rw[Hs,Ir]at hq2;exact k HK t1 hq2
inductive yx (J:Hp->Prop) (R:Int->Int->Bool) (vs:List V) (H:Hp) (Q:VK) (E_:XK):Prop
 | mk (a b:Int) (h_0:vs=[.int a,.int b]) (h_1:J H) (h_2:∀ H',aB H H'->Q (.bl (R a b)) H'):yx J R vs H Q E_
def D0 (R:Int->Int->Bool)(f:Int)(gs:List Int)(t:List Nd):Prop:=∃ left,eY R f gs t.length t left
inductive vG (J:Hp->Prop) (R:Int->Int->Bool) (fl:Addr) (vs:List V) (H:Hp) (Q:VK) (E_:XK):Prop
 | mk (f:Int) (lg:Addr) (gs:List Int) (h_0:vs=[.int f,.ref lg,.ref fl]) (h_1:H lg=some (.lst (gs.map V.int))) (h_2:gs.Nodup) (h_3:gs.length<=200) (h_4:J H) (h_5:∀ (q:Addr)(t:List Nd)(H':Hp),H q=none->aB H H'->H' q=some (.dK (dB t))->D0 R f gs t->t.length<=gs.length+1->Q (.ref q) H'):vG J R fl vs H Q E_
theorem AY (f:Int->Bool)(l:List Int):(l.filter f).length+(l.filter fun x=>!f x).length=l.length:=by
 induction l with
 | nil=>rfl
 | cons a l ih=>cases e:f a<;>simp[List.filter_cons,e]<;>omega
def DH (R:Int->Int->Bool)(f:Int)(gs:List Int)(H:Hp)(lg fl tr lr:Addr)(n:Nat)(σ:St)(HH:Hp):Prop:=∃ (t:List Nd)(left:List Int)(la:Addr)(v7 v8 v9:Option V),σ=[some (.int f),some (.ref lg),some (.ref fl),some (.ref tr),some (.ref lr),some (.ref la),some (.int (n:Int)),v7,v8,v9]/\aB H HH/\HH tr=some (.dK (dB t))/\HH lr=some (.lst ((aA t).map V.int))/\HH la=some (.lst (left.map V.int))/\la≠lr/\eY R f gs n t left/\n<=t.length/\t.length+left.length<=gs.length+1
def dQ (p:Nd)(l:List Int):List Nd:=l.map fun x=>(x,some p.1,p.2.2+1)
theorem qq (p:Nd)(l:List Int):aA (dQ p l)=l:=by unfold aA dQ;rw[IA];exact List.map_id _
theorem lO (a b:List Nd):aA (a++b)=aA a++aA b:=Ii
end Wz
namespace L2
open PySem PySem.Spec PyProof.Rows
end L2
namespace Wz
open PySem L2
inductive Cv (R:Int->Int->Bool) (gs:List Int):Int->Int->Nat->Prop
 | nil (x:Int):Cv R gs x x 0
 | snoc {x y z:Int} {k:Nat}:Cv R gs x y k->R y z=true->z∈gs->Cv R gs x z (k+1)
theorem xp {R:Int->Int->Bool}{f:Int}{gs:List Int}{t:List Nd}{left:List Int}{n:Nat}(T:eY R f gs n t left):∀ (m j:Nat)(b:Nd),j<=m->t[j]? = some b->Cv R gs f b.1 b.2.2/\b.2.2<=j
 | m,0,b,_,h=>by
  rw[T.hd]at h;cases h;exact⟨.nil _,Hv _⟩
 | m+1,j+1,b,hj,h=>by
  obtain⟨i,p,h1,h2,h3,h4,h5,h6,h7⟩:=T.up j b h;obtain⟨W,l⟩:=xp T m i p (by omega) h3;rw[h5];exact⟨.snoc W h6 h7,by omega⟩
theorem pS {t:List Nd}{x:Int}(h:x∈aA t):∃ (i:Nat)(e:Nd),t[i]? = some e/\e.1=x:=by
 obtain⟨e,he,ee⟩:=IB.mp h;obtain⟨i,hi⟩:=List.getElem?_of_mem he;exact⟨i,e,hi,ee⟩
theorem pB {t:List Nd}{i:Nat}{e:Nd}(h:t[i]? = some e):e.1∈aA t:=IG (f:=(·.1)) (Hx h)
structure vU (R:Int->Int->Bool)(t:List Nd)(g:Int)(es:List Nd):Prop where
 hd:∃ a,es[0]? = some a/\a.1=g
 mem:∀ e∈es,e∈t
 step:∀ (i:Nat)(a b:Nd),es[i]? = some a->es[i+1]? = some b->R b.1 a.1=true/\a.2.2=b.2.2+1
theorem EN {R:Int->Int->Bool}{t:List Nd}{i:Nat}{e:Nd}(h:t[i]? = some e):vU R t e.1 [e] :=
 ⟨⟨e,rfl,rfl⟩,fun x hx=>by rw[HR.mp hx];exact Hx h,fun i a b _ q=>by simp at q⟩
theorem yB {R:Int->Int->Bool}{f:Int}{gs:List Int}{t:List Nd}{left:List Int}{n:Nat}(T:eY R f gs n t left){g:Int}{es:List Nd}{b:Nd}{q:Int}(w:vU R t g es)(hl:es.getLast? = some b)(hq:b.2.1=some q):∃ p,p.1=q/\p∈t/\b.2.2=p.2.2+1/\vU R t g (es++[p]):=by
 have hb:=w.mem b (List.mem_of_getLast? hl);obtain⟨j,hj⟩:=List.getElem?_of_mem hb
 cases j with
 | zero=>rw[T.hd]at hj;cases hj;cases hq
 | succ j =>
  obtain⟨i,p,h1,h2,h3,h4,h5,h6,h7⟩:=T.up j b hj;rw[hq]at h4;refine⟨p,(Hy h4).symm,Hx h3,h5,?_,?_,?_⟩
  ·obtain⟨a,ha,e⟩:=w.hd
   exact⟨a,by rw[List.getElem?_append_left (List.getElem?_eq_some_iff.mp ha).1];exact ha,e⟩
  ·intro x hx
   rcases Ie.mp hx with z | z
   ·exact w.mem x z
   ·rw[HR.mp z];exact Hx h3
  ·intro i a c q1 q2
   by_cases hi:i+1<es.length
   ·rw[List.getElem?_append_left (by omega)]at q1
    rw[List.getElem?_append_left hi]at q2;exact w.step i a c q1 q2
   ·have hi2:i+1=es.length:=by
     have:=(List.getElem?_eq_some_iff.mp q2).1;simp at this;omega
    rw[List.getElem?_append_right (by omega),hi2,Nat.sub_self]at q2;cases q2;rw[List.getElem?_append_left (by omega)]at q1;rw[List.getLast?_eq_getElem?,show es.length-1=i by omega,q1]at hl;cases hl;exact⟨h6,h5⟩
theorem DA {R:Int->Int->Bool}{f:Int}{gs:List Int}{t:List Nd}{left:List Int}{n:Nat}(T:eY R f gs n t left){b:Nd}(hb:b∈t)(hq:b.2.1=none):b=(f,none,0):=by
 obtain⟨j,hj⟩:=List.getElem?_of_mem hb
 cases j with
 | zero=>rw[T.hd]at hj;exact (Hy hj).symm
 | succ j =>
  obtain⟨i,p,h1,h2,h3,h4,_⟩:=T.up j b hj;rw[hq]at h4;cases h4
theorem Bn {o:Option Int}:(decide (Ef o=.non))=o.isNone:=by cases o<;>rfl
def gi (st:b7):List Int:=aD (ak st.worn)
end Wz
namespace L2
open PySem PySem.Spec PyProof.Rows
end L2
namespace Wz
open PySem L2
theorem p7 {K:PySem.W.Frag}{te:TE}{Qf:Hp->Prop}{lr q:Addr}{rs:List Int}{f:Int->Bool}{rest:St}{H:Hp}(hq:H q=none)(h1:H lr=some (.lst (rs.map V.int)))(hlen:rs.length<=1000)
  (ht:∀ (r:Int)(HK:Hp)(Q':VK),r∈rs->aB H HK->(∀ H5,aB HK H5->Q' (.bl (f r)) H5)->te (some (.int r)::rest) HK Q')
  (k:∀ (HK:Hp),aB H HK->HK q=some (.lst ((rs.map f).map V.bl))->Qf HK) :
  i8 (Co K lr) (lC 0) (Aw sP te q) { nx:=fun _ H'=>Qf H',rt:=fun _ _=>False } (none::rest) (upd H q (.lst [])):=by
 refine bj (K:=K) (a:=lr) (xs:=rs.map V.int) (fun i σ HK=>∃ v:Option V,σ=v::rest/\aB H HK/\HK q=some (.lst (((rs.take i).map f).map V.bl)))
  ⟨none,rfl,ah hq,ac⟩ (fun i σ HK _ ⟨_,_,s2,_⟩=>aL.of (s2 _ _ h1)) ?_ ?_
 ·rintro i y σ HK hi ⟨v,rfl,t1,hq2⟩
  obtain⟨r,hr0,rfl⟩:=aY hi;have hil:i<rs.length:=(List.getElem?_eq_some_iff.mp hr0).1;refine jZ (ht r HK _ (Hx hr0) t1 fun H5 s5=>?_);refine⟨_,s5 _ _ hq2,by rw[Hs,Hs,Io];exact aG (by omega),_,rfl,aZ (t1.trans s5) hq,?_⟩;rw[ac,Iv,hr0,ID,Ii,Ii];rfl
 ·rintro σ HK ⟨v,rfl,t1,hq2⟩
  rw[Hs,Ir]at hq2;exact k HK t1 hq2
theorem yw (l:List Int):aD (aD l)=aD l :=
 List.Perm.eq_of_pairwise (fun a b _ _ h1 h2=>Int.le_antisymm h1 h2) (kM _) (kM _) (cG _)
theorem zL {K:PySem.W.Frag}{a:Addr}{xs:List V}{g:TG}{tb:TS}{D:im}{σ:St}{H:Hp}{i:Nat}(hv:σ[i]? = some (some (.ref a)))(Pv:Nat->St->Hp->Prop)(h0:Pv 0 σ H)(hl:∀ i σ H,i<=xs.length->Pv i σ H->aL K H a xs)
  (hs:∀ i x σ H,xs[i]? = some x->Pv i σ H->g x σ H fun σ2 H2=>tb { D with nx:=Pv (i+1),ct:=Pv (i+1),bk:=D.nx } σ2 H2) (hd:∀ σ H,Pv xs.length σ H->D.nx σ H):FI (A5 K (B1 i)) g tb D σ H :=
 ⟨_,hv,a,rfl,⟨_,hl 0 σ H (Ip _) h0⟩,bj Pv h0 hl hs hd⟩
theorem fC.seq {K:PySem.W.Frag}{P a:Addr}{H H':Hp}{pos:Pos}{qual:Str}{xs:List V}(k:fC P H H')(t:cL H P pos qual)(s:aL K H a xs):aL K H' a xs:=by
 rcases s with (e | ⟨o,e⟩) | r
 ·exact .inl (.inl (k.get t e (fun ps z=>by cases z)))
 ·exact .inl (.inr ⟨o,k.get t e (fun ps z=>by cases z)⟩)
 ·exact .inr r
open PySem PySem.SetTable
open PySem PySem.Spec PyProof.Rows L2 PySem.SetTable
section
variable {P:Program}{w:World}{A:Around}{E:Value->Shared->Prop}{s:Shared}{a:Addr}{es:Array (Int×Value)}{ep:Nat}{t:SetTable}{L:List Int}
end
section
variable {P:Program}{w:World}{A:Around}{E:Value->Shared->Prop}{s:Shared}{a d I:Addr}{es:Array (Int×Value)}{ep:Nat}{t:SetTable}{L:List Int}
end
end Wz
set_option maxRecDepth 1000000
set_option maxHeartbeats 8000000
namespace Wz
open PySem PySem.Spec PyProof.Rows L2 PySem.SetTable
section
variable {P:Program}{w:World}{A:Around}{E:Value->Shared->Prop}{s:Shared}
end
section
variable {X:Cx}
end
open PySem L2
theorem zZ {K:PySem.W.Frag}{te:TE}{Qf:Hp->Prop}{lr q:Addr}{rs:List Int}{f:Int->V}{rest:L2.St}{H:Hp}(hq:H q=none)(h1:H lr=some (.lst (rs.map V.int)))(hlen:rs.length<=1000)
  (ht:∀ (r:Int)(HK:Hp)(Q':VK),r∈rs->aB H HK->(∀ H5,aB HK H5->Q' (f r) H5)->te (some (.int r)::rest) HK Q') (k:∀ (HK:Hp),aB H HK->HK q=some (.lst (rs.map f))->Qf HK) :
  i8 (Co K lr) (lC 0) (Aw sP te q) { nx:=fun _ H'=>Qf H',rt:=fun _ _=>False } (none::rest) (upd H q (.lst [])):=by
 refine bj (K:=K) (a:=lr) (xs:=rs.map V.int) (fun i σ HK=>∃ v:Option V,σ=v::rest/\aB H HK/\HK q=some (.lst ((rs.take i).map f))) ⟨none,rfl,ah hq,ac⟩ (fun i σ HK _ ⟨_,_,s2,_⟩=>aL.of (s2 _ _ h1)) ?_ ?_
 ·rintro i y σ HK hi ⟨v,rfl,t1,hq2⟩
  obtain⟨r,hr0,rfl⟩:=aY hi;have hil:i<rs.length:=(List.getElem?_eq_some_iff.mp hr0).1;refine jZ (ht r HK _ (Hx hr0) t1 fun H5 s5=>⟨_,s5 _ _ hq2,by rw[Hs,Io];exact aG (by omega),_,rfl,aZ (t1.trans s5) hq,?_⟩);rw[ac,Iv,hr0,ID,Ii];rfl
 ·rintro σ HK ⟨v,rfl,t1,hq2⟩
  rw[Hs,Ir]at hq2;exact k HK t1 hq2
section
variable {P:Program}{w:World}{A:Around}{E:Value->Shared->Prop}{s:Shared}{a b:Addr}{es:Array (Int×Value)}{ep:Nat}{t:SetTable}{ps:List (Int×Int)}{p:Int×Int}
end
section
variable {P:Program}{w:World}{A:Around}{E:Value->Shared->Prop}{s:Shared}{a b:Addr}{es:Array (Int×Value)}{ep:Nat}{t:SetTable}{ps:List (Int×Int)}{p:Int×Int}
end
section
variable {X:Cx}
end
end Wz
namespace L2
open PySem PySem.Spec PyProof.Rows
end L2
namespace Wz
open PySem L2
end Wz
set_option maxRecDepth 1000000
set_option maxHeartbeats 8000000
namespace Wz
open PySem PySem.Spec PyProof.Rows L2 PySem.SetTable
section
variable {P:Program}{w:World}{A:Around}{E:Value->Shared->Prop}{s:Shared}
end
section
variable {X:Cx}
end
open PySem L2
end Wz
namespace Tm
open PySem PyProof.Rows
def el (xs:Array Keyed)(i:Nat):Keyed:=xs.getD i (.none,.none)
structure Hq (P:Program)(w:World)(A:Around)(s:Shared)(κ:SortKind)(a0:Array Keyed)(lt:Keyed->Keyed->Bool):Prop where
 cmp:∀ {x y:Keyed}{E:Value->Shared->Prop}{Q:Bool->Prop},x∈a0->y∈a0->Q (lt x y)->wpAny (model P w) A (keyLt' κ x.1 y.1) (fun b s'=>s'=s/\Q b) E s
 irr:∀ x,lt x x=false
 tr:∀ x y z,lt x y=true->lt y z=true->lt x z=true
 tot:∀ x y,x∈a0->y∈a0->x≠y->lt x y=true\/lt y x=true
 nd:a0.toList.Nodup
structure G8 (κ:SortKind)(a0:Array Keyed)(st:SortSt):Prop where
 pm:(arrOf st).Perm a0
 fl:failedOf st=none
 kd:kindOf st=κ
section
variable {P:Program}{w:World}{A:Around}{E:Value->Shared->Prop}{s:Shared}{κ:SortKind}{a0:Array Keyed}{lt:Keyed->Keyed->Bool}{st:SortSt}
def Up (lt:Keyed->Keyed->Bool)(xs:Array Keyed)(lo hi:Nat):Prop:=∀ i j,lo<=i->i<j->j<hi->lt (el xs i) (el xs j)=true
def Dn (lt:Keyed->Keyed->Bool)(xs:Array Keyed)(lo hi:Nat):Prop:=∀ i j,lo<=i->i<j->j<hi->lt (el xs j) (el xs i)=true
def Ho (xs ys:Array Keyed)(lo hi:Nat):Prop:=∀ i,i<lo\/hi<=i->el ys i=el xs i
def G9 (st st':SortSt):Prop:=pendingOf st'=pendingOf st/\gallopOf st'=gallopOf st
end
def FY:Bool->Keyed->Array Keyed->Nat->Nat->Nat->StateT SortSt Sem (Option Nat):=sortPriv% PySem.Builtin.gallop
def Bf (lt:Keyed->Keyed->Bool)(left:Bool)(key:Keyed)(xs:Array Keyed)(b i:Nat):Bool:=if left=true then lt (el xs (b+i)) key else !lt key (el xs (b+i))
section
variable {P:Program}{w:World}{A:Around}{E:Value->Shared->Prop}{s:Shared}{κ:SortKind}{a0:Array Keyed}{lt:Keyed->Keyed->Bool}{st:SortSt}
end
def Fn (R:Keyed->Keyed->Prop)(T r:List Keyed):Prop:=r.Perm T/\r.Pairwise R
structure J (R:Keyed->Keyed->Prop)(T out ra rb:List Keyed):Prop where
 pm:(out++(ra++rb)).Perm T
 so:out.Pairwise R
 oa:∀ x,x∈out->∀ y,y∈ra->R x y
 ob:∀ x,x∈out->∀ y,y∈rb->R x y
 sa:ra.Pairwise R
 sb:rb.Pairwise R
 la:∀ x,x∈rb->∀ z,ra.getLast? = some z->R x z
section
variable {R:Keyed->Keyed->Prop}{T out ra rb p:List Keyed}
end
def Fh:Array Keyed->Array Keyed->StateT SortSt Sem (Array Keyed):=sortPriv% PySem.Builtin.mergeLo
def Cr:Nat->StateT SortSt Sem Unit:=sortPriv% PySem.Builtin.setMinGallop
structure Hr (a0:Array Keyed)(lt:Keyed->Keyed->Bool)(a b:Array Keyed):Prop where
 ma:∀ i,i<a.size->el a i∈a0
 mb:∀ i,i<b.size->el b i∈a0
 ne:∀ i j,i<a.size->j<b.size->el a i≠el b j
 ua:Up lt a 0 a.size
 ub:Up lt b 0 b.size
 za:0<a.size
 zb:0<b.size
 h0:lt (el b 0) (el a 0)=true
 hl:lt (el b (b.size-1)) (el a (a.size-1))=true
def aB (st st':SortSt):Prop:=arrOf st'=arrOf st/\failedOf st'=failedOf st/\kindOf st'=kindOf st/\pendingOf st'=pendingOf st
def Jl (lt:Keyed->Keyed->Bool)(a b:Array Keyed)(out:Array Keyed)(ia ib:Nat):Prop:=J (fun x y=>lt x y=true) (a.toList++b.toList) out.toList (a.toList.drop ia) (b.toList.drop ib)
def Sl (lt:Keyed->Keyed->Bool)(a b:Array Keyed)(n:Nat)(r:Option (Array Keyed))(out:Array Keyed)(ia ib:Nat):Prop :=
 (∃ q,r=some q/\Fn (fun x y=>lt x y=true) (a.toList++b.toList) q.toList)\/(r=none/\Jl lt a b out ia ib/\ia+1<a.size/\ib<b.size/\n<=out.size)
section
variable {P:Program}{w:World}{A:Around}{E:Value->Shared->Prop}{s:Shared}{κ:SortKind}{a0:Array Keyed}{lt:Keyed->Keyed->Bool}{st:SortSt}{a b out:Array Keyed}{ia ib k n:Nat}
end
section
variable {P:Program}{w:World}{A:Around}{E:Value->Shared->Prop}{s:Shared}{κ:SortKind}{a0:Array Keyed}{lt:Keyed->Keyed->Bool}{st:SortSt}{a b out:Array Keyed}{ia ib k n:Nat}
end
def Fg:Array Keyed->Array Keyed->StateT SortSt Sem (Array Keyed):=sortPriv% PySem.Builtin.mergeHi
def Jh (lt:Keyed->Keyed->Bool)(a b:Array Keyed)(out:Array Keyed)(na nb:Nat):Prop:=J (fun x y=>lt y x=true) (a.toList++b.toList) out.toList (b.toList.take nb).reverse (a.toList.take na).reverse
def Sh (lt:Keyed->Keyed->Bool)(a b:Array Keyed)(n:Nat)(r:Option (Array Keyed))(out:Array Keyed)(na nb:Nat):Prop :=
 (∃ q,r=some q/\Fn (fun x y=>lt x y=true) (a.toList++b.toList) q.toList)\/(r=none/\Jh lt a b out na nb/\0<na/\na<a.size/\1<nb/\nb<=b.size/\n<=out.size)
section
variable {P:Program}{w:World}{A:Around}{E:Value->Shared->Prop}{s:Shared}{κ:SortKind}{a0:Array Keyed}{lt:Keyed->Keyed->Bool}{st:SortSt}{a b out:Array Keyed}{na nb k n:Nat}
end
section
variable {P:Program}{w:World}{A:Around}{E:Value->Shared->Prop}{s:Shared}{κ:SortKind}{a0:Array Keyed}{lt:Keyed->Keyed->Bool}{st:SortSt}{a b out:Array Keyed}{na nb k n:Nat}
end
def Ha (q:Nat)(m arr:Array Keyed):Array Keyed:=m.toList.zipIdx.foldl (fun a (p,j)=>a.setIfInBounds (q+j) p) arr
section
variable {P:Program}{w:World}{A:Around}{E:Value->Shared->Prop}{s:Shared}{κ:SortKind}{a0:Array Keyed}{lt:Keyed->Keyed->Bool}{st:SortSt}
end
def Ch (lt:Keyed->Keyed->Bool)(xs:Array Keyed):Nat->List (Nat×Nat×Nat)->Nat->Prop
 | f,[],u=>f=u
 | f,t::r,u=>t.1=f/\1<=t.2.1/\Up lt xs f (f+t.2.1)/\Ch lt xs (f+t.2.1) r u
section
variable {lt:Keyed->Keyed->Bool}{xs ys:Array Keyed}
end
section
variable {P:Program}{w:World}{A:Around}{E:Value->Shared->Prop}{s:Shared}{κ:SortKind}{a0:Array Keyed}{lt:Keyed->Keyed->Bool}{st:SortSt}
end
end Tm
namespace Qs
open PySem PySem.W PyProof.Rows
open Classical in
noncomputable def dec (h:Heap) (v:Value):Int×Int:=if z:∃ p,PairAt h v p then choose z else (0,0)
section
variable {prog:Program}{w:World}{A:Around}{E:Value->Shared->Prop}{s:Shared}
end
end Qs
namespace Wz
open PySem PySem.Spec PyProof.Rows L2
end Wz
namespace L2
open PySem
end L2
namespace Wz
open PySem L2
section
variable {L:List Int}{es:List aT}(P:ER L es)(h64:(da es).worn.length<64)
include P h64
end
end Wz
namespace L2
open PySem PySem.Spec PyProof.Rows
inductive Fv (K:PySem.W.Frag) (n:Nat) (neg:Bool) (x:V) (y:V) (H:Hp) (Q:VK):Prop
 | mk (p:Addr) (as:List Addr) (d:Dt) (ds:List Dt) (h_0:y=.ref p) (h_1:(aL K H p (as.map V.ref)\/dC K H p (as.map V.ref))) (h_2:RD K H n x d) (h_3:Paired (fun (a:Addr)(e:Dt)=>RD K H n (.ref a) e) as ds) (h_4:∀ k:Bool,(k=true↔d∈ds)->Q (.bl (if neg then !k else k)) H):Fv K n neg x y H Q
section
variable {X:Cx}
open Classical in
theorem xS {pins:List (Addr×Obj)}{σ:St}{H:Hp}{s:Shared}{n:Nat}{A:Around}{x:V}{v:Value}{d:Dt}(I:ax X pins σ H s)(hu:A.units+n<cLine+1)(rx:aO x v)(hx:RD X.K H n x d) :
  ∀ {as:List Addr}{ds:List Dt}{us:List Value},Paired (fun (a:Addr)(e:Dt)=>RD X.K H n (.ref a) e) as ds->aQ (as.map V.ref) us ->
  (∀ u∈us,SeqAt.EqAt A s u v (decide (∃ a,u=.ref a/\RD X.K H n (.ref a) d)))/\(us.any (fun u=>decide (∃ a,u=.ref a/\RD X.K H n (.ref a) d))=true↔d∈ds)
 | _,_,us,.nil,r=>by
  cases r;exact⟨(fun u hu=>(by cases hu)),(by simp)⟩
 | a::as,e::ds,us,.cons he hp,r=>by
  cases r with
  | cons r1 r2 =>
   rename_i u us
   cases r1;obtain⟨ih1,ih2⟩:=xS I hu rx hx hp r2;obtain⟨k,hk,ek⟩:=AV I n hu he hx (show aO (.ref a) (.ref a) from rfl) rx
   have kk:decide (∃ b,Value.ref a=.ref b/\RD X.K H n (.ref b) d)=k:=by
    by_cases z:e=d
    ·rw[hk.mpr z]
     exact HY ⟨a,rfl,z▸he⟩
    ·have:k=false:=by cases k with
      | false=>rfl
      | true=>exact absurd (hk.mp rfl) z
     rw[this];refine Ih fun ⟨b,eb,hb⟩=>z ?_;cases eb;exact RD.inj I he hb
   refine⟨fun w hw=>?_,?_⟩
   ·rcases HW.mp hw with rfl | hw
    ·rw[kk];exact ek
    ·exact ih1 w hw
   ·rw[Jg,kk,Bool.or_eq_true,ih2,HW,hk]
    exact⟨fun z=>z.imp (fun y=>y.symm) id,fun z=>z.imp (fun y=>y.symm) id⟩
theorem Bt (n:Nat)(hu:X.A.units+n<cLine):ph X (compareOp .In) (Fv X.K n false):=by
 intro pins s σ H x y v u Q I rx ry h;obtain⟨p,as,d,ds,rfl,hq,hx,hp,q⟩:=h;cases ry
 have hu':X.A.in1.units+n<cLine+1:=by show X.A.units+1+n<cLine+1;omega
 rcases hq with hq | hq
 ·obtain⟨its,r,pl,hz⟩:=I.list hq
  obtain⟨h1,h2⟩:=xS I hu' rx hx hp r;refine SeqAt.in_listAt _ pl.isList (fun w hw=>h1 w (by simpa using hw)) ⟨.bl _,H,I,rfl,?_⟩;rw[List.any_toArray];exact q _ h2
 ·obtain⟨its,r,pl,hz⟩:=I.tuple hq
  obtain⟨h1,h2⟩:=xS I hu' rx hx hp r;refine SeqAt.in_tupleAt _ pl (fun w hw=>h1 w (by simpa using hw)) ⟨.bl _,H,I,rfl,?_⟩;rw[List.any_toArray];exact q _ h2
end
end L2
namespace Wz
open PySem L2
section
variable {h p d b v:V}
end
theorem Bw {p:Int×Int}{a b:Int}:sQ [.int p.1,.int p.2]=sQ [.int a,.int b]↔p=(a,b):=by
 rw[B9];constructor
 ·intro h
  injection h with h1 h2;injection h2 with h2 _;exact Prod.ext (V.int.inj h1) (V.int.inj h2)
 ·intro h;rw[h]
end Wz
namespace L2
open PySem PySem.Spec PyProof.Rows
end L2
namespace Wz
open PySem L2
end Wz
namespace L2
open PySem PySem.Spec PyProof.Rows
theorem ax.turnedL {X:Cx}{pins:List (Addr×Obj)}{σ:St}{H:Hp}{s:Shared}{h':Heap}{t':Nat}{ch:List Addr}(I:ax X pins σ H s)(k:∀ b o,b∉ch->s.heap.get? b=some o->h'.get? b=some o)(f:∀ b∈ch,gU X pins H b):ax X pins σ H { s with heap:=h',toks:=t' }:=by
 have nit:∀ b u,H b=some u->b∉ch:=fun b u q z=>by
  have:=(f b z).1;rw[this]at q;cases q
 refine I.step (g':=s.gens) (d':=s.drawn) (ch:=ch) (fun b hb=>?_) (fun b o _ _ hc q _=>k b o hc q) (fun b o _ _ hc q _=>⟨o.slots,k b o hc q⟩) (fun _ _ _ _ n=>n)
  (fun b o hc q=>⟨o,k b o hc q⟩) (fun _ _ q=>q) (fun _ _ _ q=>q) (fun b ps q=>⟨#[],by rw[q];simp⟩) (fun m hm=>?_) (fun b u q=>?_) I.bare
 ·obtain⟨e0,e1,e2,e3,e4,e5⟩:=f b hb
  exact⟨e3,e1,e4,e5⟩
 ·obtain⟨o,es,ep,ho,r⟩:=hm
  exact⟨o,es,ep,k _ o (fun z=>(f _ z).2.1 rfl) ho,r⟩
 ·refine (I.hok b u q).stay (fun c v hc z=>k c v ?_ z) (fun _ z=>z) fun _ _ z=>z
  rcases hc with z | z
  ·rw[z];exact nit b u q
  ·exact nit c _ z
def EX (K:PySem.W.Frag)(l1 l2:Addr):It :=
 ⟨fun i H=>∃ xs ys x y,aL K H l1 xs/\aL K H l2 ys/\xs[i]? = some x/\ys[i]? = some y,fun i H v H'=>∃ T x y,H T=none/\v=.ref T/\H'=upd H T (.tup [x,y])/\(∀ xs,aL K H l1 xs->xs[i]? = some x)/\∀ ys,aL K H l2 ys->ys[i]? = some y,fun i H=>∃ xs ys,aL K H l1 xs/\aL K H l2 ys/\(xs.length<=i\/ys.length<=i)⟩
theorem Cb {P:Program}{w:World}{K:PySem.W.Frag}{elts:List Expr} {kk}{pos:Pos}(z TI TO i1 i2 l1 l2:Addr)(D:ZipApart z TI TO i1 i2 l1 l2):vT P w K (.Tuple elts kk pos) (EX K l1 l2) [z,TI,TO,i1,i2] z (fun i h=>IsZip h z TI TO .none/\IsPair h TI (.ref i1) (.ref i2)/\(∃ a b,IsPair h TO a b)/\h.IsListIter i1 l1 i/\h.IsListIter i2 l2 i) where
 mem:=by simp
 obj:=fun i h st b hb=>by
  obtain⟨hz,h1,⟨a,b',h2⟩,⟨o3,e3,c3,d3⟩,⟨o4,e4,c4,d4⟩⟩:=st;simp only[HW,JV,or_false]at hb;rcases hb with rfl | rfl | rfl | rfl | rfl
  ·exact⟨_,hz,fun v z=>by cases z⟩
  ·exact⟨_,h1,fun v z=>by cases z⟩
  ·exact⟨_,h2,fun v z=>by cases z⟩
  ·exact⟨o3,e3,fun v z=>by rw[d3]at z;cases z⟩
  ·exact⟨o4,e4,fun v z=>by rw[d4]at z;cases z⟩
 keep:=fun i h h' st k=>by
  obtain⟨hz,h1,⟨a,b',h2⟩,h3,h4⟩:=st;exact⟨k z (by simp) _ hz,k TI (by simp) _ h1,⟨a,b',k TO (by simp) _ h2⟩,h3.at fun o x=>k i1 (by simp) o x,h4.at fun o x=>k i2 (by simp) o x⟩
 item:=by
  intro X hP hw hK hc i pins s σ H E I hf st hg;subst hP hw hK;obtain⟨xs,ys,x,y,hq1,hq2,hx,hy⟩:=hg;obtain⟨its,rv,p,hz0⟩:=I.list hq1;obtain⟨jts,rv2,p2,hz2⟩:=I.list hq2;obtain⟨u,hu,ru⟩:=rv.get hx;obtain⟨u2,hu2,ru2⟩:=rv2.get hy;obtain⟨hz,h1,⟨a,b',h2⟩,h3,h4⟩:=st
  have lt:∀ b∈[z,TI,TO,i1,i2],b<s.heap.objs.size:=fun b hb=>by
   simp only[HW,JV,or_false]at hb;rcases hb with rfl | rfl | rfl | rfl | rfl
   ·exact HQ hz
   ·exact HQ h1
   ·exact HQ h2
   ·obtain⟨_,q,_⟩:=id h3;exact HQ q
   ·obtain⟨_,q,_⟩:=id h4;exact HQ q
  refine wpAny_pyNext_zip_item D hz h1 h2 h3 h4 p.isList p2.isList (x:=u) (y:=u2) (by simpa using hu) (by simpa using hu2) fun h' a1 a2 a3 a4 a5 a6 a7=>⟨.ref s.heap.objs.size,rfl,?_⟩;refine wpAny_letOwnedTupleGo_zip (s:={ s with heap:=h' }) a1 fun h9 he9 sb9=>?_;have hfr:H s.heap.objs.size=none:=I.hok.fresh (Hv _)
  have IL:ax X pins σ (upd H s.heap.objs.size (.tup [x,y])) { s with heap:=s.heap.push { cls:=.type "tuple",data:=.seq #[u,u2] },toks:=s.toks } :=
   I.laid (fun b o q=>Heap.get?_push_of_some _ q) (Hv _) ⟨by show 2<=sizeLine;decide,[u,u2],.cons ru (.cons ru2 .nil),⟨_,Heap.get?_push_size _ rfl,rfl,_,rfl⟩⟩
  have fp':∀ b,b<s.heap.objs.size->gU X pins H b->gU X pins (upd H s.heap.objs.size (.tup [x,y])) b:=fun b hb ⟨f0,f1,f2,f3,f4,f5⟩=>⟨by rw[ae (Ib hb)];exact f0,f1,f2,f3,f4,f5⟩
  have nm:∀ b,b∉[z,TI,TO,i1,i2]->b≠z/\b≠TO/\b≠i1/\b≠i2:=fun b hb=>by
   simp only[HW,JV,or_false,not_or]at hb;exact⟨hb.1,hb.2.2.1,hb.2.2.2.1,hb.2.2.2.2⟩
  have I2:ax X pins σ (upd H s.heap.objs.size (.tup [x,y])) { s with heap:=h9,toks:=s.toks }:=ax.turnedL (s:={ s with heap:=s.heap.push { cls:=.type "tuple",data:=.seq #[u,u2] },toks:=s.toks }) IL (t':=s.toks) (h':=h9) (ch:=[z,TI,TO,i1,i2]) (fun b o n q=>by
   obtain⟨n1,n2,n3,n4⟩:=nm b n;refine (sb9.2 b n1).trans ?_
   show h'.get? b=some o
   by_cases hb:b=s.heap.objs.size
   ·subst hb
    have q:(s.heap.push { cls:=.type "tuple",data:=.seq #[u,u2] }).get? s.heap.objs.size=some o:=q;rw[Heap.get?_push_size _ rfl]at q;cases q;exact a5
   ·have q:(s.heap.push { cls:=.type "tuple",data:=.seq #[u,u2] }).get? b=some o:=q
    rw[Heap.get?_push_ne _ _ _ hb]at q
    exact a7 b o n1 n2 n3 n4 q) (fun b hb=>fp' b (lt b hb) (hf b hb))
  refine⟨.ref s.heap.objs.size,_,I2,rfl,⟨s.heap.objs.size,x,y,hfr,rfl,rfl,(fun zs hz=>by rw[I.list_inj hz hq1];exact hx),(fun zs hz=>by rw[I.list_inj hz hq2];exact hy)⟩,⟨he9,(sb9.2 TI D.TIz).trans ?_,⟨_,_,(sb9.2 TO D.TOz).trans a2⟩,a3.at fun o q=>(sb9.2 i1 D.i1z).trans q,a4.at fun o q=>(sb9.2 i2 D.i2z).trans q⟩,fun b hb=>(fp' b (lt b hb) (hf b hb)).1⟩;exact a7 TI _ D.TIz D.TITO D.TIi1 D.TIi2 h1
 done:=by
  intro X hP hw hK hc i pins s σ H E I hf st hg;subst hP hw hK;obtain⟨xs,ys,hq1,hq2,hl⟩:=hg;obtain⟨its,rv,p,hz0⟩:=I.list hq1;obtain⟨jts,rv2,p2,hz2⟩:=I.list hq2;obtain⟨hz,h1,⟨a,b',h2⟩,h3,h4⟩:=st;have l1:=rv.length;have l2:=rv2.length;refine wpAny_pyNext_zip_end (I.ok.hd hc) D hz h1 h2 h3 h4 p.isList p2.isList ?_ fun h' eb=>⟨rfl,I.turnedL (t':=s.toks) (ch:=[z,TI,TO,i1,i2]) (fun b o n q=>?_) hf⟩
  ·rcases hl with q | q
   ·exact .inl (by simp;omega)
   ·exact .inr (by simp;omega)
  ·simp only[HW,JV,or_false,not_or]at n
   exact eb b o n.1 n.2.2.1 n.2.2.2.1 n.2.2.2.2 q
 self:=fun _ _ _ _ _ st h=>wpAny_pyIter_zip st.1 h
def Gk (K:PySem.W.Frag)(t:TA):TI:=fun σ H R=>t σ H fun vs H1=>∃ l1 l2,vs=[.ref l1,.ref l2]/\(∃ xs,aL K H1 l1 xs)/\(∃ ys,aL K H1 l2 ys)/\R (EX K l1 l2) H1
theorem Es {X:Cx}{elts:List Expr} {kk}{tpos:Pos}{a b:Expr}{ta:TA}{p pos:Pos}(hg:Gl X "zip")(hm:X.mg "zip" = none)(ha:PA X [a,b] ta)
  (he:starEach [a,b] X.env=(false,eval a X.env)::starEach [b] X.env:=by rfl) (hpl:(backTo pos (starEach [b] X.env)).any (·.1)=false:=by rfl):PI X (.Tuple elts kk tpos) (.Call (.Name "zip" p) [a,b] [] pos) (Gk X.K ta):=by
 intro pins s σ H R I h;refine IX (mY I hg hm boot_zip ?_ (by decide) (by decide));refine JH (bc (ha pos pins s σ H _ I h) fun us s1 ⟨vs,H1,I1,r1,l1,l2,e1,⟨xs,hq⟩,⟨ys,hq2⟩,q⟩=>?_) he hpl;subst e1;obtain⟨u,u2,rfl,rx,ry⟩:=FQ r1;cases rx;cases ry;obtain⟨its,rv,pl,hz⟩:=I1.list hq;obtain⟨jts,rv2,pl2,hz2⟩:=I1.list hq2;refine call_zip_2 pl.isList pl2.isList fun h' a1 a2 a3 a4 a5 a6 hk=>?_;have I2:ax X pins σ H1 { s1 with heap:=h',toks:=s1.toks }:=I1.kept hk;refine wpAny_pyIter_zip (s:={ s1 with heap:=h' }) a1 ?_;have lt:∀ {l:Addr}{xs:Array Value},s1.heap.IsList l xs->l<s1.heap.objs.size:=fun ⟨o,e,_⟩=>HQ e;have L1:=lt pl.isList;have L2:=lt pl2.isList;refine⟨s1.heap.objs.size+4,[s1.heap.objs.size+4,s1.heap.objs.size+2,s1.heap.objs.size+3,s1.heap.objs.size,s1.heap.objs.size+1],_,_,H1,rfl,I2,Cb _ _ _ _ _ l1 l2 ?_,⟨a1,a2,⟨_,_,a3⟩,a4,a5⟩,fun b hb=>?_,q⟩
 ·constructor<;>first | exact Ib (Ij L1 (Nat.le_add_right _ _)) | exact Ib (Ij L2 (Nat.le_add_right _ _)) | exact Ib L1 | exact Ib L2 | exact fun q=>by have q:(_:Nat)=_:=q;omega
 ·simp only[HW,JV,or_false]at hb
  rcases hb with rfl | rfl | rfl | rfl | rfl<;>exact I1.fpOk (by omega) (I1.hok.fresh (by omega))
theorem CN {K:PySem.W.Frag}{a b:Addr}{xs ys:List V}{g:TG}{tb:TS}{D:im}{σ:St}{H:Hp}(Pv:Nat->St->Hp->Prop)(hle:ys.length<=xs.length)(h0:Pv 0 σ H)(hl:∀ i σ H,i<=ys.length->Pv i σ H->aL K H a xs/\aL K H b ys)
  (hs:∀ i x y σ H T,xs[i]? = some x->ys[i]? = some y->Pv i σ H->H T=none->g (.ref T) σ (upd H T (.tup [x,y])) fun σ2 H2=>tb { D with nx:=Pv (i+1),ct:=Pv (i+1),bk:=D.nx } σ2 H2) (hd:∀ σ H,Pv ys.length σ H->D.nx σ H) :
  ∃ W:Nat->Nat->St->Hp->Prop,(∃ m,W 0 m σ H)/\∀ i m σ H,W i m σ H ->
   ((EX K a b).stop i H/\D.nx σ H)\/((EX K a b).go i H/\∃ N:St->Hp->Prop,(∀ σ' H',N σ' H'->∃ m',m'<m/\W (i+1) m' σ' H')/\∀ x H',(EX K a b).yld i H x H'->g x σ H' fun σ2 H2=>tb { D with nx:=N,ct:=N,bk:=D.nx } σ2 H2):=by
 refine⟨fun i m σ H=>m=ys.length-i/\i<=ys.length/\Pv i σ H,⟨ys.length,by simp,Ip _,h0⟩,?_⟩;rintro i m σ H ⟨rfl,hi,p⟩;obtain⟨q,q2⟩:=hl i σ H hi p
 by_cases hlt:i<ys.length
 ·refine .inr ⟨⟨xs,ys,xs[i]'(by omega),ys[i],q,q2,List.getElem?_eq_getElem _,by simp[hlt]⟩,Pv (i+1),fun σ' H' p'=>⟨ys.length-(i+1),by omega,rfl,hlt,p'⟩,fun y H' z=>?_⟩
  obtain⟨T,x,y2,hT,e1,e2,hx,hy⟩:=z;subst e1 e2;exact hs i x y2 σ _ T (hx xs q) (hy ys q2) p hT
 ·have e:i=ys.length:=by omega
  subst e;exact .inl ⟨⟨xs,ys,q,q2,.inr (Hv _)⟩,hd σ H p⟩
theorem wq {α:Type}:∀ (l:List α),((List.range l.length).map fun (k:Nat)=>(((l.length:Int)-1)+(-1)*(k:Int)).toNat).filterMap (l[·]?)=l.reverse:=fun l=>by
 have h:∀ n,n<=l.length->((List.range n).map fun (k:Nat)=>(((l.length:Int)-1)+(-1)*(k:Int)).toNat).filterMap (l[·]?)=(l.drop (l.length-n)).reverse:=by
  intro n
  induction n with
  | zero=>intro _;simp
  | succ n ih =>
   intro hn;rw[List.range_succ,Ii,List.filterMap_append,ih (by omega)]
   have e:(((l.length:Int)-1)+(-1)*(n:Int)).toNat=l.length-(n+1):=by omega
   have hd:l.drop (l.length-(n+1))=l[l.length-(n+1)]'(by omega)::l.drop (l.length-n):=by
    rw[List.drop_eq_getElem_cons (by omega),show l.length-(n+1)+1=l.length-n by omega]
   rw[hd,List.reverse_cons]
   congr 1
   simp only[Iw,List.map_nil,JW,List.filterMap_nil,e];rw[List.getElem?_eq_getElem (by omega)]
 have:=h l.length (Hv _)
 rwa [Nat.sub_self,List.drop_zero]at this
theorem Av (its:List Value):slicePick its.toArray none none (some (-1))=its.reverse.toArray:=by
 have b:sliceBounds none none (some (-1)) its.length=((its.length:Int)-1,-1,-1):=rfl;unfold slicePick;rw[HU,b];dsimp only;unfold sliceRange;dsimp only;rw[Hu (by decide)]
 have c:(if (its.length:Int)-1 > -1 then ((its.length:Int)-1 - -1 - -1-1)/(- -1) else 0)=(its.length:Int):=by
  by_cases z:(its.length:Int)-1 > -1
  ·rw[Hw z,show ((its.length:Int)-1 - -1 - -1-1)=(its.length:Int) by omega,show (- -1:Int)=1 from rfl,Int.ediv_one]
  ·rw[Hu z];omega
 rw[c,JM]
 congr 1
 have:=wq its;simpa using this
inductive GY (K:PySem.W.Frag) (Q:VK) (x:V) (H:Hp):Prop
 | mk (a:Addr) (xs:List V) (e:x=.ref a) (q:aL K H a xs) (h:∀ p,H p=none->Q (.ref p) (upd H p (.lst xs.reverse))):GY K Q x H
def Hk (K:PySem.W.Frag)(te:TE):TE:=fun σ H Q=>te σ H fun x H1=>GY K Q x H1
theorem En {X:Cx}{e st:Expr}{te:TE}{p2 pos:Pos}(he:PE X e te)(hst:PE X st (tC (.int (-1)))):PE X (.Subscript e (.Slice none none (some st) p2) pos) (Hk X.K te):=by
 intro pins s σ H Q I h;refine Subscript_ (bc (he pins s σ H _ I h) fun v s1 ⟨x,H1,I1,r1,q1⟩=>?_);obtain⟨a,xs,rfl,hx,q⟩:=q1;cases r1;refine wpAny_Slice ?_;rw[evalPart_none,evalPart_some];refine Hz (Hz (bc (hst pins s1 σ H1 (fun v H'=>v=.int (-1)/\H'=H1) I1 ⟨rfl,rfl⟩) fun vs s3 ⟨z,H3,I3,rz,ez,eh⟩=>?_));subst ez eh;obtain⟨t,rfl⟩:=rz;have I4:ax X pins σ H3 { s3 with heap:=s3.heap.push { cls:=.type "slice",data:=.fields #[.none,.none,.int (-1) t] } }:=I3.kept (t':=s3.toks) fun b ob q=>Heap.get?_push_of_some _ q
 show wpAny (model X.prog X.w) X.A (subscriptTail e (.Slice none none (some st) p2) (.ref a) (.ref s3.heap.objs.size)) (EP X pins σ Q) X.xe { s3 with heap:=s3.heap.push { cls:=.type "slice",data:=.fields #[.none,.none,.int (-1) t] } }
 obtain⟨its,r,ht,hz⟩:=I4.list hx;have hlen:=r.length;refine tail_any (ops:=[.ref a,.ref s3.heap.objs.size]) (T:="list") ht.isList.typeIs slot_list_getitem.lookup ?_ (by with_unfolding_all rfl);refine wpAny_getItem_list_slice ht.isList (Heap.IsSliceOf.new ..) .none .none (.int _ _) (by simp) ?_ (by rw[HU]<;>omega);rw[Av];refine⟨.ref _,_,I4.laid (t':=s3.toks) (o:=.lst xs.reverse) (fun b ob q=>Heap.get?_push_of_some _ q) (Hv _) ?_,rfl,q _ (I4.hok.fresh (Hv _))⟩;exact⟨by rw[JF];exact hz,_,0,r.reverse,Heap.get?_push_size _ rfl⟩
def Du (wi:TI)(g:TG)(tt:TT)(tk tv:TE)(src:List (Option Nat))(i:Nat):TS:=fun D σ H=>wi σ H fun J H1=>∀ a,H1 a=none ->
 i8 J g (GM tt tk tv a) { nx:=fun _ H'=>D.nx (σ.set i (some (.ref a))) H',rt:=fun _ _=>False } (iz src σ) (upd H1 a (.dK []))
theorem BP {X:Cx}{ix:Nat}{x:Str}{px spos:Pos}{kx vx tg iter:Expr}{ifs:List Expr}{sc so:Scope}{pos:Pos}{N':List Str}{src:List (Option Nat)}{wi:TI}{g:TG}{tt:TT}{tk tv:TE}{N:List Str}(hso:X.env.scope=so)(hXN:X.N=N)(S:sV so sc N N' src)(hc:X.calm=true)(hi:PI X tg iter wi)
  (hb:∀ (cl:List (Str×Addr))(C:Addr)(s:Shared)(H:Hp)(ex:List Addr),PG (cz X sc cl C N' s H ex) tg g/\DE (cz X sc cl C N' s H ex) ifs tt/\PE (cz X sc cl C N' s H ex) kx tk/\PE (cz X sc cl C N' s H ex) vx tv)
  (hnd:X.N.Nodup) (hix:X.N[ix]? = some x) (hx:X.env.scope.names.lookup x=some .local)
  (hsw:swapsWith (.DictComp kx vx [⟨tg,iter,ifs,0⟩] sc pos) (some (.Name x px)) spos.line X.env=pure true:=by rfl)
  (hs:∀ x,foldedSetIterable iter X.env x=pure x:=by intro _;rfl):PS X (.Assign [.Name x px] (.DictComp kx vx [⟨tg,iter,ifs,0⟩] sc pos) spos) (Du wi g tt tk tv src ix):=by
 subst hXN;intro pins s σ H D I h
 obtain⟨cl,hcl,q1,q3⟩:=iw (sc:=sc) (env:=X.env) fun y hy hf=>by
  have:=S.fre y hy hf;rw[<-hso]at this;exact I.ok.has y.1 this
 rw[exec_Assign_Name_used _ _ _ _ hsw];refine Ht (IT (Ht ?_))
 show wpAny _ X.A (do let _ <-comprehension (.DictComp kx vx [⟨tg,iter,ifs,0⟩] sc pos) sc X.env _ (newDict) false (eval iter X.env) (some (assign (.Name x px) X.env))) _ _ s
 refine Ht (Il (wpAny_comprehension_free (use:=some (assign (.Name x px) X.env)) (Q:=fun _ s'=>SP X pins D .next s') rfl hs hcl S.kind S.loc (bc (hi pins s σ H _ I h) fun v s1 h1=>bc h1 fun itv s2 h2=>?_)) (fun _ s' hq=>Hz (Hz hq)) fun _ _ e=>e);obtain⟨it,fp,tn,J,H2,e,I2,T,st2,f2,hR⟩:=h2;subst e;refine IM ?_
 have I3:ax X pins σ (upd H2 s2.heap.objs.size (.dK [])) { s2 with heap:=s2.heap.push { cls:=.type "dict",dict:=none,data:=.dict #[] } } :=
  I2.laid (t':=s2.toks) (fun b u q=>Heap.get?_push_of_some _ q) (Hv _) (lu s2.heap I2.big)
 have hfr:=I2.hok.fresh (Hv s2.heap.objs.size);obtain⟨W,⟨m0,w0⟩,turn⟩:=hR _ hfr
 have flt:∀ b∈fp,b<s2.heap.objs.size:=fun b hb=>by obtain⟨o,e,_⟩:=T.obj _ _ st2 b hb;exact HQ e
 generalize hs3:({ s2 with heap:=s2.heap.push { cls:=.type "dict",dict:=none,data:=.dict #[] } }:Shared)=s3 at I3 ⊢
 have e3:s3.heap=s2.heap.push { cls:=.type "dict",dict:=none,data:=.dict #[] }:=by rw[<-hs3]
 have sz3:s3.heap.objs.size=s2.heap.objs.size+1:=by rw[e3,JR]
 have hf3:∀ b∈fp,gU X pins (upd H2 s2.heap.objs.size (.dK [])) b:=fun b hb=>⟨by rw[ae (Ib (flt b hb))];exact (f2 b hb).1,(f2 b hb).2⟩
 have flt3:∀ b∈fp,b<s3.heap.objs.size:=fun b hb=>by rw[sz3];exact Jn (flt b hb)
 have st3:tn 0 s3.heap:=T.keep _ _ _ st2 fun b _ o e=>by rw[e3];exact Heap.get?_push_of_some _ e
 refine JP S.nocell (by intro y hy;simp at hy) (fun h4 hns4 hsb4=>?_) S.kind;have kp4:∀ b o,s3.heap.get? b=some o->h4.get? b=some o:=fun b o e=>hsb4.extBut b o (Ib (HQ e)) (Heap.get?_push_of_some _ e);have I4:=lE (h':=h4) I3 hso S q1 q3 hf3 flt3 (by simpa using hns4) kp4 (s3.toks+([]:List (Str×Value)).length);have st4:tn 0 h4:=T.keep _ _ _ st3 fun b _ o e=>kp4 b o e;generalize hC:s3.heap.objs.size=C at I4 hns4 hsb4 ⊢;obtain⟨hg,ht,hek,hev⟩:=hb cl C s3 (upd H2 s2.heap.objs.size (.dK [])) fp
 let Y:Cx:=cz X sc cl C N' s3 (upd H2 s2.heap.objs.size (.dK [])) fp
 have loop:∀ s5:Shared,s5={ s3 with heap:=h4,toks:=s3.toks+([]:List (Str×Value)).length }->codeAny (model X.prog X.w) X.A (.compLoop (.DictComp kx vx [⟨tg,iter,ifs,0⟩] sc pos) 0 (.ref it) (.ref s2.heap.objs.size) (compEnvC sc cl C X.env))
   (compPost (model X.prog X.w) X.A X.xe (some (assign (.Name x px) X.env)) (fun _ s'=>SP X pins D .next s') (.ref s2.heap.objs.size) C) s5:=by
  rintro s5 rfl
  have stat:∀ {H':Hp},(∀ b∈fp,H' b=none)->∀ b∈fp,gU Y [] H' b:=fun {H'} hn b hb=>by
   obtain⟨f0,f1,f2',f3,f4,f5⟩:=hf3 b hb;refine⟨hn b hb,?_,fun z=>?_,.inl hb,fun x c e=>f4 x c (q1 x c e),fun p hp=>absurd (show p∈([]:List (Addr×Obj)) from hp) (by simp)⟩
   ·show b≠C
    rw[<-hC];exact Ib (flt3 b hb)
   ·have z:b∈gY X.stack:=z
    rcases HW.mp (I3.stkSub b z) with y | y
    ·exact f1 y
    ·exact f2' y
  refine jf (fun n s'=>∃ i σ' H',ax Y [] σ' H' s'/\tn i s'.heap/\(∀ b∈fp,H' b=none)/\W i n σ' H') ?_ m0 ⟨0,_,_,I4,st4,fun b hb=>(hf3 b hb).1,w0⟩;rintro n s6 ⟨i,σ6,H6,I6,st6,fr6,w6⟩;rcases turn i n σ6 H6 w6 with ⟨stop,qn⟩ | ⟨go,Nx,hN,step⟩
  ·refine bc (T.done Y rfl rfl rfl hc i [] s6 σ6 H6 _ I6 (stat fr6) st6 stop) fun r s7 ⟨hr,I7⟩=>?_
   subst hr;obtain⟨m,hn,_⟩:=id I7.loc;have freeC:H6 C=none:=I7.free;have J7:ax X pins σ H6 s7:=I3.call' (ch:=fp) (s':=s7) I7.os I7.base I7.hok I7.bare fun b hb=>⟨(hf3 b hb).2.2.2.1,(hf3 b hb).2.1,(hf3 b hb).2.2.2.2.1,(hf3 b hb).2.2.2.2.2⟩
   have hC3:∀ b o,s3.heap.get? b=some o->b≠C:=fun b o e=>by rw[<-hC];exact Ib (HQ e)
   have hlC:X.env.locals≠C:=by obtain⟨m3,⟨o3,_,_,e3',_⟩,_⟩:=I3.loc;exact hC3 _ _ e3'
   have hcC:∀ y c,X.env.cells.lookup y=some c->c≠C:=fun y c e=>by obtain⟨v3,o3,e3',_⟩:=I3.cell y c e;exact hC3 _ _ e3'
   have hpC:∀ p∈X.pn++pins,p.1≠C:=fun p hp=>hC3 _ _ (I3.pin p hp).1;refine wpAny_assign_Name (nU (i:=ix) (v:=.ref s2.heap.objs.size) J7 hnd hix (.inl hx) rfl (fun s8 I8 ⟨a8,sb8,ha8⟩=>?_) (.inr hx))
   have ha8C:C≠a8:=by
    rcases ha8 with z | z
    ·rw[z];exact Ik hlC
    ·exact Ik (hcC _ _ z)
   refine⟨m,hn.sameBut sb8 ha8C,fun h' hsb=>?_⟩
   have I9:ax X pins (σ.set ix (some (.ref s2.heap.objs.size))) H6 { s8 with heap:=h' } :=
    I8.turned (it:=C) (t':=s8.toks) (fun b o hb e=>(hsb.2 b hb).trans e) freeC (Ik hlC) (.inr (by rw[<-hC];exact I3.sz)) hcC hpC
   exact⟨_,H6,I9,qn⟩
  ·refine bc (T.item Y rfl rfl rfl hc i [] s6 σ6 H6 _ I6 (stat fr6) st6 go) fun r s7 ⟨u,hr,h7⟩=>?_
   subst hr;refine bc h7 fun _ s8 ⟨x,H8,I8,r8,y8,st8,fr8⟩=>?_;have I8':=I8.pinned (stat fr8) (T.obj _ _ st8);refine bc (hg _ s8 σ6 H8 x u _ I8' r8 (step x H8 y8)) fun _ s9 ⟨σ9,H9,I9,q9⟩=>?_
   have again:∀ {s':Shared}{σ7:St}{H7:Hp},ax Y ([]++iJ fp s8.heap) σ7 H7 s'->Nx σ7 H7->∃ m,m<n/\∃ i σ' H',ax Y [] σ' H' s'/\tn i s'.heap/\(∀ b∈fp,H' b=none)/\W i m σ' H':=fun {s' σ7 H7} I7 n7=>by
    obtain⟨m',hm,w7⟩:=hN σ7 H7 n7;refine⟨m',hm,i+1,σ7,H7,I7.unpinned,T.keep _ _ _ st8 fun b hb o e=>(I7.pin (b,o) (Ig _ (Ig _ (bQ hb e)))).1,fun b hb=>?_,w7⟩;obtain⟨o,e,d⟩:=T.obj _ _ st8 b hb;exact (I7.pin (b,o) (Ig _ (Ig _ (bQ hb e)))).2.1
   refine bc (ht _ s9 σ9 H9 _ I9 q9) fun ok s10 ⟨H10,I10,q10⟩=>?_
   cases ok with
   | false =>
    rw[Hu HN]at q10 ⊢;exact again I10 q10
   | true =>
    rw[Hw rfl]at q10 ⊢;refine bc (hek _ s10 σ9 H10 _ I10 q10) fun kv s11 ⟨y,H11,I11,ry,q11⟩=>?_;refine bc (hev _ s11 σ9 H11 _ I11 q11) fun vv s12 ⟨z,H12,I12,rz,kvs,kk,hkv,ey,hlen,q12⟩=>?_;subst ey;exact zG (X:=Y) I12 hkv hlen ry rz fun s13 I13=>again I13 q12
 exact codeAny_compStart_dict (loop _ rfl) (T.self _ 0 _ _ _ st4 (loop _ rfl))
end L2
namespace Wz
open PySem L2
theorem fO {t:List Nd}(kn:(aA t).Nodup){a b:Nd}(ha:a∈t)(hb:b∈t)(e:a.1=b.1):a=b:=by
 induction t with
 | nil=>cases ha
 | cons c t ih =>
  have kn:(c.1::aA t).Nodup:=kn;rw[Iz]at kn;have m:∀ {x:Nd},x∈t->x.1∈aA t:=fun h=>IG (f:=(·.1)) h;rcases HW.mp ha with z | z<;>rcases HW.mp hb with y | y
  ·rw[z,y]
  ·exact absurd (by rw[<-z,e];exact m y) kn.1
  ·exact absurd (by rw[<-y,<-e];exact m z) kn.1
  ·exact ih kn.2 z y
structure lb (t:List Nd)(g:Int)(w:List Nd):Prop where
 hd:∃ a,w[0]? = some a/\a.1=g
 mem:∀ e∈w,e∈t
 pr:∀ (i:Nat)(a b:Nd),w[i]? = some a->w[i+1]? = some b->a.2.1=some b.1/\a.2.2=b.2.2+1
section
variable {R:Int->Int->Bool}{f:Int}{gs:List Int}{t:List Nd}{left:List Int}{n:Nat}(T:eY R f gs n t left)
include T
theorem yC {g:Int}{w:List Nd}(W:lb t g w){i:Nat}{a:Nd}(hi:t[i]? = some a)(ha:a.1=g):∀ (k:Nat)(e:Nd),w[k]? = some e->∃ j,j+k<=i/\t[j]? = some e
 | 0,e,h=>by
  obtain⟨b,hb,eb⟩:=W.hd;rw[h]at hb;cases hb;have:=fO T.kn (W.mem e (Hx h)) (Hx hi) (eb.trans ha.symm);exact⟨i,Hv _,by rw[this];exact hi⟩
 | k+1,e,h=>by
  have hk:k<w.length:=by have:=(List.getElem?_eq_some_iff.mp h).1;omega
  obtain⟨c,hc⟩:∃ c,w[k]? = some c:=⟨_,List.getElem?_eq_getElem hk⟩;obtain⟨j,hj,hjt⟩:=yC W hi ha k c hc;obtain⟨p1,p2⟩:=W.pr k c e hc h
  cases j with
  | zero=>rw[T.hd]at hjt;cases hjt;cases p1
  | succ j =>
   obtain⟨j2,p,h1,_,h3,h4,_⟩:=T.up j c hjt;rw[p1]at h4;have:=fO T.kn (W.mem e (Hx h)) (Hx h3) (Hy h4);exact⟨j2,by omega,by rw[this];exact h3⟩
theorem Ce {g:Int}{w:List Nd}(W:lb t g w){k:Nat}{a b:Nd}(h1:w[k]? = some a)(h2:w[k+1]? = some b):R b.1 a.1=true:=by
 obtain⟨p1,_⟩:=W.pr k a b h1 h2;obtain⟨j,hj⟩:=List.getElem?_of_mem (W.mem a (Hx h1))
 cases j with
 | zero=>rw[T.hd]at hj;cases hj;cases p1
 | succ j =>
  obtain⟨j2,p,_,_,h3,h4,_,h6,_⟩:=T.up j a hj;rw[p1]at h4;rw[Hy h4];exact h6
omit T in
theorem iX {g:Int}{w:List Nd}(W:lb t g w):∀ (m k:Nat)(a b:Nd),w[k]? = some a->w[k+m]? = some b->a.2.2=b.2.2+m
 | 0,k,a,b,h1,h2=>by rw[Nat.add_zero,h1]at h2;cases h2;rfl
 | m+1,k,a,b,h1,h2=>by
  have hk:k+1<w.length:=by have:=(List.getElem?_eq_some_iff.mp h2).1;omega
  obtain⟨c,hc⟩:∃ c,w[k+1]? = some c:=⟨_,List.getElem?_eq_getElem hk⟩;have e1:=(W.pr k a c h1 hc).2;have e2:=iX W m (k+1) c b hc (by rw[show k+1+m=k+(m+1) by omega];exact h2);omega
omit T in
theorem ug (kn:(aA t).Nodup){g:Int}{w:List Nd}(W:lb t g w):(aA w).Nodup:=by
 unfold aA;rw[List.nodup_iff_pairwise_ne]at *;rw[JO];rw[JQ];intro i j hi hj hij e;have hab:=fO kn (W.mem _ (List.getElem_mem hi)) (W.mem _ (List.getElem_mem hj)) e;have:=iX W (j-i) i w[i] w[j] (List.getElem?_eq_getElem hi) (by rw[show i+(j-i)=j by omega];exact List.getElem?_eq_getElem hj);rw[hab]at this;omega
theorem xq {g h:Int}{w v:List Nd}(W:lb t g w)(V:lb t h v):∀ (m i j:Nat),w[i]? = v[j]?->i+m<w.length->j+m<v.length->w[i+m]? = v[j+m]?
 | 0,i,j,e,_,_=>e
 | m+1,i,j,e,h1,h2=>by
  have ih:=xq W V m i j e (by omega) (by omega);obtain⟨a,ha⟩:∃ a,w[i+m]? = some a:=⟨_,List.getElem?_eq_getElem (by omega)⟩;obtain⟨b,hb⟩:∃ b,w[i+m+1]? = some b:=⟨_,List.getElem?_eq_getElem (by omega)⟩;obtain⟨c,hc⟩:∃ c,v[j+m+1]? = some c:=⟨_,List.getElem?_eq_getElem (by omega)⟩;rw[ha]at ih;have p1:=(W.pr _ a b ha hb).1;have p2:=(V.pr _ a c ih.symm hc).1;rw[p1]at p2;have:=fO T.kn (W.mem b (Hx hb)) (V.mem c (Hx hc)) (Hy p2)
  show w[i+m+1]? = v[j+m+1]?
  rw[hb,hc,this]
end
def kI (w v:List Nd)(a b:Nat):List Int:=aA (w.take a)++(aA (v.take b)).dropLast.reverse
theorem By {l:List Int}{p:Int×Int}(h:p∈bA l):∃ i:Nat,l[i]? = some p.1/\l[i+1]? = some p.2:=by
 unfold bA at h;obtain⟨i,hi⟩:=List.getElem?_of_mem h;rw[List.getElem?_zip_eq_some]at hi;refine⟨i,hi.1,?_⟩;have:=hi.2
 rwa [List.getElem?_drop,Nat.add_comm]at this
structure F6 (R:Int->Int->Bool)(t:List Nd)(i:Nat)(one other:Int)(l:List Int):Prop where
 hd:l.head? = some one
 ls:l.getLast? = some other
 nd:l.Nodup
 ix:∀ x∈l,∃ (j:Nat)(e:Nd),j<=i/\t[j]? = some e/\e.1=x
 lk:∀ p∈bA l,R p.1 p.2=true
theorem x6 {R:Int->Int->Bool}(sy:∀ a b,R a b=R b a){f:Int}{gs:List Int}{t:List Nd}{left:List Int}{n:Nat}(T:eY R f gs n t left){one other:Int}{w v:List Nd}(W:lb t one w)(V:lb t other v){a b:Nat}(ha:1<=a/\a<=w.length)(hb:1<=b/\b<=v.length)
  (hl:w[a-1]? = v[b-1]?) (hx:¬ (1<a/\1<b/\w[a-2]? = v[b-2]?)) {i:Nat} {x y:Nd} {ix iy:Nat} (hxi:t[ix]? = some x) (ex:x.1=one) (lx:ix<=i) (hyi:t[iy]? = some y) (ey:y.1=other) (ly:iy<=i):F6 R t i one other (kI w v a b):=by
 have lw:(aA (w.take a)).length=a:=by unfold aA;rw[Hs,Io];omega
 have lv:(aA (v.take b)).length=b:=by unfold aA;rw[Hs,Io];omega
 have gw:∀ k,k<a->(aA (w.take a))[k]? = (w[k]?).map (·.1):=fun k hk=>by unfold aA;rw[List.getElem?_map,List.getElem?_take,Hw hk]
 have gv:∀ k,k<b->(aA (v.take b))[k]? = (v[k]?).map (·.1):=fun k hk=>by unfold aA;rw[List.getElem?_map,List.getElem?_take,Hw hk]
 have lr:((aA (v.take b)).dropLast.reverse).length=b-1:=by rw[JF,IY,lv]
 have at1:∀ k,k<a->(kI w v a b)[k]? = (w[k]?).map (·.1):=fun k hk=>by unfold kI;rw[List.getElem?_append_left (by omega),gw k hk]
 have at2:∀ k,k<b-1->(kI w v a b)[a+k]? = (v[b-2-k]?).map (·.1):=fun k hk=>by
  unfold kI;rw[List.getElem?_append_right (by omega),lw,show a+k-a=k by omega,List.getElem?_reverse (by rw[IY,lv];omega),IY,lv,List.getElem?_dropLast,Hw (by rw[lv];omega),gv _ (by omega)]
  congr 2<;>omega
 have len:(kI w v a b).length=a+(b-1):=by unfold kI;rw[Ia,lw,lr]
 have wi:∀ k,k<w.length->∃ e,w[k]? = some e:=fun k hk=>⟨_,List.getElem?_eq_getElem hk⟩;have vi:∀ k,k<v.length->∃ e,v[k]? = some e:=fun k hk=>⟨_,List.getElem?_eq_getElem hk⟩;have nw:=ug T.kn W;have nv:=ug T.kn V;refine⟨?_,?_,?_,?_,?_⟩
 ·rw[List.head?_eq_getElem?,at1 0 (by omega)]
  obtain⟨c,hc,ec⟩:=W.hd;rw[hc,<-ec];rfl
 ·rw[List.getLast?_eq_getElem?,len]
  obtain⟨c,hc,ec⟩:=V.hd
  by_cases z:b=1
  ·rw[show a+(b-1)-1=a-1 by omega,at1 (a-1) (by omega),hl,z,hc,<-ec];rfl
  ·rw[show a+(b-1)-1=a+(b-2) by omega,at2 (b-2) (by omega),show b-2-(b-2)=0 by omega,hc,<-ec];rfl
 ·unfold kI
  refine JN.mpr ⟨?_,?_,?_⟩
  ·unfold aA;rw[List.map_take];exact nw.sublist (JL _ _)
  ·refine (List.reverse_perm _).nodup_iff.mpr ?_
   refine List.Nodup.sublist (List.dropLast_sublist _) ?_;unfold aA;rw[List.map_take];exact nv.sublist (JL _ _)
  ·intro p hp q hq e
   rw[List.mem_reverse]at hq;obtain⟨i1,h1⟩:=List.getElem?_of_mem hp;obtain⟨j1,h2⟩:=List.getElem?_of_mem hq
   have hi1:i1<a:=by have:=(List.getElem?_eq_some_iff.mp h1).1;omega
   have hj1:j1<b-1:=by have:=(List.getElem?_eq_some_iff.mp h2).1;rw[IY,lv]at this;exact this
   rw[gw i1 hi1]at h1;rw[List.getElem?_dropLast,Hw (by rw[lv];omega),gv j1 (by omega)]at h2;obtain⟨c1,hc1⟩:=wi i1 (by omega);obtain⟨c2,hc2⟩:=vi j1 (by omega);rw[hc1]at h1;rw[hc2]at h2;have e1:c1.1=p:=Hy h1;have e2:c2.1=q:=Hy h2;have ec:=fO T.kn (W.mem c1 (Hx hc1)) (V.mem c2 (Hx hc2)) (by rw[e1,e2];exact e);subst ec;obtain⟨d1,hd1⟩:=wi (a-1) (by omega);have dd:=hl;rw[hd1]at dd;have k1:=iX W (a-1-i1) i1 c1 d1 hc1 (by rw[show i1+(a-1-i1)=a-1 by omega];exact hd1);have k2:=iX V (b-1-j1) j1 c1 d1 hc2 (by rw[show j1+(b-1-j1)=b-1 by omega];exact dd.symm);refine hx ⟨by omega,by omega,?_⟩;have:=xq T W V (a-2-i1) i1 j1 (by rw[hc1,hc2]) (by omega) (by omega);rw[show i1+(a-2-i1)=a-2 by omega,show j1+(a-2-i1)=b-2 by omega]at this;exact this
 ·intro z hz
  unfold kI at hz;rcases Ie.mp hz with q | q
  ·obtain⟨k,hk⟩:=List.getElem?_of_mem q
   have hka:k<a:=by have:=(List.getElem?_eq_some_iff.mp hk).1;omega
   rw[gw k hka]at hk;obtain⟨e,he⟩:=wi k (by omega);rw[he]at hk;obtain⟨j,hj,hjt⟩:=yC T W hxi ex k e he;exact⟨j,e,by omega,hjt,Hy hk⟩
  ·have q:=(List.dropLast_sublist _).subset (List.mem_reverse.mp q)
   obtain⟨k,hk⟩:=List.getElem?_of_mem q
   have hkb:k<b:=by have:=(List.getElem?_eq_some_iff.mp hk).1;omega
   rw[gv k hkb]at hk;obtain⟨e,he⟩:=vi k (by omega);rw[he]at hk;obtain⟨j,hj,hjt⟩:=yC T V hyi ey k e he;exact⟨j,e,by omega,hjt,Hy hk⟩
 ·intro p hp
  obtain⟨k,h1,h2⟩:=By hp
  have hk2:k+1<a+(b-1):=by have:=(List.getElem?_eq_some_iff.mp h2).1;rw[len]at this;exact this
  by_cases c1:k+1<a
  ·rw[at1 k (by omega)]at h1
   rw[at1 (k+1) c1]at h2;obtain⟨e1,he1⟩:=wi k (by omega);obtain⟨e2,he2⟩:=wi (k+1) (by omega);rw[he1]at h1;rw[he2]at h2;rw[sy,<-Hy h1,<-Hy h2];exact Ce T W he1 he2
  ·obtain⟨m,hm⟩:∃ m,k+1=a+m:=⟨k+1-a,by omega⟩
   rw[hm,at2 m (by omega)]at h2;obtain⟨e2,he2⟩:=vi (b-2-m) (by omega);rw[he2]at h2
   have:∃ e1,v[b-2-m+1]? = some e1/\e1.1=p.1:=by
    cases m with
    | zero =>
     rw[show k=a-1 by omega,at1 (a-1) (by omega)]at h1;obtain⟨e1,he1⟩:=wi (a-1) (by omega);rw[he1]at h1 hl;exact⟨e1,by rw[show b-2-0+1=b-1 by omega];exact hl.symm,Hy h1⟩
    | succ m =>
     rw[show k=a+m by omega,at2 m (by omega)]at h1;obtain⟨e1,he1⟩:=vi (b-2-m) (by omega);rw[he1]at h1;exact⟨e1,by rw[show b-2-(m+1)+1=b-2-m by omega];exact he1,Hy h1⟩
   obtain⟨e1,he1,ee1⟩:=this;rw[<-ee1,<-Hy h2];exact Ce T V he2 he1
theorem DI:∀ (l:List Int)(x:Int)(f:Int->Int),(x::l).Nodup->(∀ z,(x::l).getLast? = some z->(bA (x::l)).foldl cw f z=f x)/\∀ y,y∉x::l->(bA (x::l)).foldl cw f y=f y
 | [],x,f,_=>⟨fun z h=>by cases h;rfl,fun y _=>rfl⟩
 | b::l,x,f,nd=>by
  have nd':=Iz.mp nd;obtain⟨i1,i2⟩:=DI l b (cw f (x,b)) nd'.2;have e:bA (x::b::l)=(x,b)::bA (b::l):=rfl;refine⟨fun z h=>?_,fun y hy=>?_⟩
  ·rw[e,Jy,i1 z (by rw[List.getLast?_cons_cons]at h;exact h)]
   unfold cw;rw[Hw rfl]
  ·rw[e,Jy,i2 y (fun z=>hy (HL _ z))]
   unfold cw;rw[Hu (fun z=>hy (by rw[z];exact HL _ HV)),Hu (fun z=>hy (by rw[z];exact HV))]
structure E5 (R:Int->Int->Bool)(t:List Nd)(F:Int->Int)(k:Nat)(ps:List (Int×Int)):Prop where
 pr:∀ p∈ps,p.1∈aA t/\p.2∈aA t/\p.1≠p.2/\R p.1 p.2=true
 len:2*ps.length+t.length+k*k<=t.length*t.length+k
 home:∀ (j:Nat)(e:Nd),k<=j->t[j]? = some e->ps.foldl cw F e.1=e.1
theorem GN {R:Int->Int->Bool}{t:List Nd}{F:Int->Int}:E5 R t F t.length []:=by
 refine⟨fun p hp=>(by cases hp),by simp;omega,fun j e hj h=>?_⟩;have:=(List.getElem?_eq_some_iff.mp h).1;omega
theorem jB {t:List Nd}(kn:(aA t).Nodup){i:Nat}{l:List Int}(nd:l.Nodup)(h:∀ x∈l,∃ (j:Nat)(e:Nd),j<=i/\t[j]? = some e/\e.1=x):l.length<=i+1:=by
 have hs:∀ x∈l,x∈(aA t).take (i+1):=fun x hx=>by
  obtain⟨j,e,hj,ht,ee⟩:=h x hx
  have:((aA t).take (i+1))[j]? = some x:=by rw[List.getElem?_take,Hw (by omega)];unfold aA;rw[List.getElem?_map,ht,<-ee];rfl
  exact Hx this
 have:=bO nd hs;rw[Io]at this;omega
theorem B7 {R:Int->Int->Bool}{t:List Nd}{F:Int->Int}{k:Nat}{ps:List (Int×Int)}(kn:(aA t).Nodup)(h:E5 R t F (k+1) ps){e:Nd}(he:t[k]? = some e){x:Int}(hx:ps.foldl cw F x=e.1){l:List Int}(M:F6 R t k x e.1 l):E5 R t F k (ps++bA l):=by
 have inK:∀ z∈l,z∈aA t:=fun z hz=>by
  obtain⟨j,a,_,ha,ea⟩:=M.ix z hz;rw[<-ea];exact pB ha
 have ll:=jB kn M.nd M.ix;refine⟨fun p hp=>?_,?_,fun j a hj ha=>?_⟩
 ·rcases Ie.mp hp with z | z
  ·exact h.pr p z
  ·obtain⟨q1,q2,q3⟩:=Aj M.nd z
   exact⟨inK _ q2,inK _ q3,q1,M.lk p z⟩
 ·rw[Ia,qy]
  have:=h.len
  have e1:(k+1)*(k+1)=k*k+2*k+1:=by rw[Nat.add_mul,Nat.mul_add];omega
  omega
 ·rw[JC]
  have hd:=M.hd
  cases l with
  | nil=>cases hd
  | cons y l =>
   have ey:y=x:=Hy hd;obtain⟨c1,c2⟩:=DI l y (ps.foldl cw F) M.nd
   by_cases z:j=k
   ·rw[z,he]at ha;cases ha
    rw[c1 e.1 M.ls,ey];exact hx
   ·rw[c2 a.1 (fun q=>?_)]
    ·exact h.home j a (by omega) ha
    ·obtain⟨j2,b,hj2,hb,eb⟩:=M.ix _ q
     have:=fO kn (Hx ha) (Hx hb) eb.symm;rw[<-this]at hb;have q1:=List.getElem?_eq_some_iff.mp ha;have q2:=List.getElem?_eq_some_iff.mp hb;have kn2:t.Nodup:=(JO.mp (show List.Pairwise (·≠·) (t.map (·.1)) from kn)).imp fun h e=>h (by rw[e]);have:=(List.getElem_inj (h₀:=q1.1) (h₁:=q2.1) kn2).mp (by rw[q1.2,q2.2]);omega
structure xy (R:Int->Int->Bool)(t:List Nd)(F:Int->Int)(ps:List (Int×Int)):Prop where
 pr:∀ p∈ps,p.1∈aA t/\p.2∈aA t/\p.1≠p.2/\R p.1 p.2=true
 len:2*ps.length+t.length<=t.length*t.length
 home:∀ x∈aA t,ps.foldl cw F x=x
theorem Dx {R:Int->Int->Bool}{t:List Nd}{F:Int->Int}{ps:List (Int×Int)}(h:E5 R t F 0 ps):xy R t F ps:=⟨h.pr,by have:=h.len;omega,fun x hx=>by
 obtain⟨i,e,he,ee⟩:=pS hx
 rw[<-ee];exact h.home i e (Ip _) he⟩
theorem qp {S:List Int}:∀ (ps:List (Int×Int))(F:Int->Int),(∀ p∈ps,p.1∈S/\p.2∈S)->∀ y,y∉S->ps.foldl cw F y=F y
 | [],F,_,y,_=>rfl
 | p::ps,F,h,y,hy=>by
  rw[Jy,qp ps _ (fun q hq=>h q (HL _ hq)) y hy];have:=h p HV;unfold cw;rw[Hu (fun z=>hy (by rw[z];exact this.2)),Hu (fun z=>hy (by rw[z];exact this.1))]
theorem yP {S:List Int}:∀ (ps:List (Int×Int))(F G:Int->Int),(∀ p∈ps,p.1∈S/\p.2∈S)->(∀ y∈S,F y=G y)->∀ y∈S,ps.foldl cw F y=ps.foldl cw G y
 | [],F,G,_,h,y,hy=>h y hy
 | p::ps,F,G,hp,h,y,hy=>by
  rw[Jy,Jy];refine yP ps _ _ (fun q hq=>hp q (HL _ hq)) (fun z hz=>?_) y hy;have:=hp p HV;unfold cw;rw[h _ this.1,h _ this.2,h z hz]
theorem xy.on {R:Int->Int->Bool}{t:List Nd}{F G:Int->Int}{ps:List (Int×Int)}(h:xy R t F ps)(e:∀ y∈aA t,F y=G y):xy R t G ps :=
 ⟨h.pr,h.len,fun x hx=>by rw[<-yP ps F G (fun p hp=>⟨(h.pr p hp).1,(h.pr p hp).2.1⟩) e x hx];exact h.home x hx⟩
structure AF (R:Int->Int->Bool)(gs:List Int)(ts:List (List Nd))(left:List Int):Prop where
 sub:∀ x∈left,x∈gs
 nd:left.Nodup
 cov:∀ x∈gs,x∈left\/∃ t∈ts,x∈aA t
 dj:∀ t∈ts,∀ x∈aA t,x∉left/\x∈gs
 ap:ts.Pairwise fun t u=>∀ x∈aA t,x∉aA u
 cl:∀ t∈ts,∀ x∈aA t,∀ y∈gs,R x y=true->y∈aA t
 tr:∀ t∈ts,∃ f lf rest,eY R f lf t.length t rest
theorem GO {R:Int->Int->Bool}{gs:List Int}(nd:gs.Nodup):AF R gs [] gs :=
 ⟨fun x h=>h,nd,fun x h=>.inl h,fun t ht=>(by cases ht),.nil,fun t ht=>(by cases ht),fun t ht=>(by cases ht)⟩
theorem B8 {R:Int->Int->Bool}(sy:∀ a b,R a b=R b a){gs:List Int}{ts:List (List Nd)}{left:List Int}(h:AF R gs ts left){f:Int}(hf:f∈left){t:List Nd}{rest:List Int}(T:eY R f left t.length t rest):AF R gs (ts++[t]) (left.filter fun x=>!decide (x∈aA t)):=by
 have inL:∀ x∈aA t,x∈left:=fun x hx=>by
  rcases (T.all x).mp (.inl hx) with z | z
  ·rw[z];exact hf
  ·exact z
 have mf:∀ x,x∈left.filter (fun x=>!decide (x∈aA t))↔x∈left/\x∉aA t:=fun x=>by rw[Iy];simp
 refine⟨fun x hx=>h.sub x ((mf x).mp hx).1,h.nd.filter _,fun x hx=>?_,fun u hu x hx=>?_,?_,fun u hu x hx y hy r=>?_,fun u hu=>?_⟩
 ·rcases h.cov x hx with z | ⟨u,hu,z⟩
  ·by_cases y:x∈aA t
   ·exact .inr ⟨t,Ig _ (HR.mpr rfl),y⟩
   ·exact .inl ((mf x).mpr ⟨z,y⟩)
  ·exact .inr ⟨u,Jv _ hu,z⟩
 ·rcases Ie.mp hu with z | z
  ·exact⟨fun q=>(h.dj u z x hx).1 ((mf x).mp q).1,(h.dj u z x hx).2⟩
  ·rw[HR.mp z]at hx
   exact⟨fun q=>((mf x).mp q).2 hx,h.sub x (inL x hx)⟩
 ·refine List.pairwise_append.mpr ⟨h.ap,by simp,fun u hu v hv x hx=>?_⟩
  rw[HR.mp hv];exact fun q=>(h.dj u hu x hx).1 (inL x q)
 ·rcases Ie.mp hu with z | z
  ·exact h.cl u z x hx y hy r
  ·rw[HR.mp z]at hx ⊢
   rcases h.cov y hy with q | ⟨v,hv,q⟩
   ·obtain⟨i,a,ha,ea⟩:=pS hx
    obtain⟨j,b,hb,eb,_⟩:=T.near i a (List.getElem?_eq_some_iff.mp ha).1 ha y (.inr q) (by rw[ea];exact r);rw[<-eb];exact pB hb
   ·have:=h.cl v hv y q x (h.sub x (inL x hx)) (by rw[sy];exact r)
    exact absurd (inL x hx) (h.dj v hv x this).1
 ·rcases Ie.mp hu with z | z
  ·exact h.tr u z
  ·rw[HR.mp z];exact⟨f,left,rest,T⟩
theorem Dy {R:Int->Int->Bool}(sy:∀ a b,R a b=R b a){gs:List Int}{S:Int->Prop}(cl:∀ x,S x->∀ y∈gs,R x y=true->S y){f:Int}{lf rest:List Int}{t:List Nd}{n:Nat}(T:eY R f lf n t rest)(sub:∀ x∈aA t,x∈gs){g:Int}(hg:g∈aA t)(hS:S g):∀ x∈aA t,S x:=by
 have up:∀ (i:Nat)(a:Nd),t[i]? = some a->S a.1->S f:=fun i=>by
  induction i using Nat.strongRecOn with
  | _ i ih =>
   intro a ha hs
   cases i with
   | zero=>rw[T.hd]at ha;cases ha;exact hs
   | succ i =>
    obtain⟨j,p,h1,_,h3,_,_,h6,_⟩:=T.up i a ha;exact ih j (by omega) p h3 (cl _ hs _ (sub _ (pB h3)) (by rw[sy];exact h6))
 have dn:S f->∀ (i:Nat)(a:Nd),t[i]? = some a->S a.1:=fun hf i=>by
  induction i using Nat.strongRecOn with
  | _ i ih =>
   intro a ha
   cases i with
   | zero=>rw[T.hd]at ha;cases ha;exact hf
   | succ i =>
    obtain⟨j,p,h1,_,h3,_,_,h6,_⟩:=T.up i a ha;exact cl _ (ih j (by omega) p h3) _ (sub _ (pB ha)) h6
 obtain⟨i,a,ha,ea⟩:=pS hg;have hf:=up i a ha (by rw[ea];exact hS);intro x hx;obtain⟨j,b,hb,eb⟩:=pS hx;rw[<-eb];exact dn hf j b hb
structure AI (R:Int->Int->Bool)(gs:List Int)(F:Int->Int)(ts:List (List Nd))(ps:List (Int×Int)):Prop where
 pr:∀ p∈ps,p.1∈gs/\p.2∈gs/\p.1≠p.2/\R p.1 p.2=true
 len:2*ps.length+(ts.map List.length).sum<=(ts.map List.length).sum*(ts.map List.length).sum
 home:∀ t∈ts,∀ x∈aA t,ps.foldl cw F x=x
 out:∀ x,(∀ t∈ts,x∉aA t)->ps.foldl cw F x=F x
theorem Fi {R:Int->Int->Bool}{gs:List Int}{F:Int->Int}:AI R gs F [] [] :=
 ⟨fun p hp=>(by cases hp),Hv _,fun t ht=>(by cases ht),fun x _=>rfl⟩
theorem z7 {R:Int->Int->Bool}{gs:List Int}{F:Int->Int}{ts:List (List Nd)}{ps qs:List (Int×Int)}{t:List Nd}(h:AI R gs F ts ps)(hs:∀ x∈aA t,x∈gs)(ap:∀ u∈ts,∀ x∈aA u,x∉aA t)(T:xy R t F qs):AI R gs F (ts++[t]) (ps++qs):=by
 have inq:∀ p∈qs,p.1∈aA t/\p.2∈aA t:=fun p hp=>⟨(T.pr p hp).1,(T.pr p hp).2.1⟩;have T2:xy R t (ps.foldl cw F) qs:=T.on fun y hy=>(h.out y fun u hu q=>ap u hu y q hy).symm;refine⟨fun p hp=>?_,?_,fun u hu x hx=>?_,fun x hx=>?_⟩
 ·rcases Ie.mp hp with z | z
  ·exact h.pr p z
  ·obtain⟨a,b,c,d⟩:=T.pr p z
   exact⟨hs _ a,hs _ b,c,d⟩
 ·rw[Ii,List.sum_append,Ia]
  have e:(List.map List.length [t]).sum=t.length:=by simp
  rw[e];have h1:=h.len;have h2:=T.len;generalize (ts.map List.length).sum=m at h1 ⊢
  have e2:(m+t.length)*(m+t.length)=m*m+t.length*t.length+2*(m*t.length):=by
   rw[Nat.add_mul,Nat.mul_add,Nat.mul_add,Nat.mul_comm t.length m];omega
  omega
 ·rw[JC]
  rcases Ie.mp hu with z | z
  ·rw[qp qs _ inq x (ap u z x hx)];exact h.home u z x hx
  ·rw[HR.mp z]at hx;exact T2.home x hx
 ·rw[JC,qp qs _ inq x (hx t (Ig _ (HR.mpr rfl)))]
  exact h.out x fun u hu=>hx u (Jv _ hu)
end Wz
namespace L2
open PySem PySem.Spec PyProof.Rows
theorem xD {X:Cx}(hc:X.calm=true):eX X (.type "list") (fun xs H Q=>∃ (p:Addr)(kvs:List (bP×V))(ns:List Int),xs=[.ref p]/\H p=some (.dK kvs)/\kvs.map (·.1)=ns.map Sum.inl/\∀ l,H l=none->Q (.ref l) (upd H l (.lst (ns.map V.int)))):=by
 intro pins s σ H xs us Q I r h;obtain⟨p,kvs,ns,rfl,hH,hk,q⟩:=h;obtain⟨u,rfl,rx⟩:=jP r;cases rx;obtain⟨hz,lo,vs,rel,dd⟩:=(show bb X.prog X.w H s.heap p (.dK kvs) from I.hok p _ hH);obtain⟨ep,hat⟩:=dd.dictAt
 have hlk:kvs.length=ns.length:=by have:=JJ List.length hk;simpa using this
 have hlv:kvs.length=vs.length:=Ic rel;refine PySem.W.kdl_call (PySem.W.kdl_dict (knd:=be X.prog X.w) (kvs:=vs) (ep:=ep) lo) (I.ok.hd hc) hat (by rw[<-hlv];exact hz) fun h' tk acc c' kp e hacc=>?_
 have hal:acc.toList.length=vs.length:=by rw[Jp];exact hacc.1
 have rI:aQ (ns.map V.int) acc.toList:=vK (by rw[Hs,hal];omega) fun i x v e1 e2=>by
  obtain⟨k,y,hx,hks⟩:=hacc.2 i v (by rw[<-Array.getElem?_toList];exact e2)
  have e3:(vs.map (·.1))[i]? = some k:=by rw[List.getElem?_map,hx];rfl
  rw[<-rel.keys,hk,List.getElem?_map]at e3;rw[List.getElem?_map]at e1
  cases en:ns[i]? with
  | none=>rw[en]at e1;cases e1
  | some n =>
   rw[en]at e1 e3;have e1':V.int n=x:=Hy e1;subst e1';have e4:(Sum.inl n:bP)=k:=Hy e3;subst e4;obtain⟨t,e5⟩:=Value.isInt_shape (k:=n) (v:=v) hks;exact⟨t,e5⟩
 refine⟨.ref s.heap.objs.size,_,I.laid (t':=tk) kp (Hv _) (show bb X.prog X.w _ h' _ (.lst (ns.map V.int)) from ⟨by rw[Hs,<-hlk];exact hz,acc.toList,c',rI,by simpa using e⟩),rfl,q _ (I.hok.fresh (Hv _))⟩
theorem Dd {X:Cx}{m:Nat}{p pos:Pos}:PE X (.UnaryOp .USub (.Constant (.int 1) m p) pos) (tC (.int (-1))):=fun pins s σ H Q I h=>oN jO am pins s σ H Q I ⟨1,rfl,h⟩
inductive DF (H0:Hp) (Q:VK) (v:V) (H:Hp):Prop
 | mk (d:Addr) (o:Obj) (u:HO) (e:H d=some (.frz o u)) (n:∀ o' u',H0 d≠some (.frz o' u')) (h:Q v (upd H d u)):DF H0 Q v H
theorem De {X:Cx}{e:Expr}{t:TE}(h:PE X e t):PE X e (fun σ H Q=>t σ H fun v H1=>DF X.H₀ Q v H1):=by
 intro pins s σ H Q I ht;refine bc (h pins s σ H _ I ht) fun v s1 ⟨x,H1,I1,r1,q1⟩=>?_;obtain⟨d,o,u,hd,h0,q⟩:=q1;exact⟨x,_,I1.thaw hd h0,r1,q⟩
end L2
namespace Wz
open PySem L2
def mJ (ps:List (Int×Int))(a b:Int):Bool:=decide ((a,b)∈ps\/(b,a)∈ps)
theorem vJ (ps:List (Int×Int))(a b:Int):mJ ps a b=mJ ps b a:=decide_eq_decide.mpr Or.comm
def ic (st:Stmt):Expr:=match (c8 st).getD 3 (Stmt.Pass ⟨0,0,0,0⟩) with
 | Stmt.While _ (Stmt.Assign _ (Expr.Call _ [_,_,l] _ _) _::_) _ _=>l
 | _=>Expr.Constant .none 0 ⟨0,0,0,0⟩
theorem AJ {α:Type}{xs:List α}{n:Nat}{v:α}(h:xs.length=n)(h1:1<n)(h2:xs[n-2]? = some v):ur xs (-2)=some v:=by
 have e:Cq xs.length (-2)=some (n-2):=by
  unfold Cq;rw[h,Hu (by decide),Hw (by omega)]
  congr 1
  omega
 unfold ur;rw[e];exact h2
theorem AC {t:List Nd}{g:Int}{es:List Nd}{b p:Nd}(W:lb t g es)(hb:es.getLast? = some b)(hp:p∈t)(h1:b.2.1=some p.1)(h2:b.2.2=p.2.2+1):lb t g (es++[p]):=by
 obtain⟨e0,rfl⟩:=List.getLast?_eq_some_iff.mp hb;refine⟨?_,fun e he=>?_,fun i x y hx hy=>?_⟩
 ·obtain⟨a,h3,h4⟩:=W.hd
  refine⟨a,?_,h4⟩;rw[List.getElem?_append_left (by rw[Ia,IC];omega)];exact h3
 ·rcases Ie.mp he with z | z
  ·exact W.mem e z
  ·rw[HR.mp z];exact hp
 ·have hyl:=(List.getElem?_eq_some_iff.mp hy).1
  rw[Ia,Ia,IC,IC]at hyl
  by_cases z:i=e0.length
  ·subst z
   rw[List.getElem?_append_left (by rw[Ia,IC];omega),List.getElem?_concat_length]at hx;rw[List.getElem?_append_right (by rw[Ia,IC];omega),Ia,IC,Nat.sub_self]at hy;cases hx;have hy:some p=some y:=hy;cases hy;exact⟨h1,h2⟩
  ·have il:i+1<(e0++[b]).length:=by rw[Ia,IC];omega
   rw[List.getElem?_append_left (by omega)]at hx;rw[List.getElem?_append_left il]at hy;exact W.pr i x y hx hy
theorem FR {t:List Nd}{i:Nat}{e:Nd}(h:t[i]? = some e):lb t e.1 [e]:=⟨⟨e,rfl,rfl⟩,fun x hx=>by rw[HR.mp hx];exact Hx h,fun i a b h1 h2=>by cases h2⟩
inductive vz (vs:List V) (H:Hp) (Q:VK) (E_:XK):Prop
 | mk (l:Addr) (ps:List (Int×Int)) (h_0:vs=[.ref l]) (h_1:bJ H l ps) (h_2:ps.length<=400) (h_3:∀ (k:Addr)(H':Hp)(ml:List (Int×Int)),H k=none->aB H H'->H' k=some (.dT (jU ml))->(∀ a b:Int,(a,b)∈ml↔mJ ps a b=true)->Q (.ref k) H'):vz vs H Q E_
inductive vH (vs:List V) (H:Hp) (Q:VK) (E_:XK):Prop
 | mk (tr:Addr) (R:Int->Int->Bool) (f:Int) (gs:List Int) (t:List Nd) (left:List Int) (i:Nat) (e:Nd) (h_0:vs=[.ref tr,.int e.1]) (h_1:H tr=some (.dK (dB t))) (h_2:eY R f gs t.length t left) (h_3:t.length<=200) (h_4:t[i]? = some e) (h_5:∀ (l:Addr)(w:List Nd)(H':Hp),H l=none->aB H H'->H' l=some (.lst ((aA w).map V.int))->lb t e.1 w->w.getLast? = some (f,none,0)->w.length<=201->Q (.ref l) H'):vH vs H Q E_
inductive vD (vs:List V) (H:Hp) (Q:VK) (E_:XK):Prop
 | mk (tr:Addr) (R:Int->Int->Bool) (f:Int) (gs:List Int) (t:List Nd) (left:List Int) (i j:Nat) (x y:Nd) (h_0:vs=[.ref tr,.int x.1,.int y.1]) (h_1:H tr=some (.dK (dB t))) (h_2:eY R f gs t.length t left) (h_3:(∀ a b,R a b=R b a)) (h_4:t.length<=200) (h_5:t[i]? = some x) (h_6:t[j]? = some y) (h_7:∀ (l:Addr)(m:List Int)(H':Hp),H l=none->aB H H'->H' l=some (.lst (m.map V.int))->(∀ k,i<=k->j<=k->F6 R t k x.1 y.1 m)->Q (.ref l) H'):vD vs H Q E_
def iq (st:b7)(t:List Nd):Bool:=t.any fun e=>!decide (wr st.worn e.1∈aA t)
inductive rD (c:HX) (vs:List V) (H:Hp) (Q:VK) (E_:XK):Prop
 | mk (p tr:Addr) (A:HA) (st:b7) (t:List Nd) (h_0:vs=[.ref p,.ref tr]) (h_1:aE c.C H p A st) (h_2:H tr=some (.dK (dB t))) (h_3:(∀ x∈aA t,(look st.worn x).isSome=true/\cp x)) (h_4:(aA t).Nodup) (h_5:t.length<=200) (h_6:tr∉A.fp) (h_7:∀ H',aB H H'->Q (.bl (iq st t)) H'):rD c vs H Q E_
def pY (c1:Addr)(ql:Str)(kn:Addr)(ml:List (Int×Int))(H:Hp):Prop:=H kn=some (.dT (jU ml))/\nY H c1 ql
theorem pY.same {c1 kn:Addr}{ql:Str}{ml:List (Int×Int)}(H H':Hp)(j:pY c1 ql kn ml H)(s:aB H H'):pY c1 ql kn ml H':=by
 obtain⟨S,oc,vs,t,e,r⟩:=j;exact⟨s _ _ S,oc,vs,t,s _ _ e,r⟩
inductive pP (ql:Str) (fl c1:Addr) (vy:V) (vs:List V) (H:Hp) (Q:VK) (E:XK):Prop
 | mk (i:Addr×List (Int×Int)) (h_0:vy=.ref i.1) (h_1:vG (pY c1 ql i.1 i.2) (fun a b=>decide ((a,b)∈i.2)) fl vs H Q E):pP ql fl c1 vy vs H Q E
inductive mz (c:HX) (P0:Addr) (pos:Pos) (ql:Str) (vs:List V) (H:Hp) (Q:VK) (E_:XK):Prop
 | mk (p l:Addr) (A:HA) (st:b7) (ps:List (Int×Int)) (h_0:vs=[.ref p,.ref l]) (h_1:aE c.C H p A st) (h_2:ed st) (h_3:st.worn.length<64) (h_4:bJ H l ps) (h_5:ps.length<=400) (h_6:cL H P0 pos ql) (h_7:∀ (q:Addr)(as:List Addr)(ts:List (List Nd))(H':Hp),H q=none->fC P0 H H'->cL H' P0 pos ql->H' q=some (.lst (as.map V.ref))->Paired (fun a t=>H' a=some (.dK (dB t))) as ts->AF (mJ ps) (gi st) ts []->(∀ a∈as,H a=none)->Q (.ref q) H'):mz c P0 pos ql vs H Q E_
inductive vF (c:HX) (vs:List V) (H:Hp) (Q:VK) (E_:XK):Prop
 | mk (p tr:Addr) (A:HA) (st:b7) (R:Int->Int->Bool) (f:Int) (gs:List Int) (t:List Nd) (left:List Int) (h_0:vs=[.ref p,.ref tr]) (h_1:aE c.C H p A st) (h_2:ed st) (h_3:H tr=some (.dK (dB t))) (h_4:tr∉A.fp) (h_5:eY R f gs t.length t left) (h_6:(∀ a b,R a b=R b a)) (h_7:t.length<64) (h_8:(∀ x∈aA t,(look st.worn x).isSome=true/\cp x)) (h_9:(∀ x∈aA t,wr st.worn x∈aA t)) (h_10:∀ (l:Addr)(H':Hp)(ps:List (Int×Int)),H l=none->aB H H'->bJ H' l ps->xy R t (wr st.worn) ps->Q (.ref l) H'):vF c vs H Q E_
def eG (st:b7)(t:List Nd):List (Int×Int):=t.map fun e=>(e.1,wr st.worn e.1)
theorem d6 (st:b7)(t:List Nd):ak (eG st t)=aA t:=by
 unfold ak eG aA;rw[IA];rfl
theorem ie {st:b7}{t:List Nd}(nd:(aA t).Nodup){x:Int}(h:x∈aA t):wr (eG st t) x=wr st.worn x:=by
 obtain⟨e,he,rfl⟩:=IB.mp h;have:=jz (l:=eG st t) (g:=e.1) (m:=wr st.worn e.1) (by rw[d6];exact nd) (IB.mpr ⟨e,he,rfl⟩);unfold wr;rw[this];rfl
theorem AE {st:b7}{t:List Nd}(nd:(aA t).Nodup){i:Nat}{e:Nd}(he:t[i]? = some e):put (eG st (t.take i)) e.1 (wr st.worn e.1)=eG st (t.take (i+1)):=by
 have no:((eG st (t.take i)).any fun p=>decide (p.1=e.1))=false:=by
  cases z:(eG st (t.take i)).any fun p=>decide (p.1=e.1) with
  | false=>rfl
  | true =>
   obtain⟨p,hp,hq⟩:=List.any_eq_true.mp z;have hq:=IZ hq
   have hk:e.1∈aA (t.take i):=by rw[<-d6 st,<-hq];exact IG (f:=(·.1)) hp
   obtain⟨j,hj⟩:=List.getElem?_of_mem hk;have hj2:=(List.getElem?_eq_some_iff.mp hj).1;unfold aA at hj hj2;rw[Hs,Io]at hj2;rw[List.getElem?_map,List.getElem?_take,Hw (by omega)]at hj
   have e1:(aA t)[j]? = some e.1:=by unfold aA;rw[List.getElem?_map];exact hj
   have e2:(aA t)[i]? = some e.1:=by unfold aA;rw[List.getElem?_map,he];rfl
   have il:=(List.getElem?_eq_some_iff.mp e1).1;have:=(List.getElem?_inj il nd).mp (e1.trans e2.symm);omega
 unfold put;rw[Hu (by rw[no];decide),Iv,he,ID];unfold eG;rw[Ii];rfl
theorem AD {st:b7}(P:xw st.worn){t:List Nd}(nd:(aA t).Nodup)(cl:∀ x∈aA t,wr st.worn x∈aA t):xw (eG st t):=by
 have out:∀ {x:Int},x∉aA t->wr (eG st t) x=x:=fun {x} h=>rN (by rw[d6];exact h);refine⟨fun x y e=>?_,fun g hg=>?_,by rw[d6];exact nd⟩
 ·by_cases hx:x∈aA t
  ·by_cases hy:y∈aA t
   ·rw[ie nd hx,ie nd hy]at e
    exact P.inj x y e
   ·rw[ie nd hx,out hy]at e
    exact absurd (e▸cl x hx) hy
  ·by_cases hy:y∈aA t
   ·rw[out hx,ie nd hy]at e
    exact absurd (e▸cl y hy) hx
   ·rw[out hx,out hy]at e
    exact e
 ·rw[d6]at hg ⊢
  rw[ie nd hg];exact cl g hg
theorem wt:∀ (ps:List (Int×Int)){f:Int->Int},Cn f->Cn (ps.foldl cw f)
 | [],_,h=>h
 | p::ps,f,h=>wt ps (A6 h p)
theorem dz {W:List (Int×Int)}{ps:List (Int×Int)}(h:∀ p∈ps,p.1∈ak W/\p.2∈ak W){x:Int}:x∈ak (aX W ps)↔x∈ak W:=by
 rw[m5];refine⟨fun z=>?_,.inl⟩;rcases z with z | ⟨p,hp,z | z⟩
 ·exact z
 ·rw[z];exact (h p hp).1
 ·rw[z];exact (h p hp).2
theorem yO {S:Int->Prop}:∀ (ps:List (Int×Int)){f:Int->Int},(∀ p∈ps,S p.1/\S p.2)->(∀ x,S x->S (f x))->∀ x,S x->S (ps.foldl cw f x)
 | [],_,_,h=>h
 | p::ps,f,hp,h=>yO ps (fun q hq=>hp q (HL _ hq)) fun x hx=>by
  obtain⟨p1,p2⟩:=hp p HV;unfold cw
  by_cases a:x=p.2
  ·rw[Hw a];exact h _ p1
  ·rw[Hu a]
   by_cases b:x=p.1
   ·rw[Hw b];exact h _ p2
   ·rw[Hu b];exact h _ hx
theorem Ak {W:List (Int×Int)}(P:xw W){ps:List (Int×Int)}(h:∀ p∈ps,p.1∈ak W/\p.2∈ak W):xw (aX W ps) :=
 ⟨by rw[jQ];exact wt ps P.inj,fun g hg=>by
  rw[jQ]
  exact (dz h).mpr (yO (S:=(·∈ak W)) ps h P.cl g ((dz h).mp hg)),jC ps P.nd⟩
theorem xg {W:List (Int×Int)}(P:xw W){g:Int}(hg:g∈ak W):∃ x,ur ((dI (wr W) W.length g).map V.int) (-1)=some (V.int x)/\wr W x=g/\x∈ak W:=by
 obtain⟨h0,h1,_⟩:=P.ring hg;unfold dI;generalize sD (wr W) W.length g=m at h0 h1;obtain⟨n,rfl⟩:∃ n,m=n+1:=⟨m-1,by omega⟩;rw[rj,Ii];exact⟨_,vZ _ _,h1,jT P.cl hg n⟩
theorem Ay {gs:List Int}{ts:List (List Nd)}(h1:∀ t∈ts,(aA t).Nodup)(h2:ts.Pairwise fun t u=>∀ x∈aA t,x∉aA u)(h3:∀ t∈ts,∀ x∈aA t,x∈gs):(ts.map List.length).sum<=gs.length:=by
 have nd:(ts.map aA).flatten.Nodup:=by
  refine List.pairwise_flatten.mpr ⟨fun l hl=>?_,JO.mpr (h2.imp fun {t u} h x hx y hy (e:x=y)=>h x hx (by rw[e];exact hy))⟩;obtain⟨t,ht,rfl⟩:=IB.mp hl;exact h1 t ht
 have sub:∀ x∈(ts.map aA).flatten,x∈gs:=fun x hx=>by
  obtain⟨l,hl,hx⟩:=List.mem_flatten.mp hx;obtain⟨t,ht,rfl⟩:=IB.mp hl;exact h3 t ht x hx
 have:=bO nd sub;rw[List.length_flatten,IA]at this
 have e:(ts.map (List.length ∘ aA))=ts.map List.length:=JE fun t _=>by show (aA t).length=t.length;unfold aA;rw[Hs]
 rw[e]at this;exact this
theorem xN {C:Addr}{H:Hp}{p:Addr}{A:HA}{st:b7}(S:aE C H p A st){y:Addr}(h:H y=none):y∉A.fp:=fun z=>by
 obtain⟨o,e⟩:=S.tracked z;rw[h]at e;cases e
theorem AK {st:b7}{t:List Nd}(h:iq st t=false):∀ x∈aA t,wr st.worn x∈aA t:=fun x hx=>by
 obtain⟨e,he,rfl⟩:=IB.mp hx;unfold iq at h;have:=List.any_eq_false.mp h e he
 by_cases z:wr st.worn e.1∈aA t
 ·exact z
 ·rw[Ih z]at this;exact absurd rfl this
inductive vE (c:HX) (co P0:Addr) (pos:Pos) (ql:Str) (vs:List V) (H:Hp) (Q:VK) (E:XK):Prop
 | mk (p l:Addr) (A:HA) (st:b7) (ps:List (Int×Int)) (h_0:vs=[.ref p,.ref l]) (h_1:aE c.C H p A st) (h_2:ed st) (h_3:st.worn.length<64) (h_4:bJ H l ps) (h_5:ps.length<=400) (h_6:cL H P0 pos ql) (h_7:(∀ g∈ak st.worn,cp g)) (h_8:∀ ts:List (List Nd),AF (mJ ps) (gi st) ts []->((∀ t∈ts,iq st t=false)->∀ (q:Addr)(rs:List (Int×Int))(H':Hp),H q=none->fC P0 H H'->cL H' P0 pos ql->bJ H' q rs->AI (mJ ps) (gi st) (wr st.worn) ts rs->Q (.ref q) H')/\((∃ t∈ts,iq st t=true)->∀ H',fC P0 H H'->cL H' P0 pos ql->E (.ref co) none H')):vE c co P0 pos ql vs H Q E
inductive zl (vs:List V) (H:Hp) (Q:VK) (E:XK):Prop
 | mk (a b:Int) (l:Addr) (ps:List (Int×Int)) (h_0:vs=[.int a,.int b,.ref l]) (h_1:bJ H l ps) (h_2:∀ H',aB H H'->Q (.bl (!decide (a=b)&&mJ ps a b)) H'):zl vs H Q E
def E4 (ps:List (Int×Int))(W:List Int)(g x:Int):Prop:=∀ S:Int->Prop,S g->(∀ x,S x->∀ y∈W,mJ ps x y=true->S y)->S x
def yE (ps W:List (Int×Int)):Prop:=∀ g∈ak W,wr W g≠g->E4 ps (ak W) g (wr W g)
theorem pk {ps:List (Int×Int)}{st:b7}{ts:List (List Nd)}(T:AF (mJ ps) (gi st) ts []):(∀ t∈ts,iq st t=false)↔yE ps st.worn:=by
 have mg:∀ x,x∈gi st↔x∈ak st.worn:=fun x=>(cG _).mem_iff;refine⟨fun h g hg hw S hS hc=>?_,fun h t ht=>?_⟩
 ·rcases T.cov g ((mg g).mpr hg) with z | ⟨t,ht,hgt⟩
  ·cases z
  ·obtain⟨f,lf,rest,TI⟩:=T.tr t ht
   have hwt:=AK (h t ht) g hgt;exact Dy (vJ ps) (gs:=gi st) (S:=S) (fun x hx y hy r=>hc x hx y ((mg y).mp hy) r) TI (fun x hx=>(T.dj t ht x hx).2) hgt hS _ hwt
 ·cases e:iq st t with
  | false=>rfl
  | true =>
   exfalso
   unfold iq at e;obtain⟨n,hn,hb⟩:=List.any_eq_true.mp e;have hnt:n.1∈aA t:=IG (f:=(·.1)) hn;have hnk:=(mg _).mp (T.dj t ht _ hnt).2
   have nw:¬ wr st.worn n.1∈aA t:=fun z=>by rw[HY z]at hb;cases hb
   have ne:wr st.worn n.1≠n.1:=fun z=>nw (by rw[z];exact hnt);exact nw (h n.1 hnk ne (·∈aA t) hnt (fun x hx y hy r=>T.cl t ht x hx y ((mg y).mpr hy) r))
theorem x5 {W:List (Int×Int)}{g:Int}:g∈bv W↔g∈ak W/\wr W g≠g:=by
 unfold bv;rw[Iy,fE];simp
theorem A0 {P:Program}{w:World}{K:PySem.W.Frag}{mg:Str->Option Value}{base:Heap}{CX:rP}{k:Nat}{f:Addr}{fd:FuncData}{ps:List Str}{ql:Str}{fl c1:Addr}{vy:V}(F:∀ i:Addr×List (Int×Int),vy=.ref i.1->aS P w K mg base CX k f fd ps (vG (pY c1 ql i.1 i.2) (fun a b=>decide ((a,b)∈i.2)) fl)):aS P w K mg base CX k f fd ps (pP ql fl c1 vy) :=
 ⟨fun vs H Q E ⟨i,c,h⟩=>(F i c).len vs H Q E h,fun A outer s H args us vs Q E hr e0 hb r ⟨i,c,h⟩=>(F i c).run A outer s H args us vs Q E hr e0 hb r h⟩
theorem xE {X:Cx}(K:PySem.W.Frag)(hK:X.K=K:=by rfl):eX X (.type "list") (fun xs H Q=>∃ p ys,xs=[.ref p]/\(aL K H p ys\/dC K H p ys)/\∀ l,H l=none->Q (.ref l) (upd H l (.lst ys))):=by subst hK;exact e8
inductive vw (c:HX) (P0:Addr) (pos:Pos) (ql:Str) (vs:List V) (H:Hp) (Q:VK) (E:XK):Prop
 | mk (p l:Addr) (A:HA) (st:b7) (ps:List (Int×Int)) (h_0:vs=[.ref p,.ref l]) (h_1:aE c.C H p A st) (h_2:ed st) (h_3:st.worn.length<64) (h_4:bJ H l ps) (h_5:ps.length<=400) (h_6:cL H P0 pos ql) (h_7:(∀ g∈ak st.worn,cp g)) (h_8:∀ ts:List (List Nd),AF (mJ ps) (gi st) ts []->((∀ t∈ts,iq st t=false)->∀ H',fC P0 H H'->cL H' P0 pos ql->Q .non H')/\(∀ t∈ts,iq st t=true->∀ (q:Addr)(H':Hp),H q=none->fC P0 H H'->cL H' P0 pos ql->H' q=some (.lst ((aD (aA t)).map V.int))->Q (.ref q) H')):vw c P0 pos ql vs H Q E
structure AG (ps W:List (Int×Int))(ks:List Int):Prop where
 nd:ks.Nodup
 sub:∀ x∈ks,x∈ak W
 has:∃ x∈ks,wr W x∉ks
 cut:∀ x∈ks,∀ y∈ak W,y∉ks->mJ ps x y=false
theorem AL {ps:List (Int×Int)}{st:b7}{ts:List (List Nd)}(T:AF (mJ ps) (gi st) ts []){t:List Nd}(ht:t∈ts)(hb:iq st t=true):AG ps st.worn (aD (aA t)):=by
 have mg:∀ x,x∈gi st↔x∈ak st.worn:=fun x=>(cG _).mem_iff;have mt:∀ x,x∈aD (aA t)↔x∈aA t:=fun x=>fE;obtain⟨f,lf,rest,TI⟩:=T.tr t ht;refine⟨(cG _).nodup_iff.mpr TI.kn,fun x hx=>(mg x).mp (T.dj t ht x ((mt x).mp hx)).2,?_,fun x hx y hy ny=>?_⟩
 ·unfold iq at hb
  obtain⟨n,hn,hb⟩:=List.any_eq_true.mp hb;refine⟨n.1,(mt _).mpr (IG (f:=(·.1)) hn),fun z=>?_⟩;rw[HY ((mt _).mp z)]at hb;cases hb
 ·cases e:mJ ps x y with
  | false=>rfl
  | true=>exact absurd ((mt y).mpr (T.cl t ht x ((mt x).mp hx) y ((mg y).mpr hy) e)) ny
theorem ud {S:Int->Prop}{m:Int}:∀ (rs:List (Int×Int)){f:Int->Int},(∀ p∈rs,(S p.1↔S p.2))->(∃ x,S x/\f x=m)->∃ x,S x/\rs.foldl cw f x=m
 | [],_,_,h=>h
 | p::rs,f,hp,⟨x,sx,e⟩=>ud rs (fun q hq=>hp q (HL _ hq)) (by
   have hp0:=hp p HV
   by_cases h2:x=p.2
   ·refine⟨p.1,hp0.mpr (h2▸sx),?_⟩
    unfold cw
    by_cases h3:p.1=p.2
    ·rw[Hw h3,h3,<-h2];exact e
    ·rw[Hu h3,Hw rfl,<-h2];exact e
   ·by_cases h1:x=p.1
    ·refine⟨p.2,hp0.mp (h1▸sx),?_⟩
     unfold cw;rw[Hw rfl,<-h1];exact e
    ·refine⟨x,sx,?_⟩
     unfold cw
     rw[Hu h2,Hu h1];exact e)
theorem tj {ps W:List (Int×Int)}{ks:List Int}(B:AG ps W ks){rs:List (Int×Int)}(h:∀ p∈rs,p∈ps/\p.1∈ak W/\p.2∈ak W):bv (aX W rs)≠[]:=by
 obtain⟨x,hx,hm⟩:=B.has
 obtain⟨y,hy,e⟩:=ud (S:=(·∈ks)) rs (f:=wr W) (m:=wr W x) (fun p hp=>by
  obtain⟨h0,h1,h2⟩:=h p hp;have r:mJ ps p.1 p.2=true:=HY (.inl h0);refine⟨fun a=>Classical.byContradiction fun n=>?_,fun a=>Classical.byContradiction fun n=>?_⟩
  ·rw[B.cut _ a _ h2 n]at r;cases r
  ·rw[vJ,B.cut _ a _ h1 n]at r;cases r) ⟨x,hx,rfl⟩
 intro hz;rw[<-jQ]at e;have ne:wr (aX W rs) y≠y:=fun z=>hm (by rw[<-e,z];exact hy);have:y∈bv (aX W rs):=x5.mpr ⟨(dz fun p hp=>(h p hp).2).mpr (B.sub y hy),ne⟩;rw[hz]at this;cases this
inductive vC (vs:List V) (H:Hp) (Q:VK) (E:XK):Prop
 | mk (l w lt:Addr) (W ps:List (Int×Int)) (ks:List Int) (h_0:vs=[.ref l,.ref w,.ref lt]) (h_1:H l=some (.lst ((aD ks).map V.int))) (h_2:ks.length<64) (h_3:H w=some (.dK (dk W))) (h_4:W.length<64) (h_5:bJ H lt ps) (h_6:AG ps W (aD ks)) (h_7:∀ H',aB H H'->Q (.bl true) H'):vC vs H Q E
theorem xL {K:PySem.W.Frag}{tt:TT}{Qf:Hp->Prop}{l q:Addr}{ps:List (Int×Int)}{f:Int×Int->Bool}{rest:St}{H:Hp}(hq:H q=none)(h1:bJ H l ps)(hlen:ps.length<=1000)
  (ht:∀ (p:Int×Int)(b:Addr)(HK:Hp)(Q':Bool->Hp->Prop),p∈ps->HK b=some (.tup [.int p.1,.int p.2])->aB H HK->(∀ H5,aB HK H5->Q' (f p) H5)->tt (some (.ref b)::rest) HK Q')
  (k:∀ (HK:Hp),aB H HK->bJ HK q (ps.filter f)->Qf HK) :
  i8 (Co K l) (lC 0) (Aw tt (B1 0) q) { nx:=fun _ H'=>Qf H',rt:=fun _ _=>False } (none::rest) (upd H q (.lst [])):=by
 obtain⟨as,hl,hp⟩:=h1;have al:=Ic hp
 have noq:∀ b∈as,b≠q:=fun b hb z=>by
  obtain⟨j,hj⟩:=List.getElem?_of_mem hb;obtain⟨r',_,e⟩:=bg hp hj;rw[z,hq]at e;cases e
 refine bj (K:=K) (a:=l) (xs:=as.map V.ref) (fun i σ HK=>∃ (v:Option V)(bs:List Addr),σ=v::rest/\aB H HK/\HK q=some (.lst (bs.map V.ref))/\Paired (fun a (p:Int×Int)=>HK a=some (.tup [.int p.1,.int p.2])) bs ((ps.take i).filter f)/\(∀ b∈bs,b∈as)/\bs.length<=i)
  ⟨none,[],rfl,ah hq,ac,.nil,(fun b h=>nomatch h),Hv _⟩ (fun i σ HK _ ⟨_,_,_,s2,_⟩=>aL.of (s2 _ _ hl)) ?_ ?_
 ·rintro i y σ HK hi ⟨v,bs,rfl,t1,hq2,pb,sub,bl⟩
  obtain⟨a,ha,rfl⟩:=aY hi;have hil:i<as.length:=(List.getElem?_eq_some_iff.mp ha).1;obtain⟨r,hr0,hA⟩:=bg hp ha
  have ex:(ps.take (i+1)).filter f=(ps.take i).filter f++[r].filter f:=by rw[Iv,hr0,ID,Je]
  refine rM (ht r a HK _ (Hx hr0) (t1 _ _ hA) t1 fun H5 s5=>?_)
  cases e:f r with
  | true =>
   rw[Hw rfl];refine⟨_,rfl,_,s5 _ _ hq2,by rw[Hs];exact aG (by omega),_,bs++[a],rfl,aZ (t1.trans s5) hq,by rw[ac,Ii];rfl,?_,fun b hb=>?_,by rw[Ia,IC];omega⟩
   ·rw[ex,show [r].filter f=[r] by simp[e]]
    exact bx (Wz.Paired.mapP' pb fun b z hb e=>by rw[ae (noq b (sub b hb))];exact s5 _ _ e) (.cons (by rw[ae (noq a (Hx ha))];exact s5 _ _ (t1 _ _ hA)) .nil)
   ·rcases Ie.mp hb with z | z
    ·exact sub b z
    ·rw[HR.mp z];exact Hx ha
  | false =>
   rw[Hu HN];exact⟨_,bs,rfl,t1.trans s5,s5 _ _ hq2,by rw[ex,show [r].filter f=[] by simp[e],Jw];exact Paired.mapP pb fun b z e=>s5 _ _ e,sub,by omega⟩
 ·rintro σ HK ⟨v,bs,rfl,t1,hq2,pb,sub,bl⟩
  rw[Hs,al,Ir]at pb;exact k HK t1 ⟨bs,hq2,pb⟩
structure MB (K:PySem.W.Frag)(a:Addr)(xs:List V)(c:HX)(x:Addr)(B:HA)(st:b7)(w m ls lt:Addr)(ml tp:List (Int×Int))(P0:Addr)(pos:Pos)(ql:Str)(H:Hp):Prop where
 S:aE c.C H x B st
 hw:H w=some (.dK (dk st.worn))
 hm:H m=some (.dT (jU ml))
 hs:bN H ls st.deeds
 ra:bJ H lt tp
 tb:cL H P0 pos ql
 sq:aL K H a xs
theorem MB.same {K:PySem.W.Frag}{a:Addr}{xs:List V}{c:HX}{x:Addr}{B:HA}{st:b7}{w m ls lt:Addr}{ml tp:List (Int×Int)}{P0:Addr}{pos:Pos}{ql:Str}{H H':Hp}(h:MB K a xs c x B st w m ls lt ml tp P0 pos ql H)(s:aB H H'):MB K a xs c x B st w m ls lt ml tp P0 pos ql H' :=
 ⟨h.S.mono s,s _ _ h.hw,s _ _ h.hm,bX h.hs s,h.ra.mono s,h.tb.same s,s.seq h.sq⟩
theorem MB.but {K:PySem.W.Frag}{a:Addr}{xs:List V}{c:HX}{x:Addr}{B:HA}{st:b7}{w m ls lt:Addr}{ml tp:List (Int×Int)}{P0:Addr}{pos:Pos}{ql:Str}{H H':Hp}(h:MB K a xs c x B st w m ls lt ml tp P0 pos ql H)(b:fC P0 H H')(t:cL H' P0 pos ql):MB K a xs c x B st w m ls lt ml tp P0 pos ql H' :=
 ⟨fC.hall h.S h.tb b,b.get h.tb h.hw (fun ps z=>by cases z),b.get h.tb h.hm (fun ps z=>by cases z),b.deeds h.tb h.hs,b.row h.tb h.ra,t,b.seq h.tb h.sq⟩
theorem xo {ps:List (Int×Int)}{st:b7}{ts:List (List Nd)}(T:AF (mJ ps) (gi st) ts []){t:List Nd}(ht:t∈ts):(aA t).length<=st.worn.length:=by
 obtain⟨f,lf,rest,TI⟩:=T.tr t ht;have:=bO TI.kn (fun x hx=>(cG _).mem_iff.mp (T.dj t ht x hx).2:∀ x∈aA t,x∈ak st.worn);unfold ak at this;rw[Hs]at this;exact this
theorem BN {H:Hp}{l:Addr}{ms:List (Int×Int)}(h:bJ H l ms)(hne:ms≠[]):∃ as:List Addr,H l=some (.lst (as.map V.ref))/\as.length=ms.length/\∃ (g:Int->Addr)(v:Int->Int×Int),∀ d:Int,ur (as.map V.ref) (d%(ms.length:Int))=some (.ref (g d))/\v d∈ms/\H (g d)=some (.tup [.int (v d).1,.int (v d).2]):=by
 obtain⟨as,hl,hp⟩:=h;have al:=Ic hp;have pos:0<ms.length:=List.length_pos_iff.mpr hne;refine⟨as,hl,al,fun d=>as.getD (d%(ms.length:Int)).toNat 0,fun d=>ms.getD (d%(ms.length:Int)).toNat (0,0),fun d=>?_⟩;have b1:=Jb d (b:=(ms.length:Int)) (by omega);have b2:=IS d (b:=(ms.length:Int)) (by omega);obtain⟨j,hj⟩:∃ j:Nat,(j:Int)=d%(ms.length:Int):=⟨(d%(ms.length:Int)).toNat,by omega⟩
 show ur (as.map V.ref) (d%(ms.length:Int))=some (.ref (as.getD (d%(ms.length:Int)).toNat 0))/\ms.getD (d%(ms.length:Int)).toNat (0,0)∈ms/\H (as.getD (d%(ms.length:Int)).toNat 0)=some (.tup [.int (ms.getD (d%(ms.length:Int)).toNat (0,0)).1,.int (ms.getD (d%(ms.length:Int)).toNat (0,0)).2])
 rw[<-hj,JM]
 have ja:j<as.length:=by omega
 obtain⟨b,hb⟩:∃ b,as[j]? = some b:=⟨_,List.getElem?_eq_getElem ja⟩;obtain⟨p,hp0,hB⟩:=bg hp hb;rw[List.getD_eq_getElem?_getD,hb,List.getD_eq_getElem?_getD,hp0];exact⟨jR (by rw[List.getElem?_map,hb];rfl),Hx hp0,hB⟩
theorem qY {α β γ:Type}{R:α->β->Prop}(g:γ->α)(v:γ->β):∀ ds:List γ,(∀ d∈ds,R (g d) (v d))->Paired R (ds.map g) (ds.map v)
 | [],_=>.nil
 | d::ds,h=>.cons (h d HV) (qY g v ds fun x hx=>h x (HL _ hx))
end Wz
namespace Wk32
open PySem L2 Wz
def fB (i:Nat):Stmt:=PySem.Challenge.pw_lastwaltz_k32_whole_morning_or_barred.main.body.getD i (.Pass ⟨0,0,0,0⟩)
structure G4 (mg:Str->Option Value):Prop where
 len:mg "len" = none
 range:mg "range" = none
 isinstance:mg "isinstance" = none
 tuple:mg "tuple" = none
 list:mg "list" = none
 int:mg "int" = none
 bool:mg "bool" = none
 all:mg "all" = none
 any:mg "any" = none
 sorted:mg "sorted" = none
 reversed:mg "reversed" = none
 bset:mg "set" = none
 bmin:mg "min" = none
 bmax:mg "max" = none
 dict:mg "dict" = none
 zip:mg "zip" = none
 enumerate:mg "enumerate" = none
 sum:mg "sum" = none
 str:mg "str" = none
section
variable {P:Program}{w:World}{K:PySem.W.Frag}{mg:Str->Option Value}{base:Heap}{c:HX}{co cq ck f P0:Addr}{fd:FuncData}
abbrev eU:Stmt:=cB (fB 8) 0
abbrev qD:List Str:=["self","guest"]
theorem pe:au qD ["self","guest"] (ai eU):=fb
abbrev iV:Stmt:=fB 10
abbrev wP:List Str:=["worn","first","ring","mask"]
theorem fq:au wP ["worn","first"] (ai iV):=fb
abbrev db:Stmt:=fB 12
abbrev gk:List Str:=["first","guests","linked","tree","reached","left","at","one","fresh","other"]
theorem bD:au gk ["first","guests","linked"] (ai db):=fb
abbrev nO:Stmt:=fB 13
abbrev Bm:List Str:=["tree","guest","way"]
theorem t9:au Bm ["tree","guest"] (ai nO):=fb
abbrev gd:Stmt:=fB 14
abbrev sf:List Str:=["tree","one","other","up","down"]
theorem fU:au sf ["tree","one","other"] (ai gd):=fb
abbrev iO:Stmt:=fB 16
abbrev wG:List Str:=["terms","known","one","other"]
theorem fk:au wG ["terms"] (ai iO):=fb
abbrev az:Stmt:=fB 17
abbrev i9:List Str:=["hall","terms","known","trees","left","tree"]
abbrev ao:Str:=(("talking_trees" : Str)++".<locals>.")++"<lambda>"
abbrev av:Pos:=Gn (ic az)
theorem bV:au i9 ["hall","terms"] (ai az):=fb
abbrev fu:Stmt:=fB 18
abbrev oH:List Str:=["hall","tree"]
theorem vm:au oH ["hall","tree"] (ai fu):=fb
abbrev gA:Stmt:=fB 19
abbrev qG:List Str:=["hall","tree","worn","row","guest","wearer","way","giver","taker","mask"]
theorem cu:au qG ["hall","tree"] (ai gA):=fb
abbrev f8:Stmt:=fB 20
abbrev se:List Str:=["hall","terms","row","tree"]
theorem fT:au se ["hall","terms"] (ai f8):=fb
abbrev eV:Stmt:=fB 21
abbrev qE:List Str:=["hall","terms","tree"]
theorem jd:au qE ["hall","terms"] (ai eV):=fb
abbrev iN:Stmt:=cB (fB 23) 0
abbrev wF:List Str:=["self"]
theorem vk:au wF ["self"] (ai iN):=fb
abbrev iM:Stmt:=cB (fB 23) 1
abbrev wE:List Str:=["self","guest"]
theorem vj:au wE ["self","guest"] (ai iM):=fb
abbrev kO:Stmt:=cB (fB 23) 2
abbrev z8:List Str:=["self","guest"]
theorem yr:au z8 ["self","guest"] (ai kO):=fb
abbrev dZ:Stmt:=cB (fB 23) 3
abbrev o5:List Str:=["self","one","other","mask","other_mask"]
theorem dW:au o5 ["self","one","other"] (ai dZ):=fb
abbrev gO:Stmt:=cB (fB 23) 4
abbrev uN:List Str:=["self","guest","mask"]
theorem sF:au uN ["self","guest","mask"] (ai gO):=fb
abbrev dY:Stmt:=cB (fB 23) 5
abbrev o0:List Str:=["self","one","other","circle"]
theorem hX:au o0 ["self","one","other"] (ai dY):=fb
abbrev fW:Stmt:=cB (fB 23) 6
abbrev rW:List Str:=["self","guest"]
theorem ro:au rW ["self","guest"] (ai fW):=fb
abbrev fV:Stmt:=cB (fB 23) 7
abbrev rV:List Str:=["self"]
theorem rm:au rV ["self"] (ai fV):=fb
abbrev gR:Stmt:=cB (fB 23) 8
abbrev uP:List Str:=["self","guest"]
theorem sM:au uP ["self","guest"] (ai gR):=fb
abbrev fY:Stmt:=cB (fB 23) 9
abbrev rY:List Str:=["self","mask"]
theorem rq:au rY ["self","mask"] (ai fY):=fb
abbrev jL:Stmt:=cB (fB 23) 10
abbrev ya:List Str:=["self","one","other"]
theorem xj:au ya ["self","one","other"] (ai jL):=fb
abbrev d5:Stmt:=cB (fB 23) 11
abbrev o7:List Str:=["self","guest"]
theorem nK:au o7 ["self","guest"] (ai d5):=fb
abbrev d7:Stmt:=cB (fB 23) 12
abbrev lM:List Str:=["self"]
theorem sG:au lM ["self"] (ai d7):=fb
abbrev gQ:Stmt:=cB (fB 23) 13
abbrev uO:List Str:=["self"]
theorem sL:au uO ["self"] (ai gQ):=fb
abbrev fX:Stmt:=cB (fB 23) 14
abbrev rX:List Str:=["self"]
theorem rp:au rX ["self"] (ai fX):=fb
abbrev fZ:Stmt:=fB 25
abbrev rZ:List Str:=["_law_script","_law_k"]
theorem rA:au rZ ["_law_script","_law_k"] (ai fZ):=fb
abbrev iU:Stmt:=fB 26
abbrev wO:List Str:=["_law_found"]
theorem vp:au wO ["_law_found"] (ai iU):=fb
abbrev jN:Stmt:=fB 27
abbrev yc:List Str:=["_law_cell"]
theorem xk:au yc ["_law_cell"] (ai jN):=fb
abbrev iR:Stmt:=fB 28
abbrev wL:List Str:=["_law_cell","_law_many","_law_base","_law_left","_law_row","_law_count","_law_k","_law_now"]
theorem bz:au wL ["_law_cell","_law_many","_law_base"] (ai iR):=fb
abbrev dN:Stmt:=fB 29
abbrev m8:List Str:=["_law_script","_law_start","_law_most","_law_base","_law_row","_law_cell","_law_drawn"]
theorem cV:au m8 ["_law_script","_law_start","_law_most","_law_base"] (ai dN):=fb
abbrev iS:Stmt:=fB 30
abbrev wM:List Str:=["_law_k","_law_cell","_law_left","_law_turn","_law_number"]
theorem fm:au wM ["_law_k","_law_cell"] (ai iS):=fb
abbrev kQ:Stmt:=fB 31
abbrev Aa:List Str:=["_law_one","_law_other"]
theorem yt:au Aa ["_law_one","_law_other"] (ai kQ):=fb
abbrev kP:Stmt:=fB 32
abbrev z9:List Str:=["_law_worn","_law_met","_law_deed_here","_law_guest_here"]
theorem rB:au z9 ["_law_worn","_law_met","_law_deed_here"] (ai kP):=fb
abbrev iP:Stmt:=fB 33
abbrev wH:List Str:=["_law_worn","_law_met","_law_deed_here","_law_kept"]
theorem mh:au wH ["_law_worn","_law_met","_law_deed_here"] (ai iP):=fb
abbrev jM:Stmt:=fB 34
abbrev yb:List Str:=["_law_drawn","_law_many","_law_cell","_law_one"]
theorem oR:au yb ["_law_drawn","_law_many","_law_cell"] (ai jM):=fb
abbrev iQ:Stmt:=fB 35
abbrev wJ:List Str:=["_law_cell"]
theorem vn:au wJ ["_law_cell"] (ai iQ):=fb
abbrev dM:Stmt:=fB 36
abbrev jA:List Str:=["_law_script","_law_cell","_law_many","_law_first","_law_deeds_here"]
theorem dL:au jA ["_law_script"] (ai dM):=fb
abbrev f6:Stmt:=fB 37
abbrev r6:List Str:=["_law_script","_law_worn","_law_met","_law_story","_law_deed_here"]
theorem c6:au r6 ["_law_script"] (ai f6):=fb
abbrev nN:Stmt:=fB 38
abbrev Bl:List Str:=["_law_hall","_law_deed_here"]
theorem At:au Bl ["_law_hall","_law_deed_here"] (ai nN):=fb
abbrev f7:Stmt:=fB 39
abbrev sd:List Str:=["_law_story","_law_hall","_law_deed_here"]
theorem fS:au sd ["_law_story"] (ai f7):=fb
abbrev iT:Stmt:=fB 40
abbrev wN:List Str:=["_law_row","_law_worn","_law_one","_law_other","_law_kept"]
theorem fo:au wN ["_law_row","_law_worn"] (ai iT):=fb
abbrev fA:Stmt:=fB 41
abbrev oK:List Str:=["_law_worn"]
theorem vq:au oK ["_law_worn"] (ai fA):=fb
abbrev gS:Stmt:=fB 42
abbrev uQ:List Str:=["_law_hall","_law_worn","_law_met","_law_story","_law_guest_here"]
theorem kz:au uQ ["_law_hall","_law_worn","_law_met","_law_story"] (ai gS):=fb
abbrev d8:Stmt:=fB 43
abbrev lN:List Str:=["_law_found"]
theorem sN:au lN ["_law_found"] (ai d8):=fb
abbrev fz:Stmt:=fB 44
abbrev oJ:List Str:=["_law_draws_here","_law_cell"]
theorem vo:au oJ ["_law_draws_here","_law_cell"] (ai fz):=fb
abbrev eW:Stmt:=fB 45
abbrev qF:List Str:=["_law_one","_law_other","_law_terms_here"]
theorem pf:au qF ["_law_one","_law_other","_law_terms_here"] (ai eW):=fb
abbrev du:Stmt:=fB 46
abbrev iF:List Str:=["_law_group","_law_worn","_law_terms_here","_law_one","_law_other"]
theorem gM:au iF ["_law_group","_law_worn","_law_terms_here"] (ai du):=fb
abbrev rJ:Stmt:=fB 47
abbrev Bk:List Str:=["_law_script","_law_worn","_law_met","_law_story","_law_hall","_law_terms_here","_law_told","_law_handed","_law_group","_law_meets","_law_row"]
theorem dX:au Bk ["_law_script"] (ai rJ):=fb
variable (T:G4 mg)(U:HT K mg c)(VM:HM K c)(UO:GQ K mg co)
include T U VM UO
theorem o8 (F:dv K "__init__" "NoGuest.__init__" eU f fd) : aS P w K mg base cJ 1 f fd ["self","guest"] (Dq c.cN "guest"):=by
 refine F.ok pe (fun vs H Q E h=>?_) (fun cdv A outer s H vs Q E hr h=>?_)
 ·obtain⟨ea,g,rfl,_⟩:=h
  rfl
 ·obtain⟨ea,g,rfl,hg,hx,k⟩:=h
  refine⟨_,af (bd (BB (fI:=c.fN) rfl U.mW U.wS U.wR U.wI (aq (pv 0) (aq (lX (c9 (iI (pv 1)) (c9 bu (rc)))) aI)))) (
   ag (BQ (pv 0) (pv 1) rfl)),?_⟩
  refine⟨_,rfl,_,rfl,g,rfl,hg,fun y hy=>⟨y,rfl,hy,_,rfl,by decide,fun z=>⟨ea,c.cN,_,rfl,hx,U.eN,?_⟩⟩⟩;exact⟨_,rfl,_,rfl,ea,c.cN,rfl,hx,U.gN,k⟩
theorem va (F:dv K "ring_from" "ring_from" iV f fd) : aS P w K mg base cJ 2 f fd ["worn","first"] pN:=by
 refine F.ok fq (fun vs H Q E h=>?_) (fun cdv A outer s H vs Q E hr h=>?_)
 ·obtain⟨w,W,g,rfl,_⟩:=h
  rfl
 ·obtain⟨w,W,g,rfl,hw,h64,P,hg,k⟩:=h
  have hu:=cr hr
  refine⟨_,af (bB 2 fq.nd (eO (eZ (pv 1)))) (
   af (bB 3 fq.nd (cF hu (pv 0) (pv 1) (fun _ _=>rfl))) (
   af (jI II (aF jc (pv 3) (pv 1) (aM _)) (af (bd (gm Iq IE IF cm (pv 2) (eZ (pv 3)))) (
   ag (bB 3 fq.nd (cF hu (pv 0) (pv 3) (fun _ _=>rfl)))))) (
   ag (ar (pv 2))))),?_⟩
  have R:=P.ring hg;have ol:=P.ord_le hg;unfold dI at k;generalize sD (wr W) W.length g=M at R k ol
  have dg:∀ (H':Hp)(x:Int),x∈ak W->H' w=some (.dK (dk W))->bM H' w (.int x) (some (.int (wr W x))):=fun H' x hx s'=>by have:=bM.k (k:=Sum.inl x) s';rw[bT,iE hx]at this;exact this
  refine⟨_,rfl,by show 1<=sizeLine;decide,fun l hl=>?_⟩;have s1:=ah (o:=.lst [V.int g]) hl;have hl1:upd H l (.lst [V.int g]) l=some (.lst ((cU (wr W) g 1).map V.int)):=ac;generalize upd H l (.lst [V.int g])=H1 at s1 hl1 ⊢;refine⟨_,rfl,_,rfl,w,_,rfl,dg H1 g hg (s1 _ _ hw),?_⟩;have i1:iter (wr W) 1 g=wr W g:=rfl;rw[<-i1];refine⟨fun n σ HH=>∃ i,n=M-i/\1<=i/\i<=M/\σ=[some (.ref w),some (.int g),some (.ref l),some (.int (iter (wr W) i g))]/\aB H HH/\HH l=some (.lst ((cU (wr W) g i).map V.int)),⟨_,1,rfl,Hv _,R.1,rfl,s1,hl1⟩,?_⟩;rintro n σ HH ⟨i,rfl,h1,hM,rfl,s2,hl2⟩;refine⟨_,rfl,_,rfl,rfl,_,rfl,?_⟩
  by_cases e:iter (wr W) i g=g
  ·rw[show (!decide (V.int (iter (wr W) i g)=V.int g))=false by rw[e];simp]
   have:i=M:=by
    by_cases hlt:i<M
    ·exact absurd e (R.2.2 i (by omega) hlt)
    ·omega
   rw[this]at hl2;exact aR ⟨_,rfl,k l HH hl s2 hl2⟩
  ·rw[show (!decide (V.int (iter (wr W) i g)=V.int g))=true by simpa using e]
   have hlt:i<M:=by
    by_cases hlt:i<M
    ·exact hlt
    ·have:i=M:=by omega
     rw[this]at e;exact absurd R.2.1 e
   have ik:iter (wr W) i g∈ak W:=jT P.cl hg i;refine bZ ⟨fun σ' H'=>σ'=[some (.ref w),some (.int g),some (.ref l),some (.int (iter (wr W) (i+1) g))]/\aB H H'/\H' l=some (.lst ((cU (wr W) g (i+1)).map V.int)),fun σ' H' ⟨a1,a2,a3⟩=>⟨M-(i+1),by omega,i+1,rfl,by omega,by omega,a1,a2,a3⟩,?_⟩;refine⟨_,rfl,.inl ⟨rfl,_,aL.of hl2⟩,_,rfl,l,_,_,rfl,rfl,hl2,by rw[Hs,zV];exact aG (by omega),?_⟩;have s3:aB H (upd HH l (.lst ((cU (wr W) g i).map V.int++[V.int (iter (wr W) i g)]))):=aZ s2 hl
   have hl3:upd HH l (.lst ((cU (wr W) g i).map V.int++[V.int (iter (wr W) i g)])) l=some (.lst ((cU (wr W) g (i+1)).map V.int)):=by rw[ac,rj,Ii];rfl
   generalize upd HH l (.lst ((cU (wr W) g i).map V.int++[V.int (iter (wr W) i g)]))=H3 at s3 hl3 ⊢;refine⟨_,rfl,_,rfl,w,_,rfl,dg H3 _ ik (s3 _ _ hw),?_⟩;exact⟨rfl,s3,hl3⟩
theorem vb (F:dv K "tree_from" "tree_from" db f fd){R:Int->Int->Bool}{J:Hp->Prop}{fl:Addr}{fdl:FuncData}{ol:Obj}(hJ:∀ H H',J H->aB H H'->J H')(LA:aS P w K mg base cJ 3 fl fdl ["one","other"] (yx J R))(lob:base.get? fl=some ol)(lod:ol.data=.func fdl)(lbi:∀ (s:Shared)(us:List Value),us.length=(["one","other"]:List Str).length->BindsTo s fdl ⟨us,[]⟩ ((["one","other"]:List Str).zip us)):aS P w K mg base cJ 4 f fd ["first","guests","linked"] (vG J R fl):=by
 refine F.ok bD (fun vs H Q E h=>?_) (fun cdv A outer s H vs Q E hr h=>?_)
 ·obtain⟨f0,lg,gs,rfl,_⟩:=h
  rfl
 ·obtain⟨f0,lg,gs,rfl,hlg,nd,hgl,j0,k⟩:=h
  have hu:=cr hr
  have one:(1:Nat)<=sizeLine:=by decide
  refine⟨_,af (bB 3 bD.nd (Db (BO (pv 0) (kJ) Dg) rfl rfl (by decide) (by decide))) (
   af (bB 4 bD.nd (eO (eZ (pv 0)))) (
   af (jX (ix:=5) (so:=ai db) (N:=gk) (N':=["guest","first"]) (src:=[none,some 0]) rfl rfl xH rfl (bq (pv 1)) (fun cl C s2 H2 ex=>⟨j7 0 (show (["guest","first"]:List Str).Nodup by decide +kernel),gr (aF jc (pv 0) (pv 1) (aM _)),pv 0⟩) bD.nd rfl rfl) (
   af (bB 6 bD.nd (am)) (
   af (jI II (aF tZ (pv 6) (aU bR (by rfl) T.len Jk (eZ (pv 4))) (aM _)) (af (bB 7 bD.nd (bh ff (pv 4) (pv 6) (fun _ _=>rfl))) (
   af (jX (ix:=8) (so:=ai db) (N:=gk) (N':=["other","linked","one"]) (src:=[none,some 2,some 7]) rfl rfl xH rfl (bq (pv 5)) (fun cl C s2 H2 ex=>⟨j7 0 (show (["other","linked","one"]:List Str).Nodup by decide +kernel),gr (dU (BD (i:=1) LA hr.m rfl (by first | exact .inl rfl | exact .inr (.inl rfl) | exact .inr (.inr rfl)) lob lod lbi eF (fF (pv 2) (pv 0)))),pv 0⟩) bD.nd rfl rfl) (
   af (cY II rfl (bq (pv 8)) (j7 9 bD.nd) (ag (cR hu (pv 3) (pv 9) (pv 7) rfl))) (
   af (bd (gm Iq PySem.F.slot_list_extend PySem.F.type_list_extend tW (pv 4) (eZ (pv 8)))) (
   af (jX (ix:=5) (so:=ai db) (N:=gk) (N':=["other","tree"]) (src:=[none,some 3]) rfl rfl xH rfl (bq (pv 5)) (fun cl C s2 H2 ex=>⟨j7 0 (show (["other","tree"]:List Str).Nodup by decide +kernel),gr (eQ (fG hu (pv 0) (pv 1))),pv 0⟩) bD.nd rfl rfl) (
   ag (Eu (i:=6) bD.nd rfl (Or.inl rfl) (am) D6)))))))) (
   ag (ar (pv 3))))))),?_⟩
  intro tr htr;refine⟨_,rfl,ac,[(Sum.inl f0,.non)],rfl,(by show (1:Nat)<=15;decide),?_⟩
  have e0:upd (upd H tr (.dK [])) tr (.dK (m6 [] [(Sum.inl f0,V.non)]))=upd H tr (.dK (dB [(f0,none,0)])):=by
   funext b
   by_cases z:b=tr
   ·rw[z,ac,ac];rfl
   ·rw[ae z,ae z,ae z]
  rw[e0];refine⟨_,rfl,one,fun lr hlr=>?_⟩;have s1:aB H (upd (upd H tr (.dK (dB [(f0,none,0)]))) lr (.lst [.int f0])):=(ah htr).trans (ah hlr);have hlrH:H lr=none:=(ah htr).free hlr;have htr1:upd (upd H tr (.dK (dB [(f0,none,0)]))) lr (.lst [.int f0]) tr=some (.dK (dB [(f0,none,0)])):=ah hlr _ _ ac;have hlr1:upd (upd H tr (.dK (dB [(f0,none,0)]))) lr (.lst [.int f0]) lr=some (.lst [.int f0]):=ac;generalize upd (upd H tr (.dK (dB [(f0,none,0)]))) lr (.lst [.int f0])=H1 at s1 htr1 hlr1 ⊢;clear e0 hlr;refine⟨_,rfl,lg,rfl,⟨_,aL.of (s1 _ _ hlg)⟩,fun l1 hl1=>?_⟩;refine iB (K:=K) (f:=fun x=>decide (x≠f0)) hl1 (s1 _ _ hlg) (by omega) (fun r HK Q' hr0 sK kk=>?_) (fun H2 s2 hl2=>?_)
  ·refine⟨_,rfl,_,rfl,rfl,_,rfl,?_⟩
   have e1:(!decide (V.int r=V.int f0))=decide (r≠f0):=by
    by_cases z:r=f0
    ·rw[z];simp
    ·rw[HY (show r≠f0 from z),Ih (fun q=>z (V.int.inj q))];rfl
   rw[e1];exact kk HK (aB.refl _)
  have s12:=s1.trans s2
  have n1:l1≠lr:=fun z=>by rw[z,hlr1]at hl1;cases hl1
  refine⟨fun m σ HH=>∃ n,m=gs.length+1-n/\DH R f0 gs H lg fl tr lr n σ HH,⟨_,0,rfl,_,_,l1,none,none,none,rfl,s12,s2 _ _ htr1,s2 _ _ hlr1,hl2,n1,FP nd,Ip _,?_⟩,?_⟩
  ·show 1+(gs.filter _).length<=_
   have:=IV (fun x=>decide (x≠f0)) gs;omega
  clear hl2 hl1 n1 s12 s2 hlr1 htr1 s1 H1;rintro m σ HH ⟨n,rfl,t,left,la,v7,v8,v9,rfl,sH,htr2,hlr2,hla,nal,TI,hn,hle⟩;refine⟨_,rfl,_,rfl,lr,_,rfl,.inl (aL.of hlr2),_,_,rfl,rfl,_,rfl,?_⟩
  have hlk:(((aA t).map V.int).length:Int)=(t.length:Int):=by unfold aA;rw[Hs,Hs]
  rw[hlk]
  by_cases hlt:n<t.length
  ·obtain⟨p,hp⟩:∃ p,t[n]? = some p:=⟨_,List.getElem?_eq_getElem hlt⟩
   rw[HY (by omega)];refine bZ ⟨DH R f0 gs H lg fl tr lr (n+1),fun σ' H' h'=>⟨gs.length+1-(n+1),by omega,n+1,rfl,h'⟩,?_⟩;have hat:ur ((aA t).map V.int) (n:Int)=some (V.int p.1):=jR (by unfold aA;rw[List.getElem?_map,List.getElem?_map,hp];rfl);refine⟨_,rfl,_,rfl,lr,_,_,_,rfl,rfl,aL.of hlr2,hat,?_⟩;refine⟨_,rfl,la,rfl,⟨_,aL.of hla⟩,fun l2 hl2=>?_⟩;refine iB (K:=K) (f:=R p.1) hl2 hla (by omega) (fun r HK Q' hr0 sK kk=>?_) (fun H2 s2 hf2=>?_)
   ·exact⟨rfl,_,rfl,_,rfl,p.1,r,rfl,hJ _ _ j0 (sH.trans sK),fun H5 s5=>⟨_,rfl,kk H5 s5⟩⟩
   have n2:l2≠lr:=fun z=>by rw[z,hlr2]at hl2;cases hl2
   have htrl:∀ {HX:Hp}{b:Addr}{xs:List V}{kvs:List (bP×V)},HX tr=some (.dK kvs)->HX b=some (.lst xs)->b≠tr:=fun h1 h2 z=>by rw[z,h1]at h2;cases h2
   have sH2:=sH.trans s2;have htr3:=s2 _ _ htr2;have hlr3:=s2 _ _ hlr2;have hla3:=s2 _ _ hla;have hlrH2:H lr=none:=hlrH;have lfr:=AY (R p.1) left;obtain⟨fr,efr⟩:∃ fr,fr=left.filter (R p.1):=⟨_,rfl⟩;rw[<-efr]at hf2 lfr
   have frn:∀ x∈fr,x∉aA t:=fun x hx z=>by
    rw[efr]at hx;exact TI.dj x z (Iy.mp hx).1
   have frd:fr.Nodup:=by rw[efr];exact TI.ln.sublist JY
   refine⟨_,rfl,l2,rfl,⟨_,aL.of hf2⟩,?_⟩
   refine bj (K:=K) (a:=l2) (xs:=fr.map V.int) (fun i σ HX=>∃ v9,σ=[some (.int f0),some (.ref lg),some (.ref fl),some (.ref tr),some (.ref lr),some (.ref la),some (.int (n:Int)),some (.int p.1),some (.ref l2),v9]/\HX tr=some (.dK (dB (t++dQ p (fr.take i))))/\(∀ b o,H2 b=some o->b≠tr->HX b=some o))
    ⟨_,rfl,by rw[List.take_zero];show H2 tr=some (.dK (dB (t++[])));rw[Jw];exact htr3,fun b o e _=>e⟩ (fun i σ HX _ ⟨_,_,_,s3⟩=>aL.of (s3 _ _ hf2 (htrl htr3 hf2))) ?_ ?_
   ·rintro i y σ HX hi ⟨v9,rfl,htr4,s3⟩
    obtain⟨r,hr0,rfl⟩:=aY hi;have hil:=(List.getElem?_eq_some_iff.mp hr0).1
    have rn:r∉aA (t++dQ p (fr.take i)):=fun z=>by
     rw[lO,qq]at z;rcases Ie.mp z with z | z
     ·exact frn r (Hx hr0) z
     ·obtain⟨j,hj⟩:=List.getElem?_of_mem z
      have hj2:fr[j]? = some r:=by
       rw[List.getElem?_take]at hj;split at hj
       ·exact hj
       ·cases hj
      have hji:j<i:=by
       rw[List.getElem?_take]at hj;split at hj
       ·assumption
       ·cases hj
      have:=(List.getElem?_inj hil frd).mp (hr0.trans hj2.symm);omega
    have lk:(dB (t++dQ p (fr.take i))).length<sizeLine:=by
     unfold dB dQ;rw[Hs,Ia,Hs,Io];exact aG (by omega)
    refine⟨_,rfl,_,rfl,_,rfl,tr,_,rfl,gF.k (k:=Sum.inl r) htr4 lk,_,rfl,?_,fun b o e nb=>?_⟩
    ·rw[ac,CY (d:=p.2.2+1) rn,JD,Iv,hr0,ID]
     unfold dQ;rw[Ii];rfl
    ·rw[ae nb];exact s3 b o e nb
   ·rintro σ HX ⟨v9,rfl,htr4,s3⟩
    rw[Hs,Ir]at htr4;have hlr5:=s3 _ _ hlr3 (htrl htr3 hlr3);have hf5:=s3 _ _ hf2 (htrl htr3 hf2);have hla5:=s3 _ _ hla3 (htrl htr3 hla3);have sH5:aB H HX:=fun b o e=>s3 b o (sH2 b o e) (fun z=>by rw[z,htr]at e;cases e)
    have lk:((aA t).map V.int).length+(fr.map V.int).length<=sizeLine:=by
     unfold aA;rw[Hs,Hs,Hs];exact Ju (aG (by omega))
    refine⟨_,rfl,.inl ⟨rfl,_,aL.of hlr5⟩,_,rfl,lr,l2,_,_,rfl,rfl,hlr5,hf5,lk,?_⟩
    have hlr6:upd HX lr (.lst ((aA t).map V.int++fr.map V.int)) lr=some (.lst ((aA (t++dQ p fr)).map V.int)):=by rw[ac,lO,qq,Ii]
    have sH6:aB H (upd HX lr (.lst ((aA t).map V.int++fr.map V.int))):=aZ sH5 hlrH
    have htr6:upd HX lr (.lst ((aA t).map V.int++fr.map V.int)) tr=some (.dK (dB (t++dQ p fr))):=by rw[ae (htrl htr4 hlr5).symm];exact htr4
    have hla6:upd HX lr (.lst ((aA t).map V.int++fr.map V.int)) la=some (.lst (left.map V.int)):=by rw[ae nal];exact hla5
    generalize upd HX lr (.lst ((aA t).map V.int++fr.map V.int))=H6 at hlr6 sH6 htr6 hla6 ⊢;have TI2:=Ax TI hp
    have ett:t++(left.filter (R p.1)).map (fun x=>(x,some p.1,p.2.2+1))=t++dQ p fr:=by rw[efr];rfl
    rw[ett]at TI2;refine⟨_,rfl,la,rfl,⟨_,aL.of hla6⟩,fun l3 hl3=>?_⟩;refine iB (K:=K) (f:=fun x=>!decide (x∈aA (t++dQ p fr))) hl3 hla6 (by omega) (fun r HK Q' hr0 sK kk=>?_) (fun H7 s7 hf7=>?_)
    ·refine⟨_,rfl,_,rfl,tr,_,rfl,bM.k (k:=Sum.inl r) (sK _ _ htr6),_,rfl,?_⟩
     rw[qx TI2.kn];exact kk HK (aB.refl _)
    have n3:l3≠lr:=fun z=>by rw[z,hlr6]at hl3;cases hl3
    have efl:(left.filter fun x=>!decide (x∈aA (t++dQ p fr)))=left.filter fun x=>!R p.1 x:=List.filter_congr fun x hx=>by
     rw[lO,qq]
     cases e:R p.1 x with
     | true=>rw[HY (Ie.mpr (.inr (by rw[efr];exact Iy.mpr ⟨hx,e⟩)))]
     | false =>
      rw[Ih];intro z;rcases Ie.mp z with z | z
      ·exact TI.dj x z hx
      ·rw[efr]at z
       rw[(Iy.mp z).2]at e;cases e
    rw[efl]at hf7;refine⟨_,rfl,_,_,rfl,rfl,?_⟩;refine⟨_,_,l3,_,_,_,rfl,sH6.trans s7,s7 _ _ htr6,s7 _ _ hlr6,hf7,n3,TI2,?_,?_⟩
    ·rw[Ia];omega
    ·unfold dQ
     rw[Ia,Hs];omega
  ·rw[Ih (by omega)]
   refine aR ?_
   have en:n=t.length:=by omega
   rw[en]at TI;exact⟨_,rfl,k tr t HH htr sH htr2 ⟨left,TI⟩ (by omega)⟩
theorem Ae (F:dv K "way_up" "way_up" nO f fd) : aS P w K mg base cJ 1 f fd ["tree","guest"] vH:=by
 refine F.ok t9 (fun vs H Q E h=>?_) (fun cdv A outer s H vs Q E hr h=>?_)
 ·obtain⟨tr,R,f0,gs,t,left,i,e,rfl,_⟩:=h
  rfl
 ·obtain⟨tr,R,f0,gs,t,left,i,e,rfl,htr,TI,htl,hi,k⟩:=h
  have hu:=cr hr
  have one:(1:Nat)<=sizeLine:=by decide
  refine⟨_,af (bB 2 t9.nd (eO (eZ (pv 1)))) (
   af (jI II (eQ (Da (cF hu (pv 0) (bh ff (pv 2) (oN jO (am)) (fun _ _=>rfl)) (fun _ _=>rfl)))) (ag (bd (gm Iq IE IF cm (pv 2) (eZ (cF hu (pv 0) (bh ff (pv 2) (oN jO (am)) (fun _ _=>rfl)) (fun _ _=>rfl))))))) (
   ag (ar (pv 2)))),?_⟩
  refine⟨_,rfl,one,fun lw hlw=>?_⟩;have s1:=ah (o:=.lst [.int e.1]) hlw;have dl:=(xp TI i i e (Hv _) hi).2;have il:=(List.getElem?_eq_some_iff.mp hi).1;refine⟨fun m σ HH=>∃ (es:List Nd)(b:Nd),m=b.2.2/\σ=[some (.ref tr),some (.int e.1),some (.ref lw)]/\aB H HH/\HH lw=some (.lst ((aA es).map V.int))/\(vU R t e.1 es/\lb t e.1 es)/\es.getLast? = some b/\es.length+b.2.2=e.2.2+1,⟨_,[e],e,rfl,rfl,s1,ac,⟨EN hi,FR hi⟩,rfl,by show 1+e.2.2=_;omega⟩,?_⟩;rintro m σ HH ⟨es,b,rfl,rfl,sH,hlw1,⟨W,WP⟩,hb,hle⟩;have hbm:=W.mem b (List.mem_of_getLast? hb);obtain⟨j,hj⟩:=List.getElem?_of_mem hbm
  obtain⟨es0,eE⟩:∃ es0,es=es0++[b]:=by
   obtain⟨e1,he1⟩:=List.getLast?_eq_some_iff.mp hb;exact⟨e1,he1⟩
  have at1:ur ((aA es).map V.int) (-1)=some (V.int b.1):=by
   rw[eE,lO,Ii];exact vZ _ _
  have gD:∀ {HX:Hp},HX tr=some (.dK (dB t))->bM HX tr (.int b.1) (some (Ef b.2.1)):=fun h=>by
   have:=bM.k (k:=Sum.inl b.1) h;rw[uG TI.kn hj]at this;exact this
  have htrH:=sH _ _ htr;refine⟨_,rfl,_,rfl,_,rfl,lw,_,_,_,rfl,rfl,aL.of hlw1,at1,tr,_,rfl,gD htrH,_,rfl,?_⟩;rw[Bn]
  cases hq:b.2.1 with
  | none =>
   have eb:=DA TI hbm hq;refine aR ⟨_,rfl,k lw es HH hlw sH hlw1 WP (by rw[hb,eb]) (by rw[eb]at hle;have hle:es.length+0=e.2.2+1:=hle;omega)⟩
  | some q =>
   obtain⟨p,rfl,pm,pd,W2⟩:=yB TI W hb hq;rw[hq]at gD;refine bZ ⟨fun σ' HH'=>∃ es',σ'=[some (.ref tr),some (.int e.1),some (.ref lw)]/\aB H HH'/\HH' lw=some (.lst ((aA es').map V.int))/\(vU R t e.1 es'/\lb t e.1 es')/\es'.getLast? = some p/\es'.length+p.2.2=e.2.2+1,fun σ' H' ⟨es',h1,h2,h3,h4,h5,h6⟩=>⟨p.2.2,by omega,es',p,rfl,h1,h2,h3,h4,h5,h6⟩,?_⟩
   have lk:((aA es).map V.int).length<sizeLine:=by unfold aA;rw[Hs,Hs];exact aG (by omega)
   refine⟨_,rfl,.inl ⟨rfl,_,aL.of hlw1⟩,_,rfl,_,rfl,_,rfl,lw,_,_,_,rfl,rfl,aL.of hlw1,at1,tr,_,rfl,gD htrH,lw,_,_,rfl,rfl,hlw1,lk,?_⟩;refine⟨es++[p],rfl,aZ sH hlw,?_,⟨W2,AC WP hb pm hq pd⟩,by rw[List.getLast?_append];rfl,by rw[Ia,IC];omega⟩;rw[ac,lO,Ii];rfl
theorem qW (F:dv K "way_between" "way_between" gd f fd)(Cway_up:ay P w K mg base "way_up" 1 ["tree","guest"] vH) : aS P w K mg base cJ 2 f fd ["tree","one","other"] vD:=by
 refine F.ok fU (fun vs H Q E h=>?_) (fun cdv A outer s H vs Q E hr h=>?_)
 ·obtain⟨tr,R,f0,gs,t,left,i,j,x,y,rfl,_⟩:=h
  rfl
 ·obtain⟨tr,R,f0,gs,t,left,i,j,x,y,rfl,htr,TI,sy,htl,hi,hj,k⟩:=h
  have hu:=cr hr
  refine⟨_,af (bB 3 fU.nd (bo Cway_up hr.m rfl (fF (pv 0) (pv 1)))) (
   af (bB 4 fU.nd (bo Cway_up hr.m rfl (fF (pv 0) (pv 2)))) (
   af (jI II (PW.pt (gL (aF Bs (aU bR (by rfl) T.len Jk (eZ (pv 3))) (am) (aM _)) (gL (aF Bs (aU bR (by rfl) T.len Jk (eZ (pv 4))) (am) (aM _)) (gu (aF eD (bh ff (pv 3) (oN jO (am)) (fun _ _=>rfl)) (bh ff (pv 4) (oN jO (am)) (fun _ _=>rfl)) (aM _)))))) (af (bd (BC Iq PySem.F.slot_list_pop PySem.F.type_list_pop Bj (pv 3))) (
   ag (bd (BC Iq PySem.F.slot_list_pop PySem.F.type_list_pop Bj (pv 4)))))) (
   ag (ar (aV Bq (pv 3) (En (jG pG (pv 4) pF (jW (oN jO (am)))) Dd)))))),?_⟩
  refine⟨_,rfl,_,rfl,tr,R,f0,gs,t,left,i,x,rfl,htr,TI,htl,hi,fun up w H1 hup s1 hup1 W we wl=>?_⟩;refine⟨_,rfl,_,rfl,tr,R,f0,gs,t,left,j,y,rfl,s1 _ _ htr,TI,htl,hj,fun dn v H2 hdn s2 hdn2 Vp ve vl=>?_⟩;have hup2:=s2 _ _ hup1
  have hdn0:H dn=none:=by
   cases e:H dn with
   | none=>rfl
   | some o=>rw[s1 _ _ e]at hdn;cases hdn
  have nud:up≠dn:=fun z=>by rw[<-z,hup1]at hdn;cases hdn
  have s12:=s1.trans s2
  have w1:1<=w.length:=by cases w with | nil=>cases we | cons a b=>exact Nat.succ_le_succ (Ip _)
  have v1:1<=v.length:=by cases v with | nil=>cases ve | cons a b=>exact Nat.succ_le_succ (Ip _)
  have ww:w[w.length-1]? = some (f0,none,0):=by rw[<-List.getLast?_eq_getElem?];exact we
  have vv:v[v.length-1]? = some (f0,none,0):=by rw[<-List.getLast?_eq_getElem?];exact ve
  refine⟨fun m σ HH=>∃ (a b:Nat),m=a/\σ=[some (.ref tr),some (.int x.1),some (.int y.1),some (.ref up),some (.ref dn)]/\aB H HH/\HH up=some (.lst ((aA (w.take a)).map V.int))/\HH dn=some (.lst ((aA (v.take b)).map V.int))/\(1<=a/\a<=w.length)/\(1<=b/\b<=v.length)/\w[a-1]? = v[b-1]?,
   ⟨_,w.length,v.length,rfl,rfl,s12,by rw[Ir];exact hup2,by rw[Ir];exact hdn2,⟨w1,Hv _⟩,⟨v1,Hv _⟩,by rw[ww,vv]⟩,?_⟩
  rintro a σ HH ⟨_,b,rfl,rfl,sH,hU,hD,⟨a1,a2⟩,⟨b1,b2⟩,hab⟩
  have lU:(aA (w.take a)).length=a:=by unfold aA;rw[Hs,Io];omega
  have lD:(aA (v.take b)).length=b:=by unfold aA;rw[Hs,Io];omega
  refine⟨_,rfl,up,_,rfl,.inl (aL.of hU),_,_,rfl,rfl,_,rfl,?_⟩;rw[Hs,lU]
  by_cases z1:1<a
  ·rw[HY (show (1:Int)<(a:Int) by omega)]
   refine bZ ⟨_,rfl,dn,_,rfl,.inl (aL.of hD),_,_,rfl,rfl,_,rfl,?_⟩;rw[Hs,lD]
   by_cases z2:1<b
   ·rw[HY (show (1:Int)<(b:Int) by omega)]
    obtain⟨ea,hea⟩:∃ e,w[a-2]? = some e:=⟨_,List.getElem?_eq_getElem (by omega)⟩;obtain⟨eb,heb⟩:∃ e,v[b-2]? = some e:=⟨_,List.getElem?_eq_getElem (by omega)⟩
    have at2:∀ (u:List Nd)(n:Nat)(e:Nd),n<=u.length->1<n->u[n-2]? = some e->ur ((aA (u.take n)).map V.int) (-2)=some (V.int e.1):=fun u n e h1 h2 h3=>by
     have ln:((aA (u.take n)).map V.int).length=n:=by unfold aA;rw[Hs,Hs,Io];omega
     have:((aA (u.take n)).map V.int)[n-2]? = some (V.int e.1):=by unfold aA;rw[List.getElem?_map,List.getElem?_map,List.getElem?_take,Hw (by omega),h3];rfl
     exact AJ ln h2 this
    refine bZ ⟨_,rfl,_,rfl,up,_,_,_,rfl,rfl,aL.of hU,at2 w a ea a2 z1 hea,_,rfl,_,rfl,dn,_,_,_,rfl,rfl,aL.of hD,at2 v b eb b2 z2 heb,rfl,_,rfl,?_⟩
    by_cases z3:ea=eb
    ·rw[HY (show V.int ea.1=V.int eb.1 by rw[z3])]
     refine bZ ⟨fun σ' HH'=>∃ (a' b':Nat),a'<a/\σ'=[some (.ref tr),some (.int x.1),some (.int y.1),some (.ref up),some (.ref dn)]/\aB H HH'/\HH' up=some (.lst ((aA (w.take a')).map V.int))/\HH' dn=some (.lst ((aA (v.take b')).map V.int))/\(1<=a'/\a'<=w.length)/\(1<=b'/\b'<=v.length)/\w[a'-1]? = v[b'-1]?,fun σ' H' ⟨a',b',q1,q⟩=>⟨a',q1,a',b',rfl,q⟩,?_⟩
     have pop:∀ (u:List Nd)(n:Nat),n<=u.length->1<=n->((aA (u.take n)).map V.int).dropLast=(aA (u.take (n-1))).map V.int:=fun u n h1 h2=>by
      unfold aA;rw[<-J6,<-J6,List.dropLast_eq_take,Io,List.take_take,show min (min n u.length-1) n=n-1 by omega]
     have lst:∀ (u:List Nd)(n:Nat),n<=u.length->1<=n->∃ e,((aA (u.take n)).map V.int)[((aA (u.take n)).map V.int).length-1]? = some e:=fun u n h1 h2=>⟨_,List.getElem?_eq_getElem (by unfold aA;rw[Hs,Hs,Io];omega)⟩;obtain⟨y1,hy1⟩:=lst w a a2 a1;obtain⟨y2,hy2⟩:=lst v b b2 b1;refine⟨_,rfl,.inl ⟨rfl,_,aL.of hU⟩,up,_,y1,rfl,rfl,hU,hy1,?_⟩
     have hD5:upd HH up (.lst ((aA (w.take a)).map V.int).dropLast) dn=some (.lst ((aA (v.take b)).map V.int)):=by rw[ae (Ik nud)];exact hD
     refine⟨_,rfl,.inl ⟨rfl,_,aL.of hD5⟩,dn,_,y2,rfl,rfl,hD5,hy2,?_⟩;refine⟨a-1,b-1,by omega,rfl,aZ (aZ sH hup) hdn0,?_,?_,by omega,by omega,?_⟩
     ·rw[ae nud,ac,pop w a a2 a1]
     ·rw[ac,pop v b b2 b1]
     ·rw[show a-1-1=a-2 by omega,show b-1-1=b-2 by omega,hea,heb,z3]
    ·have nm:¬ ea.1=eb.1:=fun q=>z3 (fO TI.kn (W.mem ea (Hx hea)) (Vp.mem eb (Hx heb)) q)
     rw[Ih (show ¬ V.int ea.1=V.int eb.1 from fun q=>nm (V.int.inj q))];refine (aR ⟨_,rfl,_,rfl,uR ⟨_,rfl,_,rfl,dn,_,rfl,aL.of hD,fun l1 hl1=>?_⟩⟩);rw[ux];have s3:=ah (o:=.lst ((aA (v.take b)).map V.int).dropLast) hl1;have h3:upd HH l1 (.lst ((aA (v.take b)).map V.int).dropLast) l1=some (.lst ((aA (v.take b)).map V.int).dropLast):=ac;generalize upd HH l1 (.lst ((aA (v.take b)).map V.int).dropLast)=H3 at s3 h3 ⊢;refine⟨l1,_,rfl,aL.of h3,fun l2 hl2=>?_⟩;have s4:=ah (o:=.lst ((aA (v.take b)).map V.int).dropLast.reverse) hl2;have h4:upd H3 l2 (.lst ((aA (v.take b)).map V.int).dropLast.reverse) l2=some (.lst ((aA (v.take b)).map V.int).dropLast.reverse):=ac;generalize upd H3 l2 (.lst ((aA (v.take b)).map V.int).dropLast.reverse)=H4 at s4 h4 ⊢
     have sz:((aA (w.take a)).map V.int).length+(((aA (v.take b)).map V.int).dropLast.reverse).length<=sizeLine:=by rw[JF,IY,Hs,Hs,lU,lD];exact Ju (aG (by omega))
     refine⟨up,l2,_,_,rfl,rfl,s4 _ _ (s3 _ _ hU),h4,sz,fun l3 hl3=>?_⟩;have sR:=(sH.trans s3).trans s4
     have n3:H l3=none:=by
      cases e:H l3 with
      | none=>rfl
      | some o=>rw[sR _ _ e]at hl3;cases hl3
     refine k l3 (kI w v a b) _ n3 (sR.trans (ah hl3)) ?_ fun m hm1 hm2=>x6 sy TI W Vp ⟨a1,a2⟩ ⟨b1,b2⟩ hab (fun z=>z3 (by have q:=z.2.2;rw[hea,heb]at q;exact Hy q)) hi rfl hm1 hj rfl hm2;rw[ac];unfold kI;rw[Ii,List.map_reverse,J6]
   ·rw[Ih (show ¬ (1:Int)<(b:Int) by omega)]
    refine aR (aR ⟨_,rfl,_,rfl,uR ⟨_,rfl,_,rfl,dn,_,rfl,aL.of hD,fun l1 hl1=>?_⟩⟩);rw[ux];have s3:=ah (o:=.lst ((aA (v.take b)).map V.int).dropLast) hl1;have h3:upd HH l1 (.lst ((aA (v.take b)).map V.int).dropLast) l1=some (.lst ((aA (v.take b)).map V.int).dropLast):=ac;generalize upd HH l1 (.lst ((aA (v.take b)).map V.int).dropLast)=H3 at s3 h3 ⊢;refine⟨l1,_,rfl,aL.of h3,fun l2 hl2=>?_⟩;have s4:=ah (o:=.lst ((aA (v.take b)).map V.int).dropLast.reverse) hl2;have h4:upd H3 l2 (.lst ((aA (v.take b)).map V.int).dropLast.reverse) l2=some (.lst ((aA (v.take b)).map V.int).dropLast.reverse):=ac;generalize upd H3 l2 (.lst ((aA (v.take b)).map V.int).dropLast.reverse)=H4 at s4 h4 ⊢
    have sz:((aA (w.take a)).map V.int).length+(((aA (v.take b)).map V.int).dropLast.reverse).length<=sizeLine:=by rw[JF,IY,Hs,Hs,lU,lD];exact Ju (aG (by omega))
    refine⟨up,l2,_,_,rfl,rfl,s4 _ _ (s3 _ _ hU),h4,sz,fun l3 hl3=>?_⟩;have sR:=(sH.trans s3).trans s4
    have n3:H l3=none:=by
     cases e:H l3 with
     | none=>rfl
     | some o=>rw[sR _ _ e]at hl3;cases hl3
    refine k l3 (kI w v a b) _ n3 (sR.trans (ah hl3)) ?_ fun m hm1 hm2=>x6 sy TI W Vp ⟨a1,a2⟩ ⟨b1,b2⟩ hab (fun z=>z2 z.2.1) hi rfl hm1 hj rfl hm2;rw[ac];unfold kI;rw[Ii,List.map_reverse,J6]
  ·rw[Ih (show ¬ (1:Int)<(a:Int) by omega)]
   refine aR (aR ⟨_,rfl,_,rfl,uR ⟨_,rfl,_,rfl,dn,_,rfl,aL.of hD,fun l1 hl1=>?_⟩⟩);rw[ux];have s3:=ah (o:=.lst ((aA (v.take b)).map V.int).dropLast) hl1;have h3:upd HH l1 (.lst ((aA (v.take b)).map V.int).dropLast) l1=some (.lst ((aA (v.take b)).map V.int).dropLast):=ac;generalize upd HH l1 (.lst ((aA (v.take b)).map V.int).dropLast)=H3 at s3 h3 ⊢;refine⟨l1,_,rfl,aL.of h3,fun l2 hl2=>?_⟩;have s4:=ah (o:=.lst ((aA (v.take b)).map V.int).dropLast.reverse) hl2;have h4:upd H3 l2 (.lst ((aA (v.take b)).map V.int).dropLast.reverse) l2=some (.lst ((aA (v.take b)).map V.int).dropLast.reverse):=ac;generalize upd H3 l2 (.lst ((aA (v.take b)).map V.int).dropLast.reverse)=H4 at s4 h4 ⊢
   have sz:((aA (w.take a)).map V.int).length+(((aA (v.take b)).map V.int).dropLast.reverse).length<=sizeLine:=by rw[JF,IY,Hs,Hs,lU,lD];exact Ju (aG (by omega))
   refine⟨up,l2,_,_,rfl,rfl,s4 _ _ (s3 _ _ hU),h4,sz,fun l3 hl3=>?_⟩;have sR:=(sH.trans s3).trans s4
   have n3:H l3=none:=by
    cases e:H l3 with
    | none=>rfl
    | some o=>rw[sR _ _ e]at hl3;cases hl3
   refine k l3 (kI w v a b) _ n3 (sR.trans (ah hl3)) ?_ fun m hm1 hm2=>x6 sy TI W Vp ⟨a1,a2⟩ ⟨b1,b2⟩ hab (fun z=>z1 z.1) hi rfl hm1 hj rfl hm2;rw[ac];unfold kI;rw[Ii,List.map_reverse,J6]
theorem uU (F:dv K "both_ways" "both_ways" iO f fd) : aS P w K mg base cJ 1 f fd ["terms"] vz:=by
 refine F.ok fk (fun vs H Q E h=>?_) (fun cdv A outer s H vs Q E hr h=>?_)
 ·obtain⟨l,ps,rfl,_⟩:=h
  rfl
 ·obtain⟨l,ps,rfl,row,hlen,k⟩:=h
  have hu:=cr hr
  refine⟨_,af (bB 1 fk.nd xa) (
   af (cY II rfl (bq (pv 0)) (vd rfl (dF (j7 2 fk.nd) (dF (j7 3 fk.nd) pC))) (af (cR hu (pv 1) (bS (fF (pv 2) (pv 3))) (dm) rfl) (
   ag (cR hu (pv 1) (bS (fF (pv 3) (pv 2))) (dm) rfl)))) (
   ag (ar (pv 1)))),?_⟩
  obtain⟨as,hl,hp⟩:=id row;have hpl:=Ic hp;intro kn hkn;have sA:=ah (o:=.dT []) hkn;have hs1:upd H kn (.dT []) kn=some (.dT (jU [])):=ac;generalize upd H kn (.dT [])=H1 at sA hs1 ⊢
  refine⟨_,rfl,l,rfl,⟨_,aL.of (sA _ _ hl)⟩,bj (K:=K) (a:=l) (xs:=as.map V.ref) (fun i σ HH=>∃ (v1 v2:Option V)(ml:List (Int×Int)),σ=[some (.ref l),some (.ref kn),v1,v2]/\aB H HH/\HH kn=some (.dT (jU ml))/\ml.length<=2*i/\∀ a b:Int,(a,b)∈ml↔mJ (ps.take i) a b=true)
   ⟨none,none,[],rfl,sA,hs1,Hv _,fun a b=>⟨fun z=>(by cases z),fun z=>by simp[mJ]at z⟩⟩ (fun i σ HH _ ⟨_,_,_,_,s2,_⟩=>aL.of (s2 _ _ hl)) ?_ ?_⟩
  ·rintro i y σ HH hi ⟨v1,v2,ml,rfl,t1,hs2,ln,al⟩
   obtain⟨b,hb,rfl⟩:=aY hi;have hil:i<as.length:=(List.getElem?_eq_some_iff.mp hb).1;obtain⟨p,hp0,hB⟩:=bg hp hb;refine⟨b,_,rfl,dC.of (t1 _ _ hB),rfl,_,_,rfl,_,_,rfl,rfl,?_⟩
   have two:(2:Nat)<=sizeLine:=by decide
   have put:∀ (HA:Hp)(mm:List (Int×Int))(x z:Int)(kt:Addr),HA kn=some (.dT (jU mm))->mm.length<=900->HA kt=none->gF (upd HA kt (.tup [.int x,.int z])) kn (.ref kt) (V.bl true) (upd (upd HA kt (.tup [.int x,.int z])) kn (.dT (jU (gK mm (x,z))))):=fun HA mm x z kt e1 e2 e3=>by
    rw[<-yY];exact gF.t (k:=[Sum.inl x,Sum.inl z]) ((ah e3) _ _ e1) ac (by unfold jU;rw[Hs];exact aG (by omega))
   refine⟨_,rfl,_,rfl,_,rfl,two,fun kt hkt=>⟨kn,_,rfl,put HH ml p.1 p.2 kt hs2 (by omega) hkt,?_⟩⟩;have u1:=aZ (o:=.dT (jU (gK ml (p.1,p.2)))) (t1.trans (ah (o:=.tup [.int p.1,.int p.2]) hkt)) hkn;have w1:upd (upd HH kt (.tup [.int p.1,.int p.2])) kn (.dT (jU (gK ml (p.1,p.2)))) kn=some (.dT (jU (gK ml (p.1,p.2)))):=ac;generalize upd (upd HH kt (.tup [.int p.1,.int p.2])) kn (.dT (jU (gK ml (p.1,p.2))))=H5 at u1 w1 ⊢;have l1:=vV ml (p.1,p.2);have l2:=vV (gK ml (p.1,p.2)) (p.2,p.1);refine⟨_,rfl,_,rfl,_,rfl,two,fun k2 hk2=>⟨kn,_,rfl,put H5 _ p.2 p.1 k2 w1 (by omega) hk2,?_⟩⟩;refine⟨_,_,gK (gK ml (p.1,p.2)) (p.2,p.1),rfl,aZ (u1.trans (ah hk2)) hkn,ac,by omega,fun x z=>?_⟩;rw[qA,qA,al x z,Iv,hp0];unfold mJ;rw[decide_eq_true_iff,decide_eq_true_iff,ID,Ie,Ie,HR,HR];obtain⟨p1,p2⟩:=p;have e1:((x,z)=(p2,p1))↔((z,x)=(p1,p2)):=⟨fun y=>by cases y;rfl,fun y=>by cases y;rfl⟩;rw[e1];have o4:∀ {a b c d:Prop},(((a\/b)\/c)\/d)↔((a\/c)\/b\/d):=fun {a b c d}=>⟨fun y=>by rcases y with ((y | y) | y) | y;exact .inl (.inl y);exact .inr (.inl y);exact .inl (.inr y);exact .inr (.inr y),fun y=>by rcases y with (y | y) | y | y;exact .inl (.inl (.inl y));exact .inl (.inr y);exact .inl (.inl (.inr y));exact .inr y⟩;exact o4
  ·rintro σ HH ⟨v1,v2,ml,rfl,t1,hs2,ln,al⟩
   rw[show (as.map V.ref).length=ps.length by rw[Hs,hpl],Ir]at al;exact⟨_,rfl,k kn HH ml hkn t1 hs2 al⟩
theorem jD {fl c1 cy kn:Addr}{pm ct:Value}{ml:List (Int×Int)}(Lm:sZ base ao (CZ (ic az)) (C0 (ic az)) (C2 (ic az)) "known" (.ref kn) fl c1 cy pm ct) :
  aS P w K mg base cJ 3 fl (PySem.W.kla_fn "<lambda>" ao (CZ (ic az)) (C0 (ic az)) (C2 (ic az)) [("known",cy)] pm (.ref c1) ct) ["one","other"] (yx (pY c1 ao kn ml) (fun a b=>decide ((a,b)∈ml))):=by
 refine Eb (ps:=["one","other"]) (y:="known") ⟨rfl,rfl,rfl,by decide +kernel,by decide +kernel,by decide +kernel,fun x hx=>?_,rfl⟩ Lm (fun vs H Q E h=>?_) (fun vs H Q E h=>?_) (fun A outer s H vs Q E hr h=>?_)
 ·have hm:=Ja hx
  have hm:(x,NameKind.free)∈[(("one" : Str),NameKind.local),(("other" : Str),NameKind.local),(("known" : Str),NameKind.free)]:=hm;rcases HW.mp hm with z | z
  ·cases z
  ·rcases HW.mp z with z | z
   ·cases z
   ·exact (Prod.mk.inj (HR.mp z)).1
 ·obtain⟨a,b,rfl,_⟩:=h
  rfl
 ·obtain⟨a,b,rfl,⟨_,hc⟩,_⟩:=h
  exact hc
 ·obtain⟨a,b,rfl,⟨S,_⟩,k⟩:=h
  have hu:=cr hr;refine⟨_,nz (iH hu (bS (aq (pv 0) (aq (pv 1) aI))) (pv 2)),?_⟩;refine⟨_,rfl,_,rfl,(show (2:Nat)<=sizeLine by decide),fun kt hkt=>?_⟩;have sk:=ah (o:=.tup [.int a,.int b]) hkt;refine⟨_,rfl,kn,_,rfl,bM.t (k:=[Sum.inl a,Sum.inl b]) (sk _ _ S) ac,?_⟩;rw[yZ ml (a,b)];exact k _ sk
theorem nk (F:dv K "talking_trees" "talking_trees" az f fd){c0 fw:Addr}{fdw:FuncData}(hco:fd.code=.ref c0)(CK:kR K c0 P0)(BK:ui mg base)(hmw:mg "tree_from" = some (.ref fw))(hkw:PySem.W.keepIn K (.ref fw)=true)(hbw:d9 K fdw ["first","guests","linked"] [])(Cboth_ways:ay P w K mg base "both_ways" 1 ["terms"] vz)(cI:aK P w K mg base cJ c.C "guests" 1 ["self"] (jK c.C))(WS:∀ (b:Heap)(fl c1 cy:Addr)(vy:V)(pm ct:Value),Mod K mg b->sZ b ao (CZ (ic az)) (C0 (ic az)) (C2 (ic az)) "known" vy fl c1 cy pm ct->aS P w K mg b cJ 4 fw fdw ["first","guests","linked"] (pP ao fl c1 vy)):aS P w K mg base (iY P w) 5 f fd ["hall","terms"] (mz c P0 av ao):=by
 refine F.okXC bV hco (fun vs H Q E h=>?_) (fun A outer s H vs Q E hr h=>?_)
 ·obtain⟨p,l,A,st,ps,rfl,_⟩:=h
  rfl
 ·obtain⟨p,l,A',st,ps,rfl,S,G,h64,row,hps,hT,k⟩:=h
  have hu:=cr hr
  refine⟨_,af (bB 2 bV.nd (bo Cboth_ways hr.m rfl (eZ (pv 1)))) (
   af (bB 3 bV.nd (eO aI)) (
   af (bB 4 bV.nd (re cI (pv 0) U.cl hr.m eF)) (
   af (jI PassesOwn.leaving (xc (pv 4) (fun _=>rfl)) (af (bB 5 bV.nd (yk (iy:=2) (y:="known") WS hr.m rfl hmw hkw hbw eF (bh ff (pv 4) (am) (fun _ _=>rfl)) (pv 4) rfl CK BK rfl rfl rfl rfl rfl rfl rfl)) (
   af (bd (gm Iq IE IF cm (pv 3) (eZ (pv 5)))) (
   ag (jX (ix:=4) (so:=ai az) (N:=i9) (N':=["guest","tree"]) (src:=[none,some 5]) rfl rfl xH rfl (bq (pv 4)) (fun cl C s2 H2 ex=>⟨j7 0 (show (["guest","tree"]:List Str).Nodup by decide +kernel),gr (eQ (fG hu (pv 0) (pv 1))),pv 0⟩) bV.nd rfl rfl))))) (
   ag (ar (pv 3)))))),?_⟩
  have nG:(bn A').lookup ("guests" : Str)=none:=ko A' (by decide +kernel) (by decide +kernel) (by decide +kernel) (by decide +kernel);refine⟨_,rfl,l,ps,rfl,row,hps,fun kn H1 ml hkn s1 hk1 al=>⟨Ip _,fun q hq=>?_⟩⟩;have s2:=ah (o:=.lst []) hq;have q2:upd H1 q (.lst []) q=some (.lst []):=ac
  have hq0:H q=none:=by
   cases e:H q with
   | none=>rfl
   | some o=>rw[s1 _ _ e]at hq;cases hq
  have hk2:=s2 _ _ hk1;have s12:=s1.trans s2;generalize upd H1 q (.lst [])=H2 at s2 q2 hk2 s12 ⊢;refine⟨_,rfl,p,A'.dx,_,rfl,(S.mono s12).ob,nG,p,A',st,rfl,S.mono s12,h64,fun lg hlg=>?_⟩;have s3:=ah (o:=.lst ((aD (ak st.worn)).map V.int)) hlg;have hlg1:upd H2 lg (.lst ((aD (ak st.worn)).map V.int)) lg=some (.lst ((aD (ak st.worn)).map V.int)):=ac;have q3:=s3 _ _ q2;have hk3:=s3 _ _ hk2;have s13:=s12.trans s3;generalize upd H2 lg (.lst ((aD (ak st.worn)).map V.int))=H3 at s3 hlg1 q3 hk3 s13 ⊢;have nd:(aD (ak st.worn)).Nodup:=(cG _).nodup_iff.mpr G.wn
  have ll:(aD (ak st.worn)).length=st.worn.length:=by rw[dR];unfold ak;rw[Hs]
  have eR:(fun a b:Int=>decide ((a,b)∈ml))=mJ ps:=funext fun a=>funext fun b=>by
   cases e:mJ ps a b with
   | true=>exact HY ((al a b).mpr e)
   | false=>exact Ih fun z=>by rw[(al a b).mp z]at e;cases e
  refine⟨fun m σ HH=>∃ (lf:Addr)(lv:List Int)(as:List Addr)(ts:List (List Nd))(v5:Option V),m=lv.length/\σ=[some (.ref p),some (.ref l),some (.ref kn),some (.ref q),some (.ref lf),v5]/\fC P0 H HH/\cL HH P0 av ao/\HH kn=some (.dT (jU ml))/\HH q=some (.lst (as.map V.ref))/\Paired (fun a t=>HH a=some (.dK (dB t))) as ts/\HH lf=some (.lst (lv.map V.int))/\AF (mJ ps) (gi st) ts lv/\(∀ a∈as,H a=none)/\as.length+lv.length<=64,
   ⟨_,lg,gi st,[],[],none,rfl,rfl,fun b o e n=>s13 b o e,hT.same s13,hk3,q3,.nil,hlg1,GO nd,fun a ha=>(by cases ha),by show 0+_<=64;unfold gi;omega⟩,?_⟩
  rintro m σ HH ⟨lf,lv,as,ts,v5,rfl,rfl,bH,tH,kH,qH,pH,fH,TR,aH,lenH⟩;refine⟨_,rfl,_,.inl ⟨_,aL.of fH,rfl⟩,?_⟩
  cases lv with
  | nil=>exact aR ⟨_,rfl,k q as ts HH hq0 bH tH qH pH TR aH⟩
  | cons f0 r =>
   refine bZ ⟨fun σ HH=>∃ (lf:Addr)(lv:List Int)(as:List Addr)(ts:List (List Nd))(v5:Option V),lv.length<(f0::r).length/\σ=[some (.ref p),some (.ref l),some (.ref kn),some (.ref q),some (.ref lf),v5]/\fC P0 H HH/\cL HH P0 av ao/\HH kn=some (.dT (jU ml))/\HH q=some (.lst (as.map V.ref))/\Paired (fun a t=>HH a=some (.dK (dB t))) as ts/\HH lf=some (.lst (lv.map V.int))/\AF (mJ ps) (gi st) ts lv/\(∀ a∈as,H a=none)/\as.length+lv.length<=64,fun σ' H' ⟨a1,a2,a3,a4,a5,z,zz⟩=>⟨_,z,a1,a2,a3,a4,a5,rfl,zz⟩,?_⟩;refine⟨_,rfl,lf,_,_,_,rfl,rfl,aL.of fH,(show ur ((f0::r).map V.int) 0=some (V.int f0) from jR (j:=0) rfl),_,rfl,tH,_,rfl,fun fl c1 H4 hcf hT4 bt=>?_⟩;have b4:fC P0 H H4:=fun b o e n=>bt b o (bH b o e n) n;have ne:∀ {b:Addr}{o:HO},HH b=some o->(∀ ps,o≠.tbl ps)->H4 b=some o:=fun e n=>fC.get bt tH e n;have kH4:=ne kH (fun _ z=>by cases z);have qH4:=ne qH (fun _ z=>by cases z);have fH4:=ne fH (fun _ z=>by cases z);have pH4:Paired (fun a t=>H4 a=some (.dK (dB t))) as ts:=pH.mono fun a t e=>ne e (fun _ z=>by cases z);refine⟨(kn,ml),rfl,f0,lf,_,rfl,fH4,TR.nd,by omega,⟨kH4,hcf⟩,fun q1 t H5 hq1 s5 htr ⟨left,TI⟩ tl=>?_⟩;rw[eR]at TI;have qH5:=s5 _ _ qH4;have fH5:=s5 _ _ fH4;have kH5:=s5 _ _ kH4;have pH5:Paired (fun a t=>H5 a=some (.dK (dB t))) as ts:=pH4.mono fun a t e=>s5 _ _ e;have hq10:H q1=none:=fC.none b4 hT4 hq1
   have nq:q1≠q:=fun z=>by rw[z,qH4]at hq1;cases hq1
   have nf:q≠lf:=fun z=>by
    rw[z,fH5]at qH5;have:=HO.lst.inj (Hy qH5)
    cases as with
    | nil=>cases this
    | cons a b=>exact V.noConfusion (List.cons.inj this).1
   refine⟨_,rfl,.inl ⟨rfl,_,aL.of qH5⟩,_,rfl,q,_,_,rfl,rfl,qH5,by rw[Hs];exact aG (by omega),?_⟩;have b6:fC P0 H (upd H5 q (.lst (as.map V.ref++[V.ref q1]))):=fC.put (fC.same b4 s5) hq0;have T5:=hT4.same s5;have T6:cL (upd H5 q (.lst (as.map V.ref++[V.ref q1]))) P0 av ao:=cL.put T5 qH5;have q6:upd H5 q (.lst (as.map V.ref++[V.ref q1])) q=some (.lst (as.map V.ref++[V.ref q1])):=ac;have o6:∀ b,b≠q->upd H5 q (.lst (as.map V.ref++[V.ref q1])) b=H5 b:=fun b n=>ae n;generalize upd H5 q (.lst (as.map V.ref++[V.ref q1]))=H6 at b6 T6 q6 o6 ⊢;have fH6:=(o6 lf (Ik nf)).trans fH5;have t6:=(o6 q1 nq).trans htr;have k6:=(o6 kn (fun z=>by rw[z,qH5]at kH5;cases kH5)).trans kH5;have p6:Paired (fun a t=>H6 a=some (.dK (dB t))) as ts:=pH5.mono fun a t e=>(o6 a (fun z=>by rw[z,qH5]at e;cases e)).trans e;have pA:Paired (fun a t=>H6 a=some (.dK (dB t))) (as++[q1]) (ts++[t]):=oM p6 t6;have TR2:=B8 (vJ ps) TR HV TI;refine⟨_,rfl,lf,rfl,⟨_,aL.of fH6⟩,fun l3 hl3=>?_⟩;refine iB (K:=K) (f:=fun x=>!decide (x∈aA t)) hl3 fH6 (by omega) (fun r HK Q' hr0 sK kk=>?_) (fun H7 s7 hf7=>?_)
   ·refine⟨_,rfl,_,rfl,q1,_,rfl,bM.k (k:=Sum.inl r) (sK _ _ t6),_,rfl,?_⟩
    rw[qx TI.kn];exact kk HK (aB.refl _)
   have lt:((f0::r).filter fun x=>!decide (x∈aA t)).length<(f0::r).length:=by
    have h0:(f0::r).filter (fun x=>!decide (x∈aA t))=r.filter (fun x=>!decide (x∈aA t)):=List.filter_cons_of_neg (by rw[HY (show f0∈aA t from IB.mpr ⟨_,Hx TI.hd,rfl⟩)];decide);rw[h0];exact Nat.lt_succ_of_le (IV _ _)
   refine⟨l3,_,as++[q1],ts++[t],_,lt,rfl,fC.same b6 s7,T6.same s7,s7 _ _ k6,?_,pA.mono fun a t e=>s7 _ _ e,hf7,TR2,fun a ha=>?_,?_⟩
   ·rw[Ii];exact s7 _ _ q6
   ·rcases Ie.mp ha with z | z
    ·exact aH a z
    ·rw[HR.mp z];exact hq10
   ·rw[Ia,IC]
    have:=lenH;omega
theorem uV (F:dv K "is_barred" "is_barred" fu f fd)(aN:aK P w K mg base (iY P w) c.C "wears" 3 ["self","guest"] (gz c)) : aS P w K mg base cJ 5 f fd ["hall","tree"] (rD c):=by
 refine F.ok vm (fun vs H Q E h=>?_) (fun cdv A outer s H vs Q E hr h=>?_)
 ·obtain⟨p,tr,A,st,t,rfl,_⟩:=h
  rfl
 ·obtain⟨p,tr,A',st,t,rfl,S,htr,hin,nd,h200,nA,k⟩:=h
  have hu:=cr hr;refine⟨_,ag (ar (aU (tI rfl) (by rfl) T.any PyProof.Rows.boot_any (eZ (De (gn (so:=ai fu) (N:=oH) (N':=["guest","tree","hall"]) (src:=[none,some 1,some 0]) rfl rfl xH rfl (pE (pv 1)) (fun cl C s2 H2 ex=>⟨j7 0 (show (["guest","tree","hall"]:List Str).Nodup by decide +kernel),fj,nz (fG hu (dG aN (pv 2) U.cl hr.m qZ (eZ (pv 0))) (pv 1))⟩)))))),?_⟩;have nW:(bn A').lookup ("wears" : Str)=none:=ko A' (by decide +kernel) (by decide +kernel) (by decide +kernel) (by decide +kernel);refine⟨_,rfl,tr,_,rfl,htr,fun o lc hlc=>?_⟩
  have kF:∀ b u,H b=some u->b≠tr->(upd H tr (.frz o (.dK (dB t)))) b=some u:=fun b u e n=>by rw[ae n];exact e
  have hF:(upd H tr (.frz o (.dK (dB t)))) tr=some (.frz o (.dK (dB t))):=ac;have S2:aE c.C (upd H tr (.frz o (.dK (dB t)))) p A' st:=S.kept (fp:=[tr]) (fun b u e n=>kF b u e (fun z=>n (by rw[z];exact HV))) (fun z=>by have ob:=S.ob;rw[HR.mp z,htr]at ob;cases ob) (fun b hb z=>nA (by rw[<-HR.mp z];exact hb)) (fun b xs e z=>by rw[HR.mp z,htr]at e;cases e);have un:∀ b,b≠tr->(upd H tr (.frz o (.dK (dB t)))) b=H b:=fun b n=>ae n;generalize upd H tr (.frz o (.dK (dB t)))=H2 at kF hF S2 un hlc ⊢
  have nlc:lc≠tr:=fun z=>by rw[z,hF]at hlc;cases hlc
  have lk9:(dB t).length=t.length:=by unfold dB;rw[Hs]
  refine lA (d:=tr) (o:=o) (kvs:=dB t) (fun i σ HH=>∃ v:Option V,σ=[v,some (.ref tr),some (.ref p)]/\aB H2 HH/\HH lc=some (.lst (((t.take i).map fun e=>!decide (wr st.worn e.1∈aA t)).map V.bl)))
   ⟨none,rfl,ah hlc,ac⟩ (fun i σ HH _ ⟨_,_,s,_⟩=>s _ _ hF) ?_ ?_
  ·rintro i y σ HH hi ⟨v,rfl,sH,hc⟩
   obtain⟨e,he,rfl⟩:=aY hi;have il:=(List.getElem?_eq_some_iff.mp he).1;obtain⟨h1,h2⟩:=hin e.1 (IG (f:=(·.1)) (Hx he));refine jZ ⟨_,rfl,p,A'.dx,_,rfl,(S2.mono sH).ob,nW,_,rfl,p,A',st,e.1,rfl,S2.mono sH,h2,?_⟩;obtain⟨m,hm⟩:=IJ.mp h1
   have wm:wr st.worn e.1=m:=by unfold wr;rw[hm];rfl
   rw[hm];have dg:bM HH tr (.int m) (cH (dB t) (Sum.inl m)):=.inl ⟨dB t,Sum.inl m,.inr ⟨o,sH _ _ hF⟩,rfl,rfl⟩;refine⟨_,rfl,tr,_,rfl,dg,?_⟩;rw[qx nd];refine⟨_,hc,by rw[Hs,Hs,Io];exact aG (by omega),_,rfl,aZ sH hlc,?_⟩;rw[ac,Iv,he,ID,Ii,Ii,wm.symm];rfl
  ·rintro σ HH ⟨v,rfl,sH,hc⟩
   rw[lk9,Ir]at hc;refine⟨tr,o,_,sH _ _ hF,fun o' u' z=>(by have z:H tr=some (.frz o' u'):=z;rw[htr]at z;cases z),?_⟩;refine⟨lc,_,rfl,aL.of ((ae nlc).trans hc),?_⟩
   have eb:(t.map fun e=>!decide (wr st.worn e.1∈aA t)).any id=iq st t:=by unfold iq;rw[J8];rfl
   rw[eb];refine k _ fun b u e=>?_
   by_cases z:b=tr
   ·rw[z,ac,<-htr,<-z];exact e
   ·rw[ae z];exact sH _ _ (kF b u e z)
theorem wZ (F:dv K "tree_row" "tree_row" gA f fd)(aN:aK P w K mg base (iY P w) c.C "wears" 3 ["self","guest"] (gz c))(Cring_from:ay P w K mg base "ring_from" 2 ["worn","first"] pN)(Cway_between:ay P w K mg base "way_between" 2 ["tree","one","other"] vD) : aS P w K mg base cJ 5 f fd ["hall","tree"] (vF c):=by
 refine F.ok cu (fun vs H Q E h=>?_) (fun cdv A outer s H vs Q E hr h=>?_)
 ·obtain⟨p,tr,A',st,R,f0,gs,t,left,rfl,_⟩:=h
  rfl
 ·obtain⟨p,tr,A',st,R,f0,gs,t,left,rfl,S,G,htr,nA,TI,sy,h64,hin,hcl,k⟩:=h
  have hu:=cr hr
  refine⟨_,af (vg (BP (ix:=2) (so:=ai gA) (N:=qG) (N':=["guest","hall"]) (src:=[none,some 0]) rfl rfl xH rfl (pE (pv 1)) (fun cl C s2 H2 ex=>⟨j7 0 (show (["guest","hall"]:List Str).Nodup by decide +kernel),fj,pv 0,dG aN (pv 1) U.cl hr.m qZ (eZ (pv 0))⟩) cu.nd rfl rfl)) (
   af (bB 3 cu.nd (eO aI)) (
   af (cY II rfl (Ep (dS (xD rfl) (by rfl) T.list Jr (eZ (pv 1))) (by rfl) T.reversed) (j7 4 cu.nd) (af (bB 5 cu.nd (bh ff (bo Cring_from hr.m rfl (fF (pv 2) (pv 4))) (oN jO (am)) (fun _ _=>rfl))) (
   af (bB 6 cu.nd (bo Cway_between hr.m rfl (C9 (pv 1) (pv 5) (pv 4)))) (
   ag (cY II rfl (Es (by rfl) T.zip (fF (pv 6) (jG pG (pv 6) (jW (am)) pF))) (vd rfl (dF (j7 7 cu.nd) (dF (j7 8 cu.nd) pC))) (af (bB 9 cu.nd (cF hu (pv 2) (pv 7) (fun _ _=>rfl))) (
   af (cR hu (pv 2) (pv 7) (cF hu (pv 2) (pv 8) (fun _ _=>rfl)) rfl) (
   af (cR hu (pv 2) (pv 8) (pv 9) rfl) (
   ag (bd (gm Iq IE IF cm (pv 3) (eZ (bS (fF (pv 7) (pv 8))))))))))))))) (
   ag (ar (pv 3))))),?_⟩
  have nd:=TI.kn;have nW:(bn A').lookup ("wears" : Str)=none:=ko A' (by decide +kernel) (by decide +kernel) (by decide +kernel) (by decide +kernel);refine⟨_,rfl,tr,_,rfl,htr,fun o lc hlc=>?_⟩
  have kF:∀ b u,H b=some u->b≠tr->(upd H tr (.frz o (.dK (dB t)))) b=some u:=fun b u e n=>by rw[ae n];exact e
  have hF:(upd H tr (.frz o (.dK (dB t)))) tr=some (.frz o (.dK (dB t))):=ac;have S2:aE c.C (upd H tr (.frz o (.dK (dB t)))) p A' st:=S.kept (fp:=[tr]) (fun b u e n=>kF b u e (fun z=>n (by rw[z];exact HV))) (fun z=>by have ob:=S.ob;rw[HR.mp z,htr]at ob;cases ob) (fun b hb z=>nA (by rw[<-HR.mp z];exact hb)) (fun b xs e z=>by rw[HR.mp z,htr]at e;cases e);have un:∀ b,b≠tr->(upd H tr (.frz o (.dK (dB t)))) b=H b:=fun b n=>ae n;generalize upd H tr (.frz o (.dK (dB t)))=H2 at kF hF S2 un hlc ⊢
  have nlc:lc≠tr:=fun z=>by rw[z,hF]at hlc;cases hlc
  have lc0:H lc=none:=(un lc nlc).symm.trans hlc
  have lk9:(dB t).length=t.length:=by unfold dB;rw[Hs]
  refine lA (d:=tr) (o:=o) (kvs:=dB t) (fun i σ HH=>∃ v:Option V,σ=[v,some (.ref p)]/\aB H2 HH/\HH lc=some (.dK (dk (eG st (t.take i)))))
   ⟨none,rfl,ah hlc,ac⟩ (fun i σ HH _ ⟨_,_,s,_⟩=>s _ _ hF) ?_ ?_
  ·rintro i y σ HH hi ⟨v,rfl,sH,hc⟩
   obtain⟨e,he,rfl⟩:=aY hi;have il:=(List.getElem?_eq_some_iff.mp he).1;obtain⟨h1,h2⟩:=hin e.1 (IG (f:=(·.1)) (Hx he));refine Dw ⟨_,rfl,_,rfl,p,A'.dx,_,rfl,(S2.mono sH).ob,nW,_,rfl,p,A',st,e.1,rfl,S2.mono sH,h2,?_⟩;obtain⟨m,hm⟩:=IJ.mp h1
   have wm:wr st.worn e.1=m:=by unfold wr;rw[hm];rfl
   rw[hm];refine⟨_,Sum.inl e.1,hc,rfl,by unfold dk eG;rw[Hs,Hs,Io];exact aG (by omega),_,rfl,aZ sH hlc,?_⟩;rw[ac,dH,<-wm,AE nd he]
  rintro σ HH ⟨v,rfl,sH,hc⟩;rw[lk9,Ir]at hc;refine⟨tr,o,_,sH _ _ hF,fun o' u' z=>(by have z:H tr=some (.frz o' u'):=z;rw[htr]at z;cases z),?_⟩
  have s3:aB H (upd HH tr (.dK (dB t))):=fun b u e=>by
   by_cases z:b=tr
   ·rw[z,ac,<-htr,<-z];exact e
   ·rw[ae z];exact sH _ _ (kF b u e z)
  have c3:upd HH tr (.dK (dB t)) lc=some (.dK (dk (eG st t))):=(ae nlc).trans hc;generalize upd HH tr (.dK (dB t))=H3 at s3 c3 ⊢;refine⟨Ip _,fun q hq=>?_⟩
  have nq3:q≠lc:=fun z=>by rw[z,c3]at hq;cases hq
  have q0:H q=none:=by
   cases e:H q with
   | none=>rfl
   | some o=>rw[s3 _ _ e]at hq;cases hq
  have s4:=s3.trans (ah (o:=.lst []) hq);have c4:=(ah (o:=.lst []) hq) _ _ c3;have q4:upd H3 q (.lst []) q=some (.lst []):=ac;generalize upd H3 q (.lst [])=H4 at s4 c4 q4 ⊢;refine⟨_,rfl,tr,_,aA t,rfl,s4 _ _ htr,by unfold dB aA;rw[IA,IA];rfl,fun l hl=>?_⟩
  have nlq:l≠q:=fun z=>by rw[z,q4]at hl;cases hl
  have l0:H l=none:=by
   cases e:H l with
   | none=>rfl
   | some o=>rw[s4 _ _ e]at hl;cases hl
  have sl:=ah (o:=.lst ((aA t).map V.int)) hl;have s5:=s4.trans sl;have c5:=sl _ _ c4;have q5:=sl _ _ q4;have l5:upd H4 l (.lst ((aA t).map V.int)) l=some (.lst ((aA t).map V.int)):=ac;generalize upd H4 l (.lst ((aA t).map V.int))=H5 at s5 c5 q5 l5 ⊢;have P0:=AD (xb G) nd hcl;have kW:=d6 st t
  have lW:(eG st t).length=t.length:=by unfold eG;rw[Hs]
  have lK:((aA t).map V.int).length=t.length:=by unfold aA;rw[Hs,Hs]
  generalize hW0:eG st t=W0 at P0 kW lW c5
  refine⟨l,_,rfl,aL.of l5,CL (K:=K) (a:=l) (xs:=(aA t).map V.int) (fun i σ HH=>∃ (v4 v5 v6 v7 v8 v9:Option V)(ps:List (Int×Int)),σ=[some (.ref p),some (.ref tr),some (.ref lc),some (.ref q),v4,v5,v6,v7,v8,v9]/\aB H HH/\HH l=some (.lst ((aA t).map V.int))/\HH lc=some (.dK (dk (aX W0 ps)))/\bJ HH q ps/\E5 R t (wr W0) (t.length-i) ps)
   ⟨none,none,none,none,none,none,[],rfl,s5,l5,c5,⟨[],q5,.nil⟩,GN⟩ (fun i σ HH _ ⟨_,_,_,_,_,_,_,_,_,e,_⟩=>aL.of e) ?_ ?_⟩
  ·rintro i y σ HH hi ⟨v4,v5,v6,v7,v8,v9,ps,rfl,sH,hl6,hc6,row6,T6⟩
   have il:i<t.length:=by
    have:=(List.getElem?_eq_some_iff.mp hi).1;rw[JF,lK]at this;exact this
   rw[List.getElem?_reverse (by rw[lK];exact il),lK]at hi;obtain⟨e1,he1,rfl⟩:=aY hi;obtain⟨e,he,rfl⟩:=aY he1;generalize hk:t.length-1-i=kk at he;rw[show t.length-i=kk+1 by omega]at T6
   have inK:∀ pr∈ps,pr.1∈ak W0/\pr.2∈ak W0:=fun pr hpr=>by rw[kW];exact⟨(T6.pr pr hpr).1,(T6.pr pr hpr).2.1⟩
   have PW:=Ak P0 inK;have lPW:=jV P0.nd inK;have ek:e.1∈aA t:=IG (f:=(·.1)) (Hx he);have eK:e.1∈ak (aX W0 ps):=(dz inK).mpr (by rw[kW];exact ek);obtain⟨x,at1,hwx,hxk⟩:=xg PW eK;rw[jQ]at hwx
   have hxk:x∈aA t:=by rw[<-kW];exact (dz inK).mp hxk
   obtain⟨xn,hxn,rfl⟩:=IB.mp hxk;obtain⟨ix,hix⟩:=List.getElem?_of_mem hxn
   have ixk:ix<=kk:=Nat.le_of_not_lt fun z=>by
    have hh:=T6.home ix xn z hix;rw[hwx]at hh
    have e1:(aA t)[ix]? = some xn.1:=by unfold aA;rw[List.getElem?_map,hix];rfl
    have e2:(aA t)[kk]? = some xn.1:=by unfold aA;rw[List.getElem?_map,he,<-hh];rfl
    have:=(List.getElem?_inj (List.getElem?_eq_some_iff.mp e1).1 nd).mp (e1.trans e2.symm);omega
   refine⟨_,rfl,_,rfl,lc,_,e.1,rfl,hc6,by omega,PW,eK,fun l1 H7 hl1 s7 h7=>?_⟩;refine⟨_,rfl,l1,_,_,_,rfl,rfl,aL.of h7,at1,?_⟩;refine⟨_,rfl,_,rfl,_,rfl,tr,R,f0,gs,t,left,ix,kk,xn,e,rfl,s7 _ _ (sH _ _ htr),TI,sy,by omega,hix,he,fun lw m H8 hlw s8 hw8 M=>?_⟩;have M:=M kk ixk (Hv _);have T9:=B7 nd T6 he hwx M;have s78:=s7.trans s8;have m64:=jB nd M.nd M.ix;have kl:=(List.getElem?_eq_some_iff.mp he).1;refine⟨_,rfl,_,rfl,_,rfl,uR ⟨lw,_,rfl,aL.of hw8,fun l2 hl2=>?_⟩⟩;rw[E8];have s9:=ah (o:=.lst ((m.map V.int).drop 1)) hl2;have w9:=s9 _ _ hw8;have x9:upd H8 l2 (.lst ((m.map V.int).drop 1)) l2=some (.lst ((m.map V.int).drop 1)):=ac;have s89:=s78.trans s9;generalize upd H8 l2 (.lst ((m.map V.int).drop 1))=H9 at s9 w9 x9 s89 ⊢;have sH9:=sH.trans s89;have hl9:=s89 _ _ hl6;have hc9:=s89 _ _ hc6;have row9:=row6.mono s89
   have nwq:lw≠q:=fun z=>by obtain⟨as,r1,_⟩:=id row6;rw[z,s7 _ _ r1]at hlw;cases hlw
   have n2q:l2≠q:=fun z=>by obtain⟨as,r1,_⟩:=id row6;rw[z,s8 _ _ (s7 _ _ r1)]at hl2;cases hl2
   have len9:=T9.len;have tt:t.length*t.length<=63*63:=Nat.mul_le_mul (by omega) (by omega)
   have lps:(ps++bA m).length<=3969:=by omega
   refine⟨lw,l2,rfl,⟨_,aL.of w9⟩,⟨_,aL.of x9⟩,CN (K:=K) (a:=lw) (b:=l2) (xs:=m.map V.int) (ys:=(m.map V.int).drop 1) (fun j σ HH=>∃ (v7 v8 v9:Option V),σ=[some (.ref p),some (.ref tr),some (.ref lc),some (.ref q),some (.int e.1),some (.int xn.1),some (.ref lw),v7,v8,v9]/\aB H HH/\HH l=some (.lst ((aA t).map V.int))/\HH lw=some (.lst (m.map V.int))/\HH l2=some (.lst ((m.map V.int).drop 1))/\HH lc=some (.dK (dk (aX W0 (ps++(bA m).take j))))/\bJ HH q (ps++(bA m).take j))
    (by rw[JT];omega) ⟨_,_,_,rfl,sH9,hl9,w9,x9,by rw[List.take_zero,Jw];exact hc9,by rw[List.take_zero,Jw];exact row9⟩ (fun j σ HH _ ⟨_,_,_,_,_,_,a1,a2,_⟩=>⟨aL.of a1,aL.of a2⟩) ?_ ?_⟩
   ·rintro j y1 y2 σ HA T h1 h2 ⟨u7,u8,u9,rfl,sA,hlA,hwA,h2A,hcA,rowA⟩ hT
    obtain⟨a,ha,rfl⟩:=aY h1;rw[List.getElem?_drop]at h2;obtain⟨b,hb,rfl⟩:=aY h2
    have hpj:(bA m)[j]? = some (a,b):=by
     unfold bA;rw[List.getElem?_zip_eq_some];exact⟨ha,by rw[List.getElem?_drop];exact hb⟩
    have hpm:=Hx hpj;obtain⟨ia,ib,nab,_⟩:=T9.pr (a,b) (Ig _ hpm);have ia:a∈aA t:=ia;have ib:b∈aA t:=ib
    have inJ:∀ pr∈ps++(bA m).take j,pr.1∈ak W0/\pr.2∈ak W0:=fun pr hpr=>by
     have:pr∈ps++bA m:=by
      rcases Ie.mp hpr with z | z
      ·exact Jv _ z
      ·exact Ig _ (List.mem_of_mem_take z)
     rw[kW];exact⟨(T9.pr pr this).1,(T9.pr pr this).2.1⟩
    have lJ:=jV P0.nd inJ;have ja:a∈ak (aX W0 (ps++(bA m).take j)):=(dz inJ).mpr (by rw[kW];exact ia);have jb:b∈ak (aX W0 (ps++(bA m).take j)):=(dz inJ).mpr (by rw[kW];exact ib)
    have eP:aX W0 (ps++(bA m).take (j+1))=gB (aX W0 (ps++(bA m).take j)) (a,b):=by
     unfold aX;rw[Iv,hpj,ID,<-JD,JC];rfl
    have eps:ps++(bA m).take (j+1)=(ps++(bA m).take j)++[(a,b)]:=by rw[Iv,hpj,ID,JD]
    rw[eP,eps]
    have lpj:(ps++(bA m).take j).length<=3969:=by rw[Ia,Io]at *;omega
    generalize ps++(bA m).take j=pj at hcA rowA lJ ja jb lpj ⊢;generalize aX W0 pj=WJ at hcA lJ ja jb ⊢;have sT:=ah (o:=.tup [V.int a,V.int b]) hT;have tT:upd HA T (.tup [V.int a,V.int b]) T=some (.tup [V.int a,V.int b]):=ac;have sAT:=sA.trans sT;have hcT:=sT _ _ hcA;have hlT:=sT _ _ hlA;have hwT:=sT _ _ hwA;have h2T:=sT _ _ h2A;have rowT:=rowA.mono sT;generalize upd HA T (.tup [V.int a,V.int b])=HB at sT tT sAT hcT hlT hwT h2T rowT ⊢
    have gD:∀ {HX:Hp}{W:List (Int×Int)}(g:Int),HX lc=some (.dK (dk W))->g∈ak W->bM HX lc (.int g) (some (.int (wr W g))):=fun {HX W} g e hg=>by have:=bM.k (k:=Sum.inl g) e;rw[bT,iE hg]at this;exact this
    have sz:∀ W:List (Int×Int),W.length<=900->(dk W).length<sizeLine:=fun W z=>by unfold dk;rw[Hs];exact aG (by omega)
    refine⟨T,_,rfl,dC.of tT,rfl,_,_,rfl,_,_,rfl,rfl,?_⟩;refine⟨_,rfl,_,rfl,lc,_,rfl,gD a hcT ja,?_⟩;refine⟨_,rfl,_,rfl,lc,_,rfl,gD b hcT jb,_,rfl,_,rfl,lc,_,rfl,gF.k (k:=Sum.inl a) hcT (sz _ (by omega)),?_⟩;rw[dH];have lp1:=iD WJ a (wr WJ b);refine⟨_,rfl,_,rfl,_,rfl,lc,_,rfl,gF.k (k:=Sum.inl b) ac (sz _ (by omega)),?_⟩;rw[dH,iW];obtain⟨as,hq1,hp1⟩:=id rowT;have nqc:q≠lc:=nq3;have q2:upd HB lc (.dK (dk (put (put WJ a (wr WJ b)) b (wr WJ a)))) q=some (.lst (as.map V.ref)):=(ae nqc).trans hq1;have oth:∀ x u,HB x=some u->x≠lc->upd HB lc (.dK (dk (put (put WJ a (wr WJ b)) b (wr WJ a)))) x=some u:=fun x u e n=>(ae n).trans e;have c2:upd HB lc (.dK (dk (put (put WJ a (wr WJ b)) b (wr WJ a)))) lc=some (.dK (dk (put (put WJ a (wr WJ b)) b (wr WJ a)))):=ac;have sC:aB H (upd HB lc (.dK (dk (put (put WJ a (wr WJ b)) b (wr WJ a))))):=aZ sAT lc0;generalize upd HB lc (.dK (dk (put (put WJ a (wr WJ b)) b (wr WJ a))))=HC at q2 oth c2 sC ⊢;refine⟨_,rfl,.inl ⟨rfl,_,aL.of q2⟩,_,rfl,_,rfl,(show (2:Nat)<=sizeLine by decide),fun kt hkt=>?_⟩;have sk:=ah (o:=.tup [V.int a,V.int b]) hkt;have tk:upd HC kt (.tup [V.int a,V.int b]) kt=some (.tup [V.int a,V.int b]):=ac;have qk:=sk _ _ q2;have ck:=sk _ _ c2;have sCk:=sC.trans sk;have othk:∀ x u,HB x=some u->x≠lc->upd HC kt (.tup [V.int a,V.int b]) x=some u:=fun x u e n=>sk _ _ (oth x u e n);generalize upd HC kt (.tup [V.int a,V.int b])=HD at sk tk qk ck sCk othk ⊢;have las:=Ic hp1;refine⟨q,_,_,rfl,rfl,qk,by rw[Hs];exact Js (show _<=4000 by omega) (by decide),?_⟩
    have nec:∀ {x:Addr}{xs:List V},HB x=some (.lst xs)->x≠lc:=fun {x xs} e z=>by rw[z,hcT]at e;cases e
    refine⟨_,_,_,rfl,aZ sCk q0,(ae nlq).trans (othk _ _ hlT (nec hlT)),(ae nwq).trans (othk _ _ hwT (nec hwT)),(ae n2q).trans (othk _ _ h2T (nec h2T)),(ae (Ik nqc)).trans ck,as++[kt],?_,?_⟩
    ·rw[ac,Ii];rfl
    ·refine oM (Paired.mapP hp1 fun x pr e=>?_) ?_
     ·have n1:x≠lc:=fun z=>by rw[z,hcT]at e;cases e
      have n2:x≠q:=fun z=>by rw[z,hq1]at e;cases e
      exact (ae n2).trans (othk _ _ e n1)
     ·have n2:kt≠q:=fun z=>by rw[z,qk]at tk;cases tk
      exact (ae n2).trans tk
   ·rintro σ HA ⟨u7,u8,u9,rfl,sA,hlA,hwA,h2A,hcA,rowA⟩
    have lp:((m.map V.int).drop 1).length=(bA m).length:=by rw[JT,Hs,qy]
    rw[lp,Ir]at hcA rowA;refine⟨_,_,_,_,_,_,_,rfl,sA,hlA,hcA,rowA,?_⟩;rw[show t.length-(i+1)=kk by omega];exact T9
  ·rintro σ HH ⟨v4,v5,v6,v7,v8,v9,ps,rfl,sH,hl6,hc6,row6,T6⟩
   rw[lK,Nat.sub_self]at T6;refine⟨_,rfl,k q HH ps q0 sH row6 ?_⟩;refine (Dx T6).on fun y hy=>?_;rw[<-hW0];exact ie nd hy
theorem qV (F:dv K "morning_row" "morning_row" f8 f fd)(Ctalking_trees:XCallee P w K mg base "talking_trees" 5 ["hall","terms"] (mz c P0 av ao))(Cis_barred:ay P w K mg base "is_barred" 5 ["hall","tree"] (rD c))(Ctree_row:ay P w K mg base "tree_row" 5 ["hall","tree"] (vF c)) : aS P w K mg base (iY P w) 6 f fd ["hall","terms"] (vE c co P0 av ao):=by
 refine F.okX fT (fun vs H Q E h=>?_) (fun cdv A outer s H vs Q E hr h=>?_)
 ·obtain⟨p,l,A',st,ps,rfl,_⟩:=h
  rfl
 ·obtain⟨p,l,A',st,ps,rfl,S,G,h64,row,hps,hT,sm,k⟩:=h
  have hu:=cr hr
  refine⟨_,af (bB 2 fT.nd (eO aI)) (
   af (cY PassesOwn.leaving rfl (bq (rh Ctalking_trees hr.m rfl fi (fF (pv 0) (pv 1)))) (j7 3 fT.nd) (af (bp (dU (bo Cis_barred hr.m rfl (fF (pv 0) (pv 3)))) (ag (jH UO.e fL rfl hr.hd rfl UO.m (bu))) (aJ)) (
   ag (bd (gm Iq PySem.F.slot_list_extend PySem.F.type_list_extend tW (pv 2) (eZ (bo Ctree_row hr.m rfl (fF (pv 0) (pv 3))))))))) (
   ag (ar (pv 2)))),?_⟩
  refine⟨Ip _,fun q hq=>?_⟩;have s1:=ah (o:=.lst []) hq;have q1:upd H q (.lst []) q=some (.lst []):=ac;generalize upd H q (.lst [])=H1 at s1 q1 ⊢;have hT1:=hT.same s1;refine⟨_,rfl,_,rfl,p,l,A',st,ps,rfl,S.mono s1,G,h64,row.mono s1,hps,hT1,fun lt as ts H2 hlt b2 hT2 h2 p2 TR a2=>?_⟩;obtain⟨k1,k2⟩:=k ts TR;have B2:fC P0 H H2:=fun b o e n=>b2 b o (s1 b o e) n
  have hn1:∀ {b:Addr},H1 b=none->H b=none:=fun {b} h=>by
   cases e:H b with
   | none=>rfl
   | some o=>rw[s1 _ _ e]at h;cases h
  have q2:=fC.get b2 hT1 q1 (by intro ps z;cases z);have S2:aE c.C H2 p A' st:=fC.hall (S.mono s1) hT1 b2;have pl:=Ic p2
  have nlq:lt≠q:=fun z=>by rw[z,q1]at hlt;cases hlt
  have inG:∀ t∈ts,∀ x∈aA t,x∈ak st.worn:=fun t ht x hx=>by
   have:=(TR.dj t ht x hx).2;unfold gi at this;exact (cG _).mem_iff.mp this
  have knT:∀ t∈ts,(aA t).Nodup:=fun t ht=>by
   obtain⟨f9,lf9,r9,T9⟩:=TR.tr t ht;exact T9.kn
  have lg:(gi st).length=st.worn.length:=by unfold gi;rw[dR];unfold ak;rw[Hs]
  have tl:∀ t∈ts,t.length<=st.worn.length:=fun t ht=>by
   have:=bO (knT t ht) (inG t ht);unfold aA ak at this;rw[Hs,Hs]at this;exact this
  refine⟨lt,rfl,⟨_,aL.of h2⟩,bj (K:=K) (a:=lt) (xs:=as.map V.ref) (fun i σ HH=>∃ (v3:Option V)(rs:List (Int×Int)),σ=[some (.ref p),some (.ref l),some (.ref q),v3]/\(∀ b o,H2 b=some o->b≠q->HH b=some o)/\cL HH P0 av ao/\bJ HH q rs/\AI (mJ ps) (gi st) (wr st.worn) (ts.take i) rs/\∀ t∈ts.take i,iq st t=false)
   ⟨none,[],rfl,fun b o e _=>e,hT2,⟨[],q2,.nil⟩,Fi,fun t ht=>(by cases ht)⟩ (fun i σ HH _ ⟨_,_,_,s,_⟩=>aL.of (s _ _ h2 nlq)) ?_ ?_⟩
  ·rintro i y σ HH hi ⟨v3,rs,rfl,sH,hTF,rowH,MR,nb⟩
   obtain⟨tr,htr0,rfl⟩:=aY hi;obtain⟨t,ht0,htr⟩:=bg p2 htr0;have il:=(List.getElem?_eq_some_iff.mp ht0).1;have ht:=Hx ht0;obtain⟨f9,lf9,r9,T9⟩:=TR.tr t ht;have SH:aE c.C HH p A' st:=S2.kept (fp:=[q]) (fun b o e n=>sH b o e (fun z=>n (by rw[z];exact HV))) (fun z=>by have ob:=S.ob;rw[HR.mp z,hq]at ob;cases ob) (fun b hb z=>xN S hq (by rw[<-HR.mp z];exact hb)) (fun b xs e z=>by rw[HR.mp z,q2]at e;cases e);have htrH:HH tr=some (.dK (dB t)):=sH _ _ htr (fun z=>by rw[z,q2]at htr;cases htr);have trF:tr∉A'.fp:=xN (S.mono s1) (a2 tr (Hx htr0));have hin:∀ x∈aA t,(look st.worn x).isSome=true/\cp x:=fun x hx=>⟨bL.mpr (inG t ht x hx),sm x (inG t ht x hx)⟩;have t64:=tl t ht;have bF:fC P0 H HH:=fun b o e n=>sH b o (B2 b o e n) (fun z=>by rw[z,hq]at e;cases e);refine⟨_,rfl,_,rfl,p,tr,A',st,t,rfl,SH,htrH,hin,knT t ht,by omega,trF,fun H3 s3=>⟨_,rfl,?_⟩⟩
   cases hb:iq st t with
   | true=>exact bZ (k2 ⟨t,ht,hb⟩ H3 (fC.same bF s3) (hTF.same s3))
   | false =>
    refine aR ?_;obtain⟨ds,r1,r2⟩:=id rowH;refine⟨_,rfl,.inl ⟨rfl,_,aL.of (s3 _ _ r1)⟩,_,rfl,_,rfl,p,tr,A',st,mJ ps,f9,lf9,t,r9,rfl,SH.mono s3,G,s3 _ _ htrH,trF,T9,vJ ps,by omega,hin,AK hb,fun l1 H4 qs hl1 s4 row4 TT=>?_⟩;have s34:=s3.trans s4;obtain⟨cs,u1,u2⟩:=id row4
    have ap:∀ u∈ts.take i,∀ x∈aA u,x∉aA t:=fun u hu x hx hx2=>by
     obtain⟨j,hj⟩:=List.getElem?_of_mem hu;have jl:=(List.getElem?_eq_some_iff.mp hj).1;rw[Io]at jl;rw[List.getElem?_take_of_lt (by omega)]at hj;obtain⟨j1,j2⟩:=List.getElem?_eq_some_iff.mp hj;obtain⟨i1,i2⟩:=List.getElem?_eq_some_iff.mp ht0;have:=JQ.mp TR.ap j i j1 i1 (by omega);rw[j2,i2]at this;exact this x hx hx2
    have gsT:∀ x∈aA t,x∈gi st:=fun x hx=>(TR.dj t ht x hx).2;have M2:=z7 MR gsT ap TT
    have eT:ts.take (i+1)=ts.take i++[t]:=by rw[Iv,ht0];rfl
    rw[<-eT]at M2;have sub:∀ u∈ts.take (i+1),u∈ts:=fun u hu=>List.mem_of_mem_take hu;have sum:=Ay (gs:=gi st) (ts:=ts.take (i+1)) (fun u hu=>knT u (sub u hu)) (TR.ap.sublist (JL _ _)) (fun u hu x hx=>(TR.dj u (sub u hu) x hx).2);have len:=M2.len;have sq:((ts.take (i+1)).map List.length).sum*((ts.take (i+1)).map List.length).sum<=63*63:=Nat.mul_le_mul (by omega) (by omega)
    have lr:(rs++qs).length<=3969:=by omega
    rw[Ia]at lr;have q4:=s34 _ _ r1;have dl:=Ic r2;have cl:=Ic u2;refine⟨q,l1,_,_,rfl,rfl,q4,u1,by rw[Hs,Hs];exact Ix (show _<=4000 by omega) (by decide),?_⟩;refine⟨_,rs++qs,rfl,fun b o e n=>?_,cL.put (hTF.same s34) q4,Dl q4 (Paired.mapP r2 fun b e y=>s34 _ _ y) u2,M2,fun u hu=>?_⟩
    ·rw[ae n];exact s34 _ _ (sH b o e n)
    ·rw[eT]at hu
     rcases Ie.mp hu with z | z
     ·exact nb u z
     ·rw[HR.mp z];exact hb
  ·rintro σ HH ⟨v3,rs,rfl,sH,hTF,rowH,MR,nb⟩
   rw[Hs,pl,Ir]at MR nb;have bF:fC P0 H HH:=fun b o e n=>sH b o (B2 b o e n) (fun z=>by rw[z,hq]at e;cases e);exact⟨_,rfl,k1 nb q rs HH hq bF hTF rowH MR⟩
theorem o9 (F:dv K "barred_group" "barred_group" eV f fd)(Ctalking_trees:XCallee P w K mg base "talking_trees" 5 ["hall","terms"] (mz c P0 av ao))(Cis_barred:ay P w K mg base "is_barred" 5 ["hall","tree"] (rD c)) : aS P w K mg base (iY P w) 6 f fd ["hall","terms"] (vw c P0 av ao):=by
 refine F.okX jd (fun vs H Q E h=>?_) (fun cdv A outer s H vs Q E hr h=>?_)
 ·obtain⟨p,l,A',st,ps,rfl,_⟩:=h
  rfl
 ·obtain⟨p,l,A',st,ps,rfl,S,G,h64,row,hps,hT,sm,k⟩:=h
  have hu:=cr hr
  refine⟨_,af (cY PassesOwn.leaving rfl (bq (rh Ctalking_trees hr.m rfl fi (fF (pv 0) (pv 1)))) (j7 2 jd.nd) (ag (bp (dU (bo Cis_barred hr.m rfl (fF (pv 0) (pv 2)))) (ag (ar (aU (c7 rfl) (by rfl) T.sorted IQ (eZ (pv 2))))) (aJ)))) (
   ag (ar (kJ))),?_⟩
  refine⟨_,rfl,_,rfl,p,l,A',st,ps,rfl,S,G,h64,row,hps,hT,fun lt as ts H2 hlt b2 hT2 h2 p2 TR a2=>?_⟩;obtain⟨k1,k2⟩:=k ts TR;have S2:aE c.C H2 p A' st:=fC.hall S hT b2;have pl:=Ic p2
  have inG:∀ t∈ts,∀ x∈aA t,x∈ak st.worn:=fun t ht x hx=>by
   have:=(TR.dj t ht x hx).2;unfold gi at this;exact (cG _).mem_iff.mp this
  have knT:∀ t∈ts,(aA t).Nodup:=fun t ht=>by
   obtain⟨f9,lf9,r9,T9⟩:=TR.tr t ht;exact T9.kn
  have tl:∀ t∈ts,t.length<=st.worn.length:=fun t ht=>by
   have:=bO (knT t ht) (inG t ht);unfold aA ak at this;rw[Hs,Hs]at this;exact this
  refine⟨lt,rfl,⟨_,aL.of h2⟩,bj (K:=K) (a:=lt) (xs:=as.map V.ref) (fun i σ HH=>∃ (v3:Option V),σ=[some (.ref p),some (.ref l),v3]/\aB H2 HH/\∀ t∈ts.take i,iq st t=false)
   ⟨none,rfl,aB.refl _,fun t ht=>(by cases ht)⟩ (fun i σ HH _ ⟨_,_,s,_⟩=>aL.of (s _ _ h2)) ?_ ?_⟩
  ·rintro i y σ HH hi ⟨v3,rfl,sH,nb⟩
   obtain⟨tr,htr0,rfl⟩:=aY hi;obtain⟨t,ht0,htr⟩:=bg p2 htr0;have ht:=Hx ht0;have trF:tr∉A'.fp:=xN S (a2 tr (Hx htr0));have hin:∀ x∈aA t,(look st.worn x).isSome=true/\cp x:=fun x hx=>⟨bL.mpr (inG t ht x hx),sm x (inG t ht x hx)⟩;have t64:=tl t ht;refine⟨_,rfl,_,rfl,p,tr,A',st,t,rfl,S2.mono sH,sH _ _ htr,hin,knT t ht,by omega,trF,fun H3 s3=>⟨_,rfl,?_⟩⟩;have s23:=sH.trans s3
   cases hb:iq st t with
   | true =>
    refine bZ ⟨_,rfl,tr,_,aA t,rfl,s23 _ _ htr,by unfold dB aA;rw[IA,IA];rfl,by unfold aA;rw[Hs];omega,fun q hq=>?_⟩;exact k2 t ht hb q _ (fC.none b2 hT2 (s23.free hq)) (fC.same (fC.same b2 s23) (ah hq)) ((hT2.same s23).same (ah hq)) ac
   | false =>
    refine aR ⟨_,rfl,s23,fun u hu=>?_⟩;rw[Iv,ht0]at hu;rcases Ie.mp hu with z | z
    ·exact nb u z
    ·rw[show u=t from by simpa using z];exact hb
  ·rintro σ HH ⟨v3,rfl,sH,nb⟩
   rw[Hs,pl,Ir]at nb;exact k1 nb HH (fC.same b2 sH) (hT2.same sH)
theorem uT (F:dv K "__init__" "Hall.__init__" iN f fd) : aS P w K mg base cJ 1 f fd ["self"] (zk c.C):=by
 refine F.ok vk (fun vs H Q E h=>?_) (fun cdv A outer s H vs Q E hr h=>?_)
 ·obtain⟨p,dx,rfl,_⟩:=h
  rfl
 ·obtain⟨p,dx,rfl,hp,k⟩:=h
  refine⟨_,af (vf (pv 0) fQ rfl) (
   af (vf (pv 0) fQ rfl) (
   af (vf (pv 0) fQ rfl) (
   ag (vf (pv 0) (eO aI) rfl)))),?_⟩
  intro w hw;have n1:p≠w:=aj hp hw;refine⟨_,rfl,p,c.C,dx,[],rfl,(by rw[ae n1];exact hp),U.cl,U.nW,(by show 0<1000;decide),?_⟩;intro h hh;have n2:p≠h:=aj ac hh;refine⟨_,rfl,p,c.C,dx,_,rfl,(by rw[ae n2,ac]),U.cl,U.nH,(by show 1<1000;decide),?_⟩;intro cc hc;have n3:p≠cc:=aj ac hc;refine⟨_,rfl,p,c.C,dx,_,rfl,(by rw[ae n3,ac]),U.cl,U.nC,(by show 2<1000;decide),?_⟩;refine⟨by show 0<=sizeLine;exact Ip _,fun d hd=>?_⟩;have n4:p≠d:=aj ac hd;refine⟨_,rfl,p,c.C,dx,_,rfl,(by rw[ae n4,ac]),U.cl,U.nD,(by show 3<1000;decide),?_⟩;rw[ae (Ik n2)]at hh;have wh:w≠h:=aj ac hh;rw[ae (Ik n3)]at hc;have hcw:h≠cc:=aj ac hc;rw[ae (Ik hcw),ae (Ik n3)]at hc;have hwc:w≠cc:=aj ac hc;rw[ae (Ik n4)]at hd;have hdc:cc≠d:=aj ac hd;rw[ae (Ik hdc),ae (Ik n4)]at hd;have hdh:h≠d:=aj ac hd;rw[ae (Ik hdh),ae (Ik n4)]at hd;have hdw:w≠d:=aj ac hd;rw[ae (Ik hdw)]at hd;rw[ae (Ik hwc)]at hc;rw[ae (Ik wh)]at hh;refine k ⟨dx,w,h,cc,d,[]⟩ _ ⟨ac,?_,?_,?_,?_,.nil,[],?_,.nil⟩ (fun b o e hb=>?_) fun b hb=>?_
  ·simp[HA.fp,wh,hwc,hdw,hcw,hdh,hdc]
  ·rw[ae (Ik n1),ae hdw,ae (Ik n1),ae hwc,ae (Ik n1),ae wh,ae (Ik n1),ac]
   rfl
  ·rw[ae (Ik n2),ae hdh,ae (Ik n2),ae hcw,ae (Ik n2),ac]
   rfl
  ·rw[ae (Ik n3),ae hdc,ae (Ik n3),ac]
   rfl
  ·rw[ae (Ik n4),ac]
   rfl
  ·rw[ae hb,ae (aj e hd),ae hb,ae (aj e hc),ae hb,ae (aj e hh),ae hb,ae (aj e hw)]
   exact e
  ·simp[HA.fp]at hb
   rcases hb with rfl | rfl | rfl | rfl
   ·exact hw
   ·exact hh
   ·exact hc
   ·exact hd
theorem uS (F:dv K "come" "Hall.come" iM f fd)(cE:aK P w K mg base cJ c.C "dress" 1 ["self","guest","mask"] (mn c.C)) : aS P w K mg base (iY P w) 2 f fd ["self","guest"] (vA c):=by
 refine F.okX vj (fun vs H Q E h=>?_) (fun cdv A outer s H vs Q E hr h=>?_)
 ·obtain⟨p,B,st,g,rfl,_⟩:=h
  rfl
 ·obtain⟨p,B,st,g,rfl,S,ft,hg,k⟩:=h
  have hu:=cr hr
  refine⟨_,af (bp (eQ (iH hu (pv 1) (cC (pv 0) rfl))) (ag (jH U.eA fL rfl hr.hd rfl U.mA (lX (c9 (iI (pv 1)) (c9 bu (rc)))))) aJ) (
   af (bd (dG cE (pv 0) U.cl hr eF (aq (pv 1) (aq (pv 1) aI)))) (
   ag (bd (gm Iq IE IF cm (cC (pv 0) rfl) (aq (bS (aq (bu) (aq (pv 1) (aI)))) aI))))),?_⟩
  have g1:bM H B.w (.int g) ((look st.worn g).map V.int):=by rw[<-bT];exact bM.k (k:=Sum.inl g) S.w
  refine⟨_,rfl,_,rfl,p,c.C,B.dx,_,_,rfl,S.ob,U.cl,U.nW,xQ _,B.w,_,rfl,g1,_,rfl,?_⟩
  cases e:look st.worn g with
  | some m =>
   refine bZ ⟨_,rfl,g,rfl,hg,fun y hy=>⟨y,rfl,hy,_,rfl,by decide,fun z=>?_⟩⟩;exact fK (o:=.already) k (by simp[bw,e]) (by simp) _ (fun _ _ z=>z)
  | none =>
   refine aR ⟨_,rfl,p,B.dx,_,rfl,S.ob,rS _ (by decide +kernel),_,rfl,_,rfl,p,B,st,g,g,rfl,S,by have:=ft.w;omega,by have:=ft.h;omega,?_⟩;have S1:=uC (uD S (put st.worn g g)) (put st.hold g g);have k1:Kp B.fp H (upd (upd H B.w (.dK (dk (put st.worn g g)))) B.h (.dK (dk (put st.hold g g)))):=(fM yU).on (fM yS);have t1:Tr H (upd (upd H B.w (.dK (dk (put st.worn g g)))) B.h (.dK (dk (put st.hold g g)))):=(Tr.refl.upd _ _).upd _ _;generalize upd (upd H B.w (.dK (dk (put st.worn g g)))) B.h (.dK (dk (put st.hold g g)))=H1 at S1 k1 t1;obtain⟨as,hd,hp⟩:=id S1.d;have hl:as.length=st.deeds.length:=Ic hp;refine⟨_,rfl,p,c.C,B.dx,_,_,rfl,S1.ob,U.cl,U.nD,A3 _,.inl ⟨rfl,_,aL.of hd⟩,_,rfl,by show 2<=sizeLine;decide,fun t ht=>?_⟩;have td:B.d≠t:=aj hd ht;refine⟨B.d,_,_,rfl,rfl,by rw[ae td];exact hd,by rw[Hs];exact aG (by have:=ft.d;omega),?_⟩;refine mQ k (by simp[bw,e]) _ ⟨B,mU S1 hd hp (.come g) ht,(k1.on (xX ht)).on (fM Bh),fun b hb=>.inl hb,(t1.upd _ _).upd _ _⟩
theorem yh (F:dv K "go" "Hall.go" kO f fd)(aN:aK P w K mg base (iY P w) c.C "wears" 3 ["self","guest"] (gz c)) : aS P w K mg base (iY P w) 4 f fd ["self","guest"] (Dp c):=by
 refine F.okX yr (fun vs H Q E h=>?_) (fun cdv A outer s H vs Q E hr h=>?_)
 ·obtain⟨p,B,st,g,rfl,_⟩:=h
  rfl
 ·obtain⟨p,B,st,g,rfl,S,ft,hg,hm,k⟩:=h
  refine⟨_,af (bp (aF jc (dG aN (pv 0) U.cl hr fi (aq (pv 1) aI)) (pv 1) (aM _)) (ag (jH U.eM fL rfl hr.hd rfl U.mM (lX (c9 (iI (pv 1)) (c9 bu (c9 (iI (dG aN (pv 0) U.cl hr fi (aq (pv 1) aI))) (rc))))))) aJ) (
   af (bd (q8 (cC (pv 0) rfl) (pv 1) ⟨rfl,rfl,rfl,rfl⟩)) (
   af (bd (q8 (cC (pv 0) rfl) (pv 1) ⟨rfl,rfl,rfl,rfl⟩)) (
   ag (bd (gm Iq IE IF cm (cC (pv 0) rfl) (aq (bS (aq (bu) (aq (pv 1) (aI)))) aI)))))),?_⟩
  have no:=ko B (m:="wears") (by decide +kernel) (by decide +kernel) (by decide +kernel) (by decide +kernel);refine⟨_,rfl,p,B.dx,_,rfl,S.ob,no,_,rfl,p,B,st,g,rfl,S,hg,?_⟩
  cases e:look st.worn g with
  | none=>exact fK (o:=.noguest g) k (by simp[bw,e]) (by simp)
  | some m =>
   obtain⟨hs,hh⟩:=hm m e;refine⟨_,rfl,rfl,_,rfl,?_⟩
   by_cases em:m=g
   ·subst em
    rw[HY rfl];refine aR ?_
    have hv:cH (dk st.worn) (Sum.inl m:bP)=some (V.int m):=by rw[bT,e];rfl
    obtain⟨m2,e2⟩:=IJ.mp (hh rfl)
    have hv2:cH (dk st.hold) (Sum.inl m:bP)=some (V.int m2):=by rw[bT,e2];rfl
    refine⟨_,rfl,p,c.C,B.dx,_,_,rfl,S.ob,U.cl,U.nW,xQ _,B.w,rfl,.inl ⟨_,.inl S.w⟩,_,rfl,_,Sum.inl m,_,S.w,rfl,hv,?_⟩;rw[qf];have S0:=uD S (cD st.worn m);refine⟨_,rfl,p,c.C,B.dx,_,_,rfl,S0.ob,U.cl,U.nH,CQ _,B.h,rfl,.inl ⟨_,.inl S0.h⟩,_,rfl,_,Sum.inl m,_,S0.h,rfl,hv2,?_⟩;rw[qf];have S1:=uC S0 (cD st.hold m);have k1:Kp B.fp H (upd (upd H B.w (.dK (dk (cD st.worn m)))) B.h (.dK (dk (cD st.hold m)))):=(fM yU).on (fM yS);have t1:Tr H (upd (upd H B.w (.dK (dk (cD st.worn m)))) B.h (.dK (dk (cD st.hold m)))):=(Tr.refl.upd _ _).upd _ _;generalize upd (upd H B.w (.dK (dk (cD st.worn m)))) B.h (.dK (dk (cD st.hold m)))=H1 at S1 k1 t1;obtain⟨as,hd,hp⟩:=id S1.d;have hl:as.length=st.deeds.length:=Ic hp;refine⟨_,rfl,p,c.C,B.dx,_,_,rfl,S1.ob,U.cl,U.nD,A3 _,.inl ⟨rfl,_,aL.of hd⟩,_,rfl,by show 2<=sizeLine;decide,fun t ht=>?_⟩;have td:B.d≠t:=aj hd ht;refine⟨B.d,_,_,rfl,rfl,by rw[ae td];exact hd,by rw[Hs];exact aG (by have:=ft.d;omega),?_⟩;refine mQ k (by simp[bw,e]) _ ⟨B,mU S1 hd hp (.go m) ht,(k1.on (xX ht)).on (fM Bh),fun b hb=>.inl hb,(t1.upd _ _).upd _ _⟩
   ·rw[Ih (fun z=>em (V.int.inj z))]
    refine bZ ⟨_,rfl,g,rfl,hg,fun y hy=>⟨y,rfl,hy,_,rfl,by decide,?_⟩⟩;refine⟨_,rfl,p,B.dx,_,rfl,S.ob,no,_,rfl,p,B,st,g,rfl,S,hg,?_⟩;rw[e];refine⟨m,rfl,hs,fun y hy=>⟨y,rfl,hy,fun z=>?_⟩⟩;exact fK (o:=.masked) k (by simp[bw,e,em]) (by simp) _ (fun _ _ z=>z)
theorem ni (F:dv K "exchange" "Hall.exchange" dZ f fd)(aN:aK P w K mg base (iY P w) c.C "wears" 3 ["self","guest"] (gz c))(kC:aK P w K mg base cJ c.C "met" 1 ["self","one","other"] (zj c.C))(cE:aK P w K mg base cJ c.C "dress" 1 ["self","guest","mask"] (mn c.C))(dw:aK P w K mg base cJ c.C "acquaint" 1 ["self","one","other"] (zh c.C)) : aS P w K mg base (iY P w) 4 f fd ["self","one","other"] (vB c):=by
 refine F.okX dW (fun vs H Q E h=>?_) (fun cdv A outer s H vs Q E hr h=>?_)
 ·obtain⟨p,B,st,a,b,rfl,_⟩:=h
  rfl
 ·obtain⟨p,B,st,a,b,rfl,S,ft,ha,hb,k⟩:=h
  have hr1:cx 1 _:=hr.mono (by decide)
  refine⟨_,af (cZ (i:=3) dW.nd rfl (Or.inl rfl) (dG aN (pv 0) U.cl hr fi (aq (pv 1) aI))) (
   af (cZ (i:=4) dW.nd rfl (Or.inl rfl) (dG aN (pv 0) U.cl hr fi (aq (pv 2) aI))) (
   af (bp (aF eD (pv 1) (pv 2) (aM _)) (ag (jH U.eS fL rfl hr.hd rfl U.mS (lX (c9 (iI (pv 1)) (c9 bu (rc)))))) aJ) (
   af (bp (dU (dG kC (pv 0) U.cl hr1 eF (aq (pv 1) (aq (pv 2) aI)))) (ag (jH U.eT fL rfl hr.hd rfl U.mT (lX (c9 (iI (pv 1)) (c9 bu (c9 (iI (pv 2)) (c9 bu (rc)))))))) aJ) (
   af (bd (dG cE (pv 0) U.cl hr1 eF (aq (pv 1) (aq (pv 4) aI)))) (
   af (bd (dG cE (pv 0) U.cl hr1 eF (aq (pv 2) (aq (pv 3) aI)))) (
   af (bd (dG dw (pv 0) U.cl hr1 eF (aq (pv 1) (aq (pv 2) aI)))) (
   af (bd (dG dw (pv 0) U.cl hr1 eF (aq (pv 2) (aq (pv 1) aI)))) (
   ag (bd (gm Iq IE IF cm (cC (pv 0) rfl) (aq (bS (aq (bu) (aq (pv 1) (aq (pv 2) (aI))))) aI))))))))))),?_⟩
  have no:∀ (B:HA)(m:Str),m∈(["wears","met","dress","acquaint"]:List Str)->(bn B).lookup m=none:=fun B m hm=>by
   simp only[HW,JV,or_false]at hm;rcases hm with rfl | rfl | rfl | rfl<;>exact rS B (by decide +kernel)
  have n1:∀ B:HA,(bn B).lookup ("wears" : Str)=none:=fun B=>no B _ (by simp);have n2:∀ B:HA,(bn B).lookup ("met" : Str)=none:=fun B=>no B _ (by simp);have n3:∀ B:HA,(bn B).lookup ("dress" : Str)=none:=fun B=>no B _ (by simp);have n4:∀ B:HA,(bn B).lookup ("acquaint" : Str)=none:=fun B=>no B _ (by simp);refine⟨_,rfl,p,B.dx,_,rfl,S.ob,n1 B,_,rfl,p,B,st,a,rfl,S,ha,?_⟩
  cases ea:look st.worn a with
  | none=>exact fK (o:=.noguest a) k (by simp[bw,ea]) (by simp)
  | some ma =>
   refine⟨_,rfl,p,B.dx,_,rfl,S.ob,n1 B,_,rfl,p,B,st,b,rfl,S,hb,?_⟩
   cases eb:look st.worn b with
   | none=>exact fK (o:=.noguest b) k (by simp[bw,ea,eb]) (by simp)
   | some mb =>
    refine⟨_,rfl,_,rfl,rfl,_,rfl,?_⟩
    by_cases eab:a=b
    ·rw[HY (by rw[eab])]
     refine bZ ⟨_,rfl,a,rfl,ha,fun y hy=>⟨y,rfl,hy,_,rfl,by decide,fun z=>?_⟩⟩;exact fK (o:=.same) k (by simp[bw,ea,eb,eab]) (by simp) _ (fun _ _ z=>z)
    ·rw[Ih (fun z=>eab (V.int.inj z))]
     refine aR ⟨_,rfl,p,B.dx,_,rfl,S.ob,n2 B,_,rfl,_,rfl,p,B,st,a,b,rfl,S,fun H1 s1=>⟨_,rfl,?_⟩⟩
     cases em:jg st.circ a b with
     | true =>
      refine bZ ⟨_,rfl,a,rfl,ha,fun y hy=>⟨y,rfl,hy,_,rfl,by decide,_,rfl,b,rfl,hb,fun y hy=>⟨y,rfl,hy,_,rfl,by decide,fun z=>?_⟩⟩⟩;exact fK (o:=.met) k (by simp[bw,ea,eb,eab,em]) (by simp) _ s1
     | false =>
      refine aR ?_;have S1:=S.mono s1;have kd:=mQ k (by simp[bw,ea,eb,eab,em])
      have wa:wr st.worn a=ma:=by unfold wr;rw[ea];rfl
      have wb:wr st.worn b=mb:=by unfold wr;rw[eb];rfl
      have l1:=iD st.worn a mb;have l2:=iD st.hold mb a;have f1:=ft.w;have f2:=ft.h;refine⟨_,rfl,p,B.dx,_,rfl,S1.ob,n3 B,_,rfl,_,rfl,p,B,st,a,mb,rfl,S1,by omega,by omega,?_⟩;have S2:=uC (uD S1 (put st.worn a mb)) (put st.hold mb a);have k2:Kp B.fp H (upd (upd H1 B.w (.dK (dk (put st.worn a mb)))) B.h (.dK (dk (put st.hold mb a)))):=((Kp.of_same s1).on (fM yU)).on (fM yS);have t2:Tr H (upd (upd H1 B.w (.dK (dk (put st.worn a mb)))) B.h (.dK (dk (put st.hold mb a)))):=((Tr.of_same s1).upd _ _).upd _ _;generalize upd (upd H1 B.w (.dK (dk (put st.worn a mb)))) B.h (.dK (dk (put st.hold mb a)))=H2 at S2 k2 t2;refine⟨_,rfl,p,B.dx,_,rfl,S2.ob,n3 B,_,rfl,_,rfl,p,B,_,b,ma,rfl,S2,by show (put st.worn a mb).length<2000;omega,by show (put st.hold mb a).length<2000;omega,?_⟩;have S3:=uC (uD S2 (put (put st.worn a mb) b ma)) (put (put st.hold mb a) ma b);have k3:Kp B.fp H (upd (upd H2 B.w (.dK (dk (put (put st.worn a mb) b ma)))) B.h (.dK (dk (put (put st.hold mb a) ma b)))):=(k2.on (fM yU)).on (fM yS);dsimp only at S3 ⊢;have t3:Tr H (upd (upd H2 B.w (.dK (dk (put (put st.worn a mb) b ma)))) B.h (.dK (dk (put (put st.hold mb a) ma b)))):=(t2.upd _ _).upd _ _;generalize upd (upd H2 B.w (.dK (dk (put (put st.worn a mb) b ma)))) B.h (.dK (dk (put (put st.hold mb a) ma b)))=H3 at S3 k3 t3;refine⟨_,rfl,p,B.dx,_,rfl,S3.ob,n4 B,_,rfl,_,rfl,p,B,_,a,b,rfl,S3,by have:=ft.c;show st.circ.length<2000;omega,fun x hx=>by have:=ft.k x hx;omega,fun H4 ⟨B4,S4,k4,p4,t4⟩=>?_⟩;dsimp only at S4;refine⟨_,rfl,p,B4.dx,_,rfl,S4.ob,n4 B4,_,rfl,_,rfl,p,B4,_,b,a,rfl,S4,by have:=ft.c;have:=lH st.circ a b;show (bW st.circ a b).length<2000;omega,fun x hx=>by have:=pZ (n:=999) (fun x hx=>by have:=ft.k x hx;omega) (by decide) x hx;omega,fun H5 ⟨B5,S5,k5,p5,t5⟩=>?_⟩
      dsimp only at S5;have k4':Kp B.fp H H4:=k3.on k4
      have f4:∀ x∈B4.fp,x∈B.fp\/H x=none:=fun x hx=>by
       rcases p4 x hx with z | z
       ·exact .inl z
       ·by_cases hq:x∈B.fp
        ·exact .inl hq
        ·refine .inr ?_
         cases e:H x with
         | none=>rfl
         | some o=>rw[k3 x o e hq]at z;cases z
      have k5':Kp B.fp H H5:=k4'.trans k5 f4
      have f5:∀ x∈B5.fp,x∈B.fp\/H x=none:=fun x hx=>by
       rcases p5 x hx with z | z
       ·exact f4 x z
       ·by_cases hq:x∈B.fp
        ·exact .inl hq
        ·refine .inr ?_
         cases e:H x with
         | none=>rfl
         | some o=>rw[k4' x o e hq]at z;cases z
      obtain⟨as,hd,hp⟩:=id S5.d;have hl:as.length=st.deeds.length:=Ic hp;refine⟨_,rfl,p,c.C,B5.dx,_,_,rfl,S5.ob,U.cl,U.nD,A3 _,.inl ⟨rfl,_,aL.of hd⟩,_,rfl,_,rfl,by show 3<=sizeLine;decide,fun t ht=>?_⟩;have td:B5.d≠t:=aj hd ht;refine⟨B5.d,_,_,rfl,rfl,by rw[ae td];exact hd,by rw[Hs];exact aG (by have:=ft.d;omega),?_⟩;have S6:=mU S5 hd hp (.exch a b) ht;refine kd _ ⟨B5,?_,?_,f5,(((t3.trans t4).trans t5).upd _ _).upd _ _⟩
      ·show aE c.C _ p B5 { worn:=put (put st.worn a (wr st.worn b)) b (wr st.worn a),hold:=put (put st.hold (wr st.worn b) a) (wr st.worn a) b,circ:=bW (bW st.circ a b) b a,deeds:=st.deeds++[.exch a b] }
       rw[wa,wb];exact S6
      ·intro x o e hx
       have h5:=k5' x o e hx
       have hx5:x≠B5.d:=fun z=>by
        rcases f5 B5.d Bh with q | q
        ·exact hx (by rw[z];exact q)
        ·rw[z,q]at e;cases e
       show upd (upd H5 t _) B5.d _ x=some o
       rw[ae hx5,ae (aj h5 ht)];exact h5
theorem sh (F:dv K "dress" "Hall.dress" gO f fd) : aS P w K mg base cJ 1 f fd ["self","guest","mask"] (mn c.C):=by
 refine F.ok sF (fun vs H Q E h=>?_) (fun cdv A outer s H vs Q E hr h=>?_)
 ·obtain⟨p,B,st,g,m,rfl,_⟩:=h
  rfl
 ·obtain⟨p,B,st,g,m,rfl,S,hw,hh,k⟩:=h
  have hu:=cr hr
  have nwh:B.w≠B.h:=by have:=S.nd;simp[HA.fp]at this;exact this.1.1
  have npw:p≠B.w:=bY S.ob S.w (by intro z;cases z)
  refine⟨_,af (cR hu (cC (pv 0) rfl) (pv 1) (pv 2) rfl) (
   ag (cR hu (cC (pv 0) rfl) (pv 2) (pv 1) rfl)),?_⟩
  refine⟨_,rfl,_,rfl,p,c.C,B.dx,_,_,rfl,S.ob,U.cl,U.nW,xQ _,_,rfl,B.w,_,rfl,gF.k (k:=Sum.inl g) S.w (by rw[uJ];exact Ij hw (by decide)),?_⟩;rw[dH];refine⟨_,rfl,_,rfl,p,c.C,B.dx,_,_,rfl,(by rw[ae npw];exact S.ob),U.cl,U.nH,CQ _,_,rfl,B.h,_,rfl,gF.k (k:=Sum.inl m) (by rw[ae (Ik nwh)];exact S.h) (by rw[uJ];exact Ij hh (by decide)),?_⟩;rw[dH];exact k
theorem nh (F:dv K "acquaint" "Hall.acquaint" dY f fd) : aS P w K mg base cJ 1 f fd ["self","one","other"] (zh c.C):=by
 refine F.ok hX (fun vs H Q E h=>?_) (fun cdv A outer s H vs Q E hr h=>?_)
 ·obtain⟨p,B,st,a,b,rfl,_⟩:=h
  rfl
 ·obtain⟨p,B,st,a,b,rfl,S,hl1,hl2,k⟩:=h
  have hu:=cr hr
  refine⟨_,af (cZ (i:=3) hX.nd rfl (Or.inl rfl) (BF (cC (pv 0) rfl) (pv 1) fQ ⟨rfl,rfl,rfl,rfl⟩)) (
   ag (cR hu (pv 3) (pv 2) dm rfl)),?_⟩
  refine⟨_,rfl,p,c.C,B.dx,_,_,rfl,S.ob,U.cl,U.nC,CP _,B.c,rfl,.inl ⟨_,.inl S.c⟩,_,rfl,fun l hl=>?_⟩;have s1:aB H (upd H l (.dK [])):=ah hl;have S1:=S.mono s1;have ap:=S.apart;have lenc:B.cs.length=st.circ.length:=Ic S.cs
  have lc:(df B.cs st.circ).length<sizeLine:=by rw[tR lenc];exact Ij hl1 (by decide)
  have np:=S.pne;simp only[HA.fp,HW,not_or]at np;refine⟨_,Sum.inl a,S1.c,rfl,lc,fun v hv=>?_,fun hv=>?_⟩
  ·rcases gX a S1.cs with ⟨h1,h2,h3⟩ | ⟨ad,h1,h2,h3,h4⟩
   ·rw[h1]at hv;cases hv
   ·rw[h2]at hv
    cases hv
    have lk:(tQ (ir st.circ a)).length<sizeLine:=by
     have e:∀ ci:List (Int×List Int),(∀ x∈ci,x.2.length<2000)->(ir ci a).length<2000:=by
      intro ci
      induction ci with
      | nil=>intro _;show 0<2000;decide
      | cons x r ih =>
       intro h;unfold ir;split
       ·exact h x HV
       ·exact ih fun y hy=>h y (HL _ hy)
     unfold tQ;rw[Hs];exact Ij (e _ hl2) (by decide)
    refine⟨_,rfl,_,rfl,ad,_,rfl,gF.k (k:=Sum.inl b) h3 lk,?_⟩;rw[Di]
    have adfp:ad∈B.fp:=by simp[HA.fp,h1]
    have nn:∀ x,x∉B.cs->x≠ad:=fun x hx z=>hx (by rw[z];exact h1);obtain⟨q1,q2⟩:=h4 b (upd (upd H l (.dK [])) ad (.dK (tQ (j5 (ir st.circ a) b)))) ap.cs (fun x _ hx o e=>by rw[ae hx];exact e) ac;refine k _ ⟨B,⟨by rw[ae (nn _ np.2.2.2.2)];exact S1.ob,S.nd,by rw[ae (nn _ ap.w)];exact S1.w,by rw[ae (nn _ ap.h)];exact S1.h,by rw[ae (nn _ ap.c),S1.c,q2],q1,?_⟩,(xX hl).on (fM adfp),fun x hx=>.inl hx,(Tr.refl.upd _ _).upd _ _⟩;obtain⟨as,hd,hp⟩:=S1.d;refine⟨as,by rw[ae (nn _ ap.d)];exact hd,Paired.mapP hp fun t x e=>?_⟩;obtain⟨xs,ex⟩:=dh x;rw[ae (fun z=>S1.tup (xs:=xs) (by rw[<-ex];exact e) (by rw[z];exact adfp))];exact e
  ·rcases gX a S1.cs with ⟨h1,h2,h3⟩ | ⟨ad,h1,h2,h3,h4⟩
   ·have lB:l∉B.fp:=fun z=>by obtain⟨o,e⟩:=S.tracked z;rw[hl]at e;cases e
    have lB':=lB;simp only[HA.fp,HW,not_or]at lB';obtain⟨l1,l2,l3,l4,l5⟩:=lB';refine⟨_,rfl,_,rfl,l,_,rfl,gF.k (k:=Sum.inl b) (by rw[ae l3];exact ac) (by show 0<sizeLine;decide),?_⟩;rw[show dq [] (Sum.inl b:bP) (V.bl true)=tQ [b] from rfl,BR _ hv]
    have e1:∀ x o,H x=some o->x≠B.c->x≠l->(upd (upd (upd H l (.dK [])) B.c (.dK (df B.cs st.circ++[(Sum.inl a,V.ref l)]))) l (.dK (tQ [b]))) x=some o:=fun x o e hx hy=>by
     rw[ae hy,ae hx,ae hy];exact e
    have nl:∀ x o,H x=some o->x≠l:=fun x o e=>aj e hl;refine k _ ⟨⟨B.dx,B.w,B.h,B.c,B.d,B.cs++[l]⟩,⟨?_,?_,e1 _ _ S.w ap.wc (nl _ _ S.w),e1 _ _ S.h ap.hc (nl _ _ S.h),?_,?_,?_⟩,?_,fun x hx=>?_,((Tr.refl.upd _ _).upd _ _).upd _ _⟩
    ·exact e1 _ _ S.ob np.2.2.1 (nl _ _ S.ob)
    ·refine yD.fp ⟨ap.wh,ap.wc,ap.wd,ap.hc,ap.hd,ap.cd,?_,?_,?_,?_,?_⟩
     ·simp[ap.w,Ik l1]
     ·simp[ap.h,Ik l2]
     ·simp[ap.c,Ik l3]
     ·simp[ap.d,Ik l4]
     ·exact lP ap.cs l5
    ·show (upd (upd (upd H l (.dK [])) B.c (.dK (df B.cs st.circ++[(Sum.inl a,V.ref l)]))) l (.dK (tQ [b]))) B.c=some (.dK (df (B.cs++[l]) (bW st.circ a b)))
     rw[ae (Ik l3),ac,h3 b,qa a [b] l lenc]
    ·show F3 _ (B.cs++[l]) (bW st.circ a b)
     rw[h3 b];exact bx (lj S.cs fun x hx o e=>e1 x o e (fun z=>ap.c (by rw[<-z];exact hx)) (nl x o e)) (.cons ac .nil)
    ·obtain⟨as,hd,hp⟩:=S.d
     refine⟨as,e1 _ _ hd (Ik ap.cd) (nl _ _ hd),Paired.mapP hp fun t x e=>?_⟩;obtain⟨xs,ex⟩:=dh x;exact e1 t _ e (fun z=>S.tup (xs:=xs) (by rw[<-ex];exact e) (by rw[z];exact DJ)) (nl t _ e)
    ·intro x o e hx
     exact e1 x o e (fun z=>hx (by rw[z];exact DJ)) (nl x o e)
    ·simp only[HA.fp,HW,Ie]at hx ⊢
     rcases hx with hx | hx | hx | hx | hx | hx | hx
     ·exact .inl (.inl hx)
     ·exact .inl (.inr (.inl hx))
     ·exact .inl (.inr (.inr (.inl hx)))
     ·exact .inl (.inr (.inr (.inr (.inl hx))))
     ·exact .inl (.inr (.inr (.inr (.inr hx))))
     ·exact .inr (by rw[hx];exact hl)
     ·cases hx
   ·rw[h2]at hv;cases hv
theorem qO (F:dv K "inside" "Hall.inside" fW f fd) : aS P w K mg base cJ 1 f fd ["self","guest"] (mw c.C):=by
 refine F.ok ro (fun vs H Q E h=>?_) (fun cdv A outer s H vs Q E hr h=>?_)
 ·obtain⟨p,B,st,g,rfl,_⟩:=h
  rfl
 ·obtain⟨p,B,st,g,rfl,S,k⟩:=h
  have hu:=cr hr;refine⟨_,ag (ar (nz (iH hu (pv 1) (cC (pv 0) rfl)))),?_⟩
  have g1:bM H B.w (.int g) ((look st.worn g).map V.int):=by rw[<-bT];exact bM.k (k:=Sum.inl g) S.w
  refine⟨_,rfl,_,rfl,p,c.C,B.dx,_,_,rfl,S.ob,U.cl,U.nW,xQ _,B.w,_,rfl,g1,?_⟩;rw[JB];exact k
theorem qN (F:dv K "guests" "Hall.guests" fV f fd) : aS P w K mg base cJ 1 f fd ["self"] (jK c.C):=by
 refine F.ok rm (fun vs H Q E h=>?_) (fun cdv A outer s H vs Q E hr h=>?_)
 ·obtain⟨p,B,st,rfl,_⟩:=h
  rfl
 ·obtain⟨p,B,st,rfl,S,hl,k⟩:=h
  refine⟨_,ag (ar (aU (c7 rfl) (by rfl) T.sorted IQ (aq (cC (pv 0) rfl) aI))),?_⟩;refine⟨_,rfl,p,c.C,B.dx,_,_,rfl,S.ob,U.cl,U.nW,xQ _,B.w,_,ak st.worn,rfl,S.w,?_,by unfold ak;rw[Hs];exact hl,k⟩;unfold dk ak;rw[IA,IA];rfl
theorem sr (F:dv K "wears" "Hall.wears" gR f fd)(NG:k9 P w K mg base c) : aS P w K mg base (iY P w) 3 f fd ["self","guest"] (gz c):=by
 refine F.okX sM (fun vs H Q E h=>?_) (fun cdv A outer s H vs Q E hr h=>?_)
 ·obtain⟨p,B,st,g,rfl,_⟩:=h
  rfl
 ·obtain⟨p,B,st,g,rfl,S,hg,k⟩:=h
  have hu:=cr hr
  refine⟨_,af (bp (eQ (fG hu (pv 1) (cC (pv 0) rfl))) (ag (w8 NG U hr fL rfl hr.hd rfl (pv 1))) aJ) (
   ag (ar (cF hu (cC (pv 0) rfl) (pv 1) (fun _ _=>rfl)))),?_⟩
  have g1:bM H B.w (.int g) ((look st.worn g).map V.int):=by rw[<-bT];exact bM.k (k:=Sum.inl g) S.w
  refine⟨_,rfl,_,rfl,p,c.C,B.dx,_,_,rfl,S.ob,U.cl,U.nW,xQ _,B.w,_,rfl,g1,_,rfl,?_⟩
  cases e:look st.worn g with
  | none =>
   rw[e]at k;exact bZ ⟨_,rfl,g,rfl,hg,fun dx hdx=>k dx _ (ah hdx) ac⟩
  | some m =>
   rw[e]at k;refine aR ⟨_,rfl,p,c.C,B.dx,_,_,rfl,S.ob,U.cl,U.nW,xQ _,_,rfl,B.w,_,rfl,(by rw[e]at g1;exact g1),k⟩
theorem qQ (F:dv K "wearer" "Hall.wearer" fY f fd)(NG:k9 P w K mg base c) : aS P w K mg base (iY P w) 3 f fd ["self","mask"] (mB c):=by
 refine F.okX rq (fun vs H Q E h=>?_) (fun cdv A outer s H vs Q E hr h=>?_)
 ·obtain⟨p,B,st,g,rfl,_⟩:=h
  rfl
 ·obtain⟨p,B,st,g,rfl,S,hg,k⟩:=h
  have hu:=cr hr
  refine⟨_,af (bp (eQ (fG hu (pv 1) (cC (pv 0) rfl))) (ag (w8 NG U hr fL rfl hr.hd rfl (pv 1))) aJ) (
   ag (ar (cF hu (cC (pv 0) rfl) (pv 1) (fun _ _=>rfl)))),?_⟩
  have g1:bM H B.h (.int g) ((look st.hold g).map V.int):=by rw[<-bT];exact bM.k (k:=Sum.inl g) S.h
  refine⟨_,rfl,_,rfl,p,c.C,B.dx,_,_,rfl,S.ob,U.cl,U.nH,CQ _,B.h,_,rfl,g1,_,rfl,?_⟩
  cases e:look st.hold g with
  | none =>
   rw[e]at k;exact bZ ⟨_,rfl,g,rfl,hg,fun dx hdx=>k dx _ (ah hdx) ac⟩
  | some m =>
   rw[e]at k;refine aR ⟨_,rfl,p,c.C,B.dx,_,_,rfl,S.ob,U.cl,U.nH,CQ _,_,rfl,B.h,_,rfl,(by rw[e]at g1;exact g1),k⟩
theorem wW (F:dv K "met" "Hall.met" jL f fd) : aS P w K mg base cJ 1 f fd ["self","one","other"] (zj c.C):=by
 refine F.ok xj (fun vs H Q E h=>?_) (fun cdv A outer s H vs Q E hr h=>?_)
 ·obtain⟨p,B,st,a,b,rfl,_⟩:=h
  rfl
 ·obtain⟨p,B,st,a,b,rfl,S,k⟩:=h
  have hu:=cr hr;refine⟨_,ag (ar (nz (iH hu (pv 2) (lV hu (cC (pv 0) rfl) (pv 1) fQ ⟨rfl,rfl,rfl,rfl⟩)))),?_⟩;refine⟨_,rfl,_,rfl,p,c.C,B.dx,_,_,rfl,S.ob,U.cl,U.nC,CP _,B.c,rfl,.inl ⟨_,.inl S.c⟩,_,rfl,fun l hl=>?_⟩;have s1:aB H (upd H l (.dK [])):=ah hl;have S1:=S.mono s1;refine⟨_,bM.k (k:=Sum.inl a) S1.c,?_⟩;rcases gX a S1.cs with ⟨h1,h2,h3⟩ | ⟨ad,h1,h2,h3,h4⟩
  ·rw[h1]
   refine⟨l,_,rfl,bM.k (k:=Sum.inl b) ac,?_⟩;have:=k _ s1;unfold jg at this;rw[h2]at this;exact this
  ·rw[h2]
   refine⟨ad,_,rfl,bM.k (k:=Sum.inl b) h3,?_⟩;rw[Dz];exact k _ s1
theorem nj (F:dv K "partners" "Hall.partners" d5 f fd) : aS P w K mg base cJ 1 f fd ["self","guest"] (iL c.C):=by
 refine F.ok nK (fun vs H Q E h=>?_) (fun cdv A outer s H vs Q E hr h=>?_)
 ·obtain⟨p,B,st,g,rfl,_⟩:=h
  rfl
 ·obtain⟨p,B,st,a,rfl,S,h64,k⟩:=h
  have hu:=cr hr;refine⟨_,ag (ar (aU (c7 rfl) (by rfl) T.sorted IQ (aq (lV hu (cC (pv 0) rfl) (pv 1) fQ ⟨rfl,rfl,rfl,rfl⟩) aI))),?_⟩;refine⟨_,rfl,p,c.C,B.dx,_,_,rfl,S.ob,U.cl,U.nC,CP _,B.c,rfl,.inl ⟨_,.inl S.c⟩,_,rfl,fun l hl=>?_⟩;have s1:aB H (upd H l (.dK [])):=ah hl;have S1:=S.mono s1;refine⟨_,bM.k (k:=Sum.inl a) S1.c,?_⟩;rcases gX a S1.cs with ⟨h1,h2,h3⟩ | ⟨ad,h1,h2,h3,h4⟩
  ·rw[h1]
   refine⟨l,[],[],rfl,ac,rfl,by decide,fun l2 hl2=>?_⟩;refine k l2 _ (s1.free hl2) (s1.trans (ah hl2)) ?_;rw[h2,ac]
  ·rw[h2]
   refine⟨ad,_,ir st.circ a,rfl,h3,by unfold tQ;rw[IA];rfl,h64,fun l2 hl2=>?_⟩;exact k l2 _ (s1.free hl2) (s1.trans (ah hl2)) ac
theorem si (F:dv K "pairs" "Hall.pairs" d7 f fd)(eJ:aK P w K mg base cJ c.C "partners" 1 ["self","guest"] (iL c.C)) : aS P w K mg base cJ 2 f fd ["self"] (mq c.C):=by
 refine F.ok sG (fun vs H Q E h=>?_) (fun cdv A outer s H vs Q E hr h=>?_)
 ·obtain⟨p,B,st,L,rfl,_⟩:=h
  rfl
 ·obtain⟨p,B,st,L,rfl,S,ci,hL,hP,k⟩:=h
  have hu:=cr hr
  have two:(2:Nat)<=sizeLine:=by decide
  have nQ:(bn B).lookup ("partners" : Str)=none:=rS B (by decide +kernel);have kk:=ci.kk;refine⟨_,ag (ar (BE (so:=ai d7) (N:=lM) (N':=["one","other","self"]) (src:=[none,none,some 0]) rfl rfl xH rfl (bq (aU (c7 rfl) (by rfl) T.sorted IQ (eZ (cC (pv 0) rfl)))) (fun cl C s2 H2 ex=>⟨j7 0 (show (["one","other","self"]:List Str).Nodup by decide +kernel),fj,BJ K (dG eJ (pv 2) U.cl hr.m eF (eZ (pv 0))),j7 1 (show (["one","other","self"]:List Str).Nodup by decide +kernel),gr (aF tZ (pv 0) (pv 1) (aM _)),bS (fF (pv 0) (pv 1))⟩))),?_⟩
  have ck:(df B.cs st.circ).map (·.1)=(st.circ.map (·.1)).map Sum.inl:=by
   have:=S.cs;generalize B.cs=cs at this;generalize st.circ=xs at this
   induction this with
   | nil=>rfl
   | cons _ _ ih=>simp only[df,Iw];rw[ih]
  refine⟨_,rfl,p,c.C,B.dx,_,_,rfl,S.ob,U.cl,U.nC,CP _,B.c,_,st.circ.map (·.1),rfl,S.c,ck,by rw[Hs];omega,fun lo hlo=>?_⟩;have s1:=ah (o:=.lst ((aD (st.circ.map (·.1))).map V.int)) hlo;have ho1:upd H lo (.lst ((aD (st.circ.map (·.1))).map V.int)) lo=some (.lst ((aD (st.circ.map (·.1))).map V.int)):=ac;generalize upd H lo (.lst ((aD (st.circ.map (·.1))).map V.int))=H1 at s1 ho1 ⊢;refine⟨lo,rfl,⟨_,aL.of ho1⟩,fun l hl=>?_⟩;generalize hks:aD (st.circ.map (·.1))=ks at ho1 ⊢
  have kl:ks.length<=L.length:=by rw[<-hks,dR,Hs];exact kk
  have pl:∀ i,((ks.take i).flatMap (dy st.circ)).length<=1000:=fun i=>by
   have e:dE st.circ=(ks.take i++ks.drop i).flatMap (dy st.circ):=by rw[List.take_append_drop];unfold dE;rw[hks]
   rw[e,List.flatMap_append,Ia]at hP;omega
  refine bj (K:=K) (a:=lo) (xs:=ks.map V.int) (fun i σ H2=>∃ u v:Option V,σ=[u,v,some (.ref p)]/\aB H1 H2/\bJ H2 l ((ks.take i).flatMap (dy st.circ)))
   ⟨none,none,rfl,ah hl,⟨[],ac,.nil⟩⟩ (fun i σ H2 _ ⟨_,_,_,s2,_⟩=>aL.of (s2 _ _ ho1)) ?_ ?_
  ·rintro i y σ H2 hi ⟨u,v,rfl,s2,row⟩
   obtain⟨a,ha,rfl⟩:=aY hi;have S2:=(S.mono s1).mono s2
   have ec:(ks.take (i+1)).flatMap (dy st.circ)=(ks.take i).flatMap (dy st.circ)++dy st.circ a:=by rw[Iv,ha,ID,List.flatMap_append,List.flatMap_singleton]
   have pl2:=pl (i+1);rw[ec,Ia]at pl2;refine B6 ⟨_,rfl,p,B.dx,_,rfl,S2.ob,nQ,_,rfl,p,B,st,a,rfl,S2,Js (ci.cl a) hL,fun lm H3 hlm s3 hm3=>⟨lm,rfl,⟨_,aL.of hm3⟩,?_⟩⟩;have row3:=row.mono s3;generalize hms:aD (ir st.circ a)=ms at hm3
   have mE:dy st.circ a=(ms.filter fun b=>decide (a<b)).map fun b=>(a,b):=by unfold dy;rw[hms]
   refine bj (K:=K) (a:=lm) (xs:=ms.map V.int) (fun j σ H4=>∃ v:Option V,σ=[some (.int a),v,some (.ref p)]/\(∀ b o,H3 b=some o->b≠l->H4 b=some o)/\bJ H4 l ((ks.take i).flatMap (dy st.circ)++((ms.take j).filter fun b=>decide (a<b)).map fun b=>(a,b)))
    ⟨_,rfl,fun b o e _=>e,by simpa using row3⟩ (fun j σ H4 _ ⟨_,_,s4,_⟩=>aL.of (s4 _ _ hm3 ?_)) ?_ ?_
   ·obtain⟨as,hl3,_⟩:=row
    exact fun z=>by rw[<-z]at hl3;rw[hlm]at hl3;cases hl3
   ·rintro j y σ H4 hj ⟨v,rfl,s4,row4⟩
    obtain⟨b,hb,rfl⟩:=aY hj
    have et:(ms.take (j+1))=ms.take j++[b]:=by rw[Iv,hb,ID]
    have le:((ms.take j).filter fun b=>decide (a<b)).length<=(dy st.circ a).length:=by
     rw[mE,Hs];exact (List.Sublist.filter _ (JL j ms)).length_le
    refine rM ⟨_,rfl,_,rfl,_,_,rfl,rfl,_,rfl,?_⟩
    by_cases hab:a<b
    ·rw[HY hab]
     obtain⟨as,hl4,hp4⟩:=row4;have lq:=Ic hp4;refine bZ ⟨_,rfl,_,rfl,two,fun t ht=>⟨_,by rw[ae (aj hl4 ht)];exact hl4,?_,?_⟩⟩
     ·rw[Hs,lq,Ia,Hs]
      exact aG (by omega)
     ·have tl:t≠l:=Ik (aj hl4 ht)
      refine⟨_,rfl,fun x o e n=>by rw[ae n,ae (aj (s4 x o e n) ht)];exact s4 x o e n,as++[t],by rw[ac,Ii];rfl,?_⟩;rw[et,Je,Ii,<-JD];refine bx (Paired.mapP hp4 fun x q e=>?_) ?_
      ·rw[ae (bY e hl4 (by intro z;cases z)),ae (aj e ht)];exact e
      ·rw[List.filter_cons_of_pos (by simpa using hab)]
       exact .cons (by rw[ae tl,ac]) .nil
    ·rw[Ih hab]
     refine aR ⟨_,rfl,s4,?_⟩;rw[et,Je,List.filter_cons_of_neg (by simpa using hab)];simpa using row4
   ·rintro σ H4 ⟨v,rfl,s4,row4⟩
    rw[Hs,Ir]at row4;refine⟨_,_,rfl,fun x o e=>s4 x o ((s2.trans s3) x o e) (aj e hl),?_⟩;rw[ec,mE];exact row4
  ·rintro σ H2 ⟨u,v,rfl,s2,row⟩
   rw[Hs,Ir]at row;refine k l H2 (s1.free hl) (s1.trans s2) ?_;unfold dE;rw[hks];exact row
theorem sj (F:dv K "story" "Hall.story" gQ f fd) : aS P w K mg base cJ 1 f fd ["self"] (pO c.C):=by
 refine F.ok sL (fun vs H Q E h=>?_) (fun cdv A outer s H vs Q E hr h=>?_)
 ·obtain⟨p,B,st,rfl,_⟩:=h
  rfl
 ·obtain⟨p,B,st,rfl,S,k⟩:=h
  refine⟨_,ag (ar (dS e8 (by rfl) T.list Jr (aq (cC (pv 0) rfl) aI))),?_⟩;obtain⟨as,hd,hp⟩:=S.d;refine⟨_,rfl,p,c.C,B.dx,_,_,rfl,S.ob,U.cl,U.nD,A3 _,B.d,_,rfl,.inl (aL.of hd),fun l hl=>?_⟩;exact k l _ hl (ah hl) ⟨as,ac,Paired.mapP hp fun b y e=>(ah hl) _ _ e⟩
theorem qP (F:dv K "moment" "Hall.moment" fX f fd) : aS P w K mg base cJ 1 f fd ["self"] (mx c.C):=by
 refine F.ok rp (fun vs H Q E h=>?_) (fun cdv A outer s H vs Q E hr h=>?_)
 ·obtain⟨p,B,st,rfl,_⟩:=h
  rfl
 ·obtain⟨p,B,st,rfl,S,k⟩:=h
  refine⟨_,ag (ar (aU bR (by rfl) T.len Jk (aq (cC (pv 0) rfl) aI))),?_⟩;obtain⟨as,hd,hp⟩:=S.d;refine⟨_,rfl,p,c.C,B.dx,_,_,rfl,S.ob,U.cl,U.nD,A3 _,B.d,_,rfl,.inl (aL.of hd),?_⟩;rw[Hs,Ic hp];exact k
theorem qS (F:dv K "_law_cell_at" "_law_cell_at" fZ f fd) : aS P w K mg base cJ 1 f fd ["_law_script","_law_k"] (rE K):=by
 refine F.ok rA (fun vs H Q E h=>?_) (fun cdv A outer s H vs Q E hr h=>?_)
 ·obtain⟨a,ns,k,rfl,_⟩:=h
  rfl
 ·obtain⟨a,ns,i,rfl,hS,hi,k⟩:=h
  refine⟨_,af (bp (aF tZ (pv 1) (aU bR (by rfl) T.len Jk (aq (pv 0) aI)) (aM _)) (ag (ar (bh ff (pv 0) (pv 1) (fun _ _=>rfl)))) aJ) (ag (ar am)),?_⟩;refine⟨_,rfl,_,rfl,a,_,rfl,.inl hS,_,_,rfl,rfl,_,rfl,?_⟩;unfold cX at k;rw[Hs]
  by_cases hc:i<(ns.length:Int)
  ·rw[Hw hc]at k
   rw[HY hc];refine bZ ⟨_,rfl,_,rfl,a,_,_,_,rfl,rfl,hS,?_,k⟩;have e:i=((i.toNat:Nat):Int):=(Int.toNat_of_nonneg hi).symm
   have hl:i.toNat<ns.length:=by omega
   rw[e];refine jR ?_;rw[List.getElem?_map,List.getD_eq_getElem?_getD,JM,List.getElem?_eq_getElem hl];rfl
  ·rw[Hu hc]at k
   rw[Ih hc];exact aR k
theorem u5 (F:dv K "_law_whole" "_law_whole" iU f fd) : aS P w K mg base cJ 1 f fd ["_law_found"] pQ:=by
 refine F.ok vp (fun vs H Q E h=>?_) (fun cdv A outer s H vs Q E hr h=>?_)
 ·obtain⟨i,rfl,_⟩:=h
  rfl
 ·obtain⟨i,rfl,k⟩:=h
  refine⟨_,ag (ar (BA (aU p8 (by rfl) T.isinstance PyProof.Rows.boot_isinstance (aq (pv 0) (aq (vc (v:=.ty "int") (by rfl) T.int PyProof.Rows.boot_int rfl) aI))) (yl (Em (aU p8 (by rfl) T.isinstance PyProof.Rows.boot_isinstance (aq (pv 0) (aq (vc (v:=.ty "bool") (by rfl) T.bool PyProof.Rows.boot_bool rfl) aI))))))),?_⟩;refine⟨_,rfl,_,_,_,true,rfl,j4.int i,rfl,_,rfl,bZ ?_⟩;exact⟨_,rfl,_,_,_,false,rfl,j4.int i,rfl,_,rfl,k⟩
theorem wY (F:dv K "_law_size" "_law_size" jN f fd) : aS P w K mg base cJ 1 f fd ["_law_cell"] rH:=by
 refine F.ok xk (fun vs H Q E h=>?_) (fun cdv A outer s H vs Q E hr h=>?_)
 ·obtain⟨c,rfl,_⟩:=h
  rfl
 ·obtain⟨c,rfl,k⟩:=h
  refine⟨_,af (bp (aF tZ (pv 0) am (aM _)) (ag (ar (oN jO (pv 0)))) aJ) (ag (ar (pv 0))),?_⟩;refine⟨_,rfl,_,_,rfl,rfl,_,rfl,?_⟩;unfold je at k
  by_cases hc:c<0
  ·rw[Hw hc]at k
   rw[HY hc];exact bZ ⟨_,rfl,_,rfl,k⟩
  ·rw[Hu hc]at k
   rw[Ih hc];exact aR ⟨_,rfl,k⟩
theorem uZ (F:dv K "_law_draws" "_law_draws" iR f fd)(dP:ay P w K mg base "_law_size" 1 ["_law_cell"] rH) : aS P w K mg base cJ 2 f fd ["_law_cell","_law_many","_law_base"] pL:=by
 refine F.ok bz (fun vs H Q E h=>?_) (fun cdv A outer s H vs Q E hr h=>?_)
 ·obtain⟨c,m,b,rfl,_⟩:=h
  rfl
 ·obtain⟨c,m,b,rfl,⟨m0,m1⟩,⟨b0,b1⟩,k⟩:=h
  refine⟨_,af (cZ (i:=3) bz.nd rfl (Or.inl rfl) (bo dP hr rfl (aq (pv 0) aI)))
   (af (cZ (i:=4) bz.nd rfl (Or.inl rfl) (eO aI))
   (af (bp (aF Fl (pv 3) (aV Bu am am) (aM _))
    (af (cZ (i:=3) bz.nd rfl (Or.inl rfl) (aV Ej (pv 3) (aV Bu am am)))
    (af (cZ (i:=5) bz.nd rfl (Or.inl rfl) (aV cj (pv 3) (aV iG (pv 1) am)))
    (af (cZ (i:=3) bz.nd rfl (Or.inl rfl) (aV fh (pv 3) (aV iG (pv 1) am)))
    (af (cY II rfl (nE rfl T.range (aq (pv 5) aI)) (gq (i:=6) bz.nd rfl (Or.inl rfl))
     (af (bd (gm Iq IE IF cm (pv 4) (aq (aV cj (pv 3) (pv 2)) aI)))
     (ag (cZ (i:=3) bz.nd rfl (Or.inl rfl) (aV fh (pv 3) (pv 2))))))
    (ag (ar (pv 4)))))))
    aJ)
   (af (cZ (i:=7) bz.nd rfl (Or.inl rfl) (aV iG (aV cj (pv 3) am) am))
   (af (cY II rfl (nE rfl T.range (aq (aV cj (pv 3) (aV iG (pv 1) am)) aI)) (gq (i:=6) bz.nd rfl (Or.inl rfl))
     (af (cZ (i:=7) bz.nd rfl (Or.inl rfl) (aV cj (aV qX (pv 7) am) am))
     (ag (bd (gm Iq IE IF cm (pv 4) (aq (aV cj (aV fh (aV cj (aV qX (pv 7) am) am) am) (pv 2)) aI))))))
   (ag (ar (pv 4))))))),?_⟩
  refine⟨_,rfl,_,rfl,by show 0<=sizeLine;exact Ip _,fun l hl=>?_⟩
  have big:(10:Int) ^ (18:Int).toNat=1000000000000000000:=by decide
  have room:∀ ds:List Int,(ds.length:Int)<=1000->(ds.map V.int).length<sizeLine:=fun ds h=>by rw[Hs];exact aG (by omega)
  have app:∀ (ds:List Int)(z:Int),upd (upd H l (.lst (ds.map V.int))) l (.lst (ds.map V.int++[V.int z]))=upd H l (.lst ((ds++[z]).map V.int)):=fun ds z=>by rw[iW,Ii];rfl
  have inb:∀ (ds:List Int)(z:Int),(∀ d∈ds,0<=d/\d<b)->∀ d∈ds++[z%b],0<=d/\d<b:=fun ds z h d hd=>by
   rcases Ie.mp hd with hd | hd
   ·exact h d hd
   ·rw[HR.mp hd];exact⟨Jb _ (by omega),IS _ b0⟩
  refine⟨_,rfl,_,_,rfl,rfl,⟨by decide,by decide,by decide⟩,_,_,rfl,rfl,_,rfl,?_⟩;refine xV (fun _=>?_) (fun _=>?_)
  ·refine⟨_,rfl,_,_,rfl,rfl,⟨by decide,by decide,by decide⟩,_,_,rfl,rfl,?_⟩
   refine⟨_,rfl,_,rfl,_,_,rfl,rfl,_,_,rfl,rfl,by show (0:Int)<m+1;omega,?_⟩;refine⟨_,rfl,_,rfl,_,_,rfl,rfl,_,_,rfl,rfl,⟨by show (0:Int)<m+1;omega,by show m+1<1073741824;omega⟩,?_⟩;have cb:=IS (je c-(10:Int) ^ (18:Int).toNat) (show 0<m+1 by omega);have cn:=Jb (je c-(10:Int) ^ (18:Int).toNat) (show m+1≠0 by omega)
   refine⟨_,rfl,_,rfl,by omega,by omega,mR (n:=((je c-(10:Int) ^ (18:Int).toNat)%(m+1)).toNat) (fun i σ H2=>∃ (z:Int)(v:Option V)(ds:List Int),σ=[some (.int c),some (.int m),some (.int b),some (.int z),some (.ref l),some (.int ((je c-(10:Int) ^ (18:Int).toNat)%(m+1))),v,none]/\H2=upd H l (.lst (ds.map V.int))/\ds.length=i/\∀ d∈ds,0<=d/\d<b)
    ⟨_,none,[],rfl,rfl,rfl,fun _ z=>nomatch z⟩ ?_ ?_⟩
   ·rintro i σ H2 hi ⟨z,v,ds,rfl,rfl,hlen,hds⟩
    refine⟨_,rfl,.inl ⟨rfl,_,aL.of ac⟩,_,rfl,_,rfl,_,_,rfl,rfl,b0,l,_,_,rfl,rfl,ac,room ds (by omega),?_⟩;refine⟨_,rfl,_,rfl,_,_,rfl,rfl,⟨b0,b1⟩,?_⟩;exact⟨_,_,ds++[z%b],rfl,app ds _,by rw[Ia,hlen];rfl,inb ds z hds⟩
   ·rintro σ H2 ⟨z,v,ds,rfl,rfl,hlen,hds⟩
    exact⟨_,rfl,k l ds hl hds (by omega)⟩
  ·refine⟨_,rfl,_,_,rfl,rfl,by show (0:Int)<2147483629;decide,_,_,rfl,rfl,?_⟩
   have cb:=IS (je c) (show 0<m+1 by omega);have cn:=Jb (je c) (show m+1≠0 by omega);refine⟨_,rfl,_,rfl,_,_,rfl,rfl,_,_,rfl,rfl,by show (0:Int)<m+1;omega,?_⟩
   refine⟨_,rfl,by omega,by omega,mR (n:=(je c%(m+1)).toNat) (fun i σ H2=>∃ (z:Int)(v:Option V)(ds:List Int),σ=[some (.int c),some (.int m),some (.int b),some (.int (je c)),some (.ref l),none,v,some (.int z)]/\H2=upd H l (.lst (ds.map V.int))/\ds.length=i/\∀ d∈ds,0<=d/\d<b)
    ⟨_,none,[],rfl,rfl,rfl,fun _ z=>nomatch z⟩ ?_ ?_⟩
   ·rintro i σ H2 hi ⟨z,v,ds,rfl,rfl,hlen,hds⟩
    refine⟨_,rfl,_,_,rfl,rfl,.inr ⟨by decide,by decide⟩,_,_,rfl,rfl,by show (0:Int)<2147483647;decide,?_⟩;refine⟨_,rfl,.inl ⟨rfl,_,aL.of ac⟩,_,rfl,_,_,rfl,rfl,.inr ⟨by decide,by decide⟩,_,_,rfl,rfl,by show (0:Int)<998244353;decide,_,_,rfl,rfl,⟨by decide,by decide⟩,_,rfl,_,_,rfl,rfl,b0,l,_,_,rfl,rfl,ac,room ds (by omega),?_⟩;exact⟨_,_,ds++[_],rfl,app ds _,by rw[Ia,hlen];rfl,inb ds _ hds⟩
   ·rintro σ H2 ⟨z,v,ds,rfl,rfl,hlen,hds⟩
    exact⟨_,rfl,k l ds hl hds (by omega)⟩
theorem lQ (F:dv K "_law_draws_from" "_law_draws_from" dN f fd)(jk:ay P w K mg base "_law_draws" 2 ["_law_cell","_law_many","_law_base"] pL) : aS P w K mg base cJ 3 f fd ["_law_script","_law_start","_law_most","_law_base"] (rF K):=by
 refine F.ok cV (fun vs H Q E h=>?_) (fun cdv A outer s H vs Q E hr h=>?_)
 ·obtain⟨a,ns,st,m,b,rfl,_⟩:=h
  rfl
 ·obtain⟨a,ns,st,m,b,rfl,hS,⟨s0,s1⟩,⟨m0,m1⟩,⟨b0,b1⟩,k⟩:=h
  refine⟨_,af (cZ (i:=4) cV.nd rfl (Or.inl rfl) (eO aI))
   (af (cY II rfl (bq (jG pG (pv 0) (jW (pv 1)) (jW am))) (gq (i:=5) cV.nd rfl (Or.inl rfl))
    (ag (cY II rfl (bq (bo jk hr rfl (aq (pv 5) (aq am (aq (pv 3) aI))))) (gq (i:=6) cV.nd rfl (Or.inl rfl))
     (ag (bp (aF tZ (aU bR (by rfl) T.len Jk (aq (pv 4) aI)) (pv 2) (aM _))
      (ag (bd (gm Iq IE IF cm (pv 4) (aq (pv 6) aI)))) aJ)))))
   (ag (ar (pv 4)))),?_⟩
  refine⟨by show 0<=sizeLine;exact Ip _,fun l hl=>?_⟩;have hS':aL K (upd H l (.lst [])) a (ns.map V.int):=(ah hl).seq hS;refine⟨_,rfl,_,rfl,_,rfl,_,rfl,a,_,rfl,hS',fun q hq=>?_⟩
  have hlq:l≠q:=fun e=>by rw[<-e,ac]at hq;cases hq
  have hHq:H q=none:=by rw[ae (Ik hlq)]at hq;exact hq
  obtain⟨zs,hzs⟩:∃ zs:List Int,iA (ns.map V.int) (some st) (some 63)=zs.map V.int:=⟨(ns.drop (HT.sIx ns.length 0 (some st))).take (HT.sIx ns.length ns.length (some 63)-HT.sIx ns.length 0 (some st)),by unfold iA;rw[Hs,List.map_take,List.map_drop]⟩;rw[hzs]
  refine⟨q,rfl,⟨_,aL.of ac⟩,bj (K:=K) (a:=q) (xs:=zs.map V.int) (fun i σ H2=>∃ (v u:Option V)(ds:List Int),σ=[some (.ref a),some (.int st),some (.int m),some (.int b),some (.ref l),v,u]/\aB H H2/\H2 q=some (.lst (zs.map V.int))/\H2 l=some (.lst (ds.map V.int))/\(∀ d∈ds,0<=d/\d<b)/\(ds.length:Int)<=m)
   ⟨none,none,[],rfl,aZ (ah hl) hHq,ac,by rw[ae hlq,ac];rfl,(fun _ z=>nomatch z),by simpa using m0⟩ (fun i σ H2 _ ⟨_,_,_,_,_,h,_⟩=>aL.of h) ?_ ?_⟩
  ·rintro i y σ H2 hi ⟨v,u,ds,rfl,s2,hq2,hl2,hds,hlen⟩
   obtain⟨z,_,rfl⟩:=aY hi;refine⟨_,rfl,_,rfl,z,24,b,rfl,⟨by decide,by decide⟩,⟨b0,b1⟩,fun r es hr2 hes hel=>?_⟩;have hrq:q≠r:=aj hq2 hr2;have hrl:l≠r:=aj hl2 hr2
   refine⟨r,rfl,⟨_,aL.of ac⟩,bj (K:=K) (a:=r) (xs:=es.map V.int) (fun i σ H3=>∃ (u:Option V)(ds:List Int),σ=[some (.ref a),some (.int st),some (.int m),some (.int b),some (.ref l),some (.int z),u]/\aB H H3/\H3 q=some (.lst (zs.map V.int))/\H3 r=some (.lst (es.map V.int))/\H3 l=some (.lst (ds.map V.int))/\(∀ d∈ds,0<=d/\d<b)/\(ds.length:Int)<=m)
    ⟨u,ds,rfl,aZ s2 (s2.free hr2),by rw[ae hrq];exact hq2,ac,by rw[ae hrl];exact hl2,hds,hlen⟩ (fun i σ H2 _ ⟨_,_,_,_,_,h,_⟩=>aL.of h) ?_ ?_⟩
   ·rintro i y σ H3 hi ⟨u,ds,rfl,s3,hq3,hr3,hl3,hds,hlen⟩
    obtain⟨d,hd,rfl⟩:=aY hi;refine⟨_,rfl,l,_,rfl,.inl (aL.of hl3),_,rfl,_,_,rfl,rfl,_,rfl,?_⟩;rw[Hs];refine xV (fun hc=>?_) (fun _=>?_)
    ·have hc:=IZ hc
     refine⟨_,rfl,.inl ⟨rfl,_,aL.of hl3⟩,_,rfl,l,_,_,rfl,rfl,hl3,by rw[Hs];exact aG (by omega),?_⟩;refine⟨_,ds++[d],rfl,aZ s3 hl,by rw[ae (Ik hlq)];exact hq3,by rw[ae (Ik hrl)];exact hr3,by rw[ac,Ii];rfl,fun x hx=>?_,by rw[Ia];show ((ds.length+1:Nat):Int)<=m;omega⟩;rcases Ie.mp hx with hx | hx
     ·exact hds x hx
     ·rw[HR.mp hx];exact hes d (Hx hd)
    ·exact⟨_,ds,rfl,s3,hq3,hr3,hl3,hds,hlen⟩
   ·rintro σ H3 ⟨u,ds,rfl,s3,hq3,hr3,hl3,hds,hlen⟩
    exact⟨_,_,ds,rfl,s3,hq3,hl3,hds,hlen⟩
  ·rintro σ H2 ⟨v,u,ds,rfl,s2,hq2,hl2,hds,hlen⟩
   exact⟨_,rfl,k l H2 ds hl s2 hl2 hds hlen⟩
theorem u0 (F:dv K "_law_guest" "_law_guest" iS f fd)(dP:ay P w K mg base "_law_size" 1 ["_law_cell"] rH) : aS P w K mg base cJ 2 f fd ["_law_k","_law_cell"] jY:=by
 refine F.ok fm (fun vs H Q E h=>?_) (fun cdv A outer s H vs Q E hr h=>?_)
 ·obtain⟨k,c,rfl,_⟩:=h
  rfl
 ·obtain⟨i,c,rfl,⟨i0,i1⟩,k⟩:=h
  refine⟨_,af (cZ (i:=2) fm.nd rfl (Or.inl rfl) (bo dP hr rfl (aq (pv 1) aI)))
   (af (cZ (i:=3) fm.nd rfl (Or.inl rfl) (aV iG am (aV cj (aV qX (pv 2) am) am)))
   (af (cZ (i:=4) fm.nd rfl (Or.inl rfl) (aV cj (aV iG (aV qX (pv 0) (pv 3)) (aV Br (pv 2) am)) am))
   (af (bp (aF eD (aV cj (pv 2) am) am (aM _)) (ag (ar (aV iG (pv 4) am))) aJ)
   (ag (ar (pv 4)))))),?_⟩
  refine⟨_,rfl,_,rfl,?_⟩;refine⟨_,rfl,_,_,rfl,rfl,.inr ⟨by decide,by decide⟩,_,_,rfl,rfl,by show (0:Int)<2147483646;decide,_,_,rfl,rfl,?_⟩;refine⟨_,rfl,_,rfl,_,_,rfl,rfl,.inl ⟨by show (-(2 ^ 64):Int)<i;omega,by show i<(2 ^ 64:Int);omega⟩,_,rfl,_,_,rfl,rfl,⟨by decide,by decide⟩,_,_,rfl,rfl,_,_,rfl,rfl,by show (0:Int)<2147483647;decide,?_⟩;refine⟨_,rfl,_,_,rfl,rfl,by show (0:Int)<5;decide,rfl,_,rfl,?_⟩;unfold wv at k;dsimp only at k
  by_cases hc:je c%5=4
  ·rw[Hw hc]at k
   rw[HY (show V.int (je c%5)=V.int 4 by rw[hc])];exact bZ ⟨_,rfl,_,_,rfl,rfl,k⟩
  ·rw[Hu hc]at k
   rw[Ih (show ¬ V.int (je c%5)=V.int 4 from fun z=>hc (by injection z))];exact aR ⟨_,rfl,k⟩
theorem yj (F:dv K "_law_key" "_law_key" kQ f fd) : aS P w K mg base cJ 1 f fd ["_law_one","_law_other"] xm:=by
 refine F.ok yt (fun vs H Q E h=>?_) (fun cdv A outer s H vs Q E hr h=>?_)
 ·obtain⟨a,b,rfl,_⟩:=h
  rfl
 ·obtain⟨a,b,rfl,k⟩:=h
  refine⟨_,af (bp (aF tZ (pv 1) (pv 0) (aM _)) (ag (ar (bS (fF (pv 1) (pv 0))))) (aJ)) (
   ag (ar (bS (fF (pv 0) (pv 1))))),?_⟩
  refine⟨_,rfl,_,rfl,_,_,rfl,rfl,_,rfl,?_⟩;unfold fg at k
  by_cases hc:b<a
  ·rw[Hw hc]at k
   rw[HY hc];exact bZ ⟨_,rfl,_,rfl,by show 2<=sizeLine;decide,k⟩
  ·rw[Hu hc]at k
   rw[Ih hc];exact aR ⟨_,rfl,_,rfl,by show 2<=sizeLine;decide,k⟩
theorem yi (F:dv K "_law_due" "_law_due" kP f fd)(fD:ay P w K mg base "_law_key" 1 ["_law_one","_law_other"] xm) : aS P w K mg base cJ 2 f fd ["_law_worn","_law_met","_law_deed_here"] zi:=by
 refine F.ok rB (fun vs H Q E h=>?_) (fun cdv A outer s H vs Q E hr h=>?_)
 ·obtain⟨w,m,t,wl,ml,d,rfl,_⟩:=h
  rfl
 ·obtain⟨w,m,t,wl,ml,d,rfl,hw,hm,ht0,k⟩:=h
  have hu:=cr hr
  have ht:H t=some (.tup (dc d)):=by rw[<-pp];exact ht0
  have gw:∀ (H2:Hp)(x:Int),aB H H2->bM H2 w (.int x) ((look wl x).map V.int):=fun H2 x s2=>by rw[<-bT];exact bM.k (k:=Sum.inl x) (s2 _ _ hw)
  have two:(2:Nat)<=sizeLine:=by decide
  refine⟨_,af (cY II rfl (Er (jG EA (pv 2) (jW (am)) pF)) (j7 3 rB.nd) (ag (bp (PW.pt (gL (aF jc (bh bi (pv 2) (am) (fun _ _=>rfl)) (bu) (aM _)) (gu (eQ (fG hu (pv 3) (pv 0)))))) (ag (ar (bS (fF (bu) (pv 3))))) (aJ)))) (
   af (bp (PW.pt (gL (aF eD (bh bi (pv 2) (am) (fun _ _=>rfl)) (bu) (aM _)) (gu (eQ (iH hu (bh bi (pv 2) (am) (fun _ _=>rfl)) (pv 0)))))) (ag (ar (bS (fF (bu) (kJ))))) (aJ)) (
   af (bp (PW.pt (gL (aF eD (bh bi (pv 2) (am) (fun _ _=>rfl)) (bu) (aM _)) (gu (aF jc (cF hu (pv 0) (bh bi (pv 2) (am) (fun _ _=>rfl)) (fun _ _=>rfl)) (bh bi (pv 2) (am) (fun _ _=>rfl)) (aM _))))) (ag (ar (bS (fF (bu) (kJ))))) (aJ)) (
   af (bp (PW.pt (gL (aF eD (bh bi (pv 2) (am) (fun _ _=>rfl)) (bu) (aM _)) (gu (aF eD (bh bi (pv 2) (am) (fun _ _=>rfl)) (bh bi (pv 2) (am) (fun _ _=>rfl)) (aM _))))) (ag (ar (bS (fF (bu) (kJ))))) (aJ)) (
   af (bp (PW.pt (gL (aF eD (bh bi (pv 2) (am) (fun _ _=>rfl)) (bu) (aM _)) (gu (eQ (iH hu (bo fD hr.m rfl (fF (bh bi (pv 2) (am) (fun _ _=>rfl)) (bh bi (pv 2) (am) (fun _ _=>rfl)))) (pv 1)))))) (ag (ar (bS (fF (bu) (kJ))))) (aJ)) (
   ag (ar (bS (fF (bu) (kJ))))))))),?_⟩
  refine⟨_,rfl,_,rfl,t,_,rfl,dC.of ht,CB d,fun q hq=>?_⟩;have s1:aB H (upd H q (.tup (iA (dc d) (some 1) none))):=ah hq
  have hq1:upd H q (.tup (iA (dc d) (some 1) none)) q=some (.tup ((names d).map V.int)):=by rw[ac,AO]
  generalize upd H q (.tup (iA (dc d) (some 1) none))=H1 at s1 hq1
  refine⟨q,rfl,⟨_,dC.of hq1⟩,CM (K:=K) (a:=q) (xs:=(names d).map V.int) (fun i σ H2=>∃ v:Option V,σ=[some (.ref w),some (.ref m),some (.ref t),v]/\H2=H1/\(dO d≠"come"->∀ y∈(names d).take i,(look wl y).isSome=true))
   ⟨none,rfl,rfl,fun _ y hy=>by simp at hy⟩ (fun i σ H2 _ ⟨_,_,e,_⟩=>by rw[e];exact dC.of hq1) ?_ ?_⟩
  ·rintro i y σ H2 hi ⟨v,rfl,rfl,hp⟩
   obtain⟨x,hx,rfl⟩:=aY hi;refine⟨_,rfl,t,_,_,_,rfl,rfl,dC.of (s1 _ _ ht),jR (j:=0) rfl,rfl,_,rfl,?_⟩
   have nxt:(dO d≠"come"->(look wl x).isSome=true)->(dO d≠"come"->∀ y∈(names d).take (i+1),(look wl y).isSome=true):=fun h hc y hy=>by
    rw[nV hx]at hy;rcases Ie.mp hy with z | z
    ·exact hp hc y z
    ·rw[HR.mp z];exact h hc
   by_cases hc:dO d="come"
   ·rw[HY (by rw[hc])]
    exact aR (aR ⟨_,rfl,rfl,nxt fun z=>absurd hc z⟩)
   ·rw[Ih (fun z=>hc (V.str.inj z))]
    refine bZ ⟨_,rfl,_,rfl,w,_,rfl,gw _ x s1,_,rfl,?_⟩
    cases e:look wl x with
    | none =>
     refine bZ ⟨_,rfl,two,fun r hr2=>?_⟩;refine k r _ (s1.free hr2) (s1.trans (ah hr2)) ?_;rw[ac,A8 hc (hp hc) hx e];rfl
    | some z=>exact aR ⟨_,rfl,rfl,nxt fun _=>by rw[e];rfl⟩
  ·rintro σ H2 ⟨v,rfl,rfl,hp⟩
   have fin:∀ (o:Cp)(H3:Hp)(r:Addr),b9 wl (qC ml) d=o->aB H H3->H3 r=none->Q (.ref r) (upd H3 r (.tup (Ek o))):=fun o H3 r e s3 h3=>k r _ (s3.free h3) (s3.trans (ah h3)) (by rw[ac,e]);rw[Hs,Ir]at hp;have T0:dC K H2 t (dc d):=dC.of (s1 _ _ ht)
   cases d with
   | come g =>
    refine⟨_,rfl,t,_,_,_,rfl,rfl,T0,rfl,rfl,_,rfl,?_⟩;rw[show decide (V.str (dO (.come g))=V.str "come")=true from cc];refine bZ ⟨_,rfl,t,_,_,_,rfl,rfl,T0,rfl,_,rfl,w,_,rfl,gw _ g s1,_,rfl,?_⟩
    cases e:look wl g with
    | some z=>exact bZ ⟨two,fun r h3=>fin .already _ r (by simp[b9,e]) s1 h3⟩
    | none =>
     refine aR ⟨_,rfl,t,_,_,_,rfl,rfl,T0,rfl,rfl,_,rfl,?_⟩;rw[show decide (V.str (dO (.come g))=V.str "go")=false from cg];refine aR (aR ⟨_,rfl,t,_,_,_,rfl,rfl,T0,rfl,rfl,_,rfl,?_⟩);rw[show decide (V.str (dO (.come g))=V.str "exchange")=false from ce];refine aR (aR ⟨_,rfl,t,_,_,_,rfl,rfl,T0,rfl,rfl,_,rfl,?_⟩);rw[show decide (V.str (dO (.come g))=V.str "exchange")=false from ce];exact aR (aR ⟨two,fun r h3=>fin .done _ r (by simp[b9,e]) s1 h3⟩)
   | go g =>
    have hg:=hp (by show ("go" : Str)≠"come";decide +kernel) g (by simp[names]);obtain⟨z,e⟩:=IJ.mp hg;refine⟨_,rfl,t,_,_,_,rfl,rfl,T0,rfl,rfl,_,rfl,?_⟩;rw[show decide (V.str (dO (.go g))=V.str "come")=false from gc];refine aR (aR ⟨_,rfl,t,_,_,_,rfl,rfl,T0,rfl,rfl,_,rfl,?_⟩);rw[show decide (V.str (dO (.go g))=V.str "go")=true from gg];refine bZ ⟨_,rfl,_,rfl,t,_,_,_,rfl,rfl,T0,rfl,w,_,rfl,(by have:=gw H2 g s1;rw[e]at this;exact this),_,rfl,t,_,_,_,rfl,rfl,T0,rfl,rfl,_,rfl,?_⟩
    by_cases hz:z=g
    ·rw[HY (by rw[hz])]
     refine aR ⟨_,rfl,t,_,_,_,rfl,rfl,T0,rfl,rfl,_,rfl,?_⟩;rw[show decide (V.str (dO (.go g))=V.str "exchange")=false from ge];refine aR (aR ⟨_,rfl,t,_,_,_,rfl,rfl,T0,rfl,rfl,_,rfl,?_⟩);rw[show decide (V.str (dO (.go g))=V.str "exchange")=false from ge];exact aR (aR ⟨two,fun r h3=>fin .done _ r (by simp[b9,e,hz]) s1 h3⟩)
    ·rw[Ih (fun q=>hz (V.int.inj q))]
     exact bZ ⟨two,fun r h3=>fin .masked _ r (by simp[b9,e,hz]) s1 h3⟩
   | exch a b =>
    have ha:=hp (by show ("exchange" : Str)≠"come";decide +kernel) a (by simp[names]);have hb:=hp (by show ("exchange" : Str)≠"come";decide +kernel) b (by simp[names]);obtain⟨za,ea⟩:=IJ.mp ha;obtain⟨zb,eb⟩:=IJ.mp hb;refine⟨_,rfl,t,_,_,_,rfl,rfl,T0,rfl,rfl,_,rfl,?_⟩;rw[show decide (V.str (dO (.exch a b))=V.str "come")=false from ec];refine aR (aR ⟨_,rfl,t,_,_,_,rfl,rfl,T0,rfl,rfl,_,rfl,?_⟩);rw[show decide (V.str (dO (.exch a b))=V.str "go")=false from eg];refine aR (aR ⟨_,rfl,t,_,_,_,rfl,rfl,T0,rfl,rfl,_,rfl,?_⟩);rw[show decide (V.str (dO (.exch a b))=V.str "exchange")=true from ee];refine bZ ⟨_,rfl,t,_,_,_,rfl,rfl,T0,rfl,_,rfl,t,_,_,_,rfl,rfl,T0,rfl,rfl,_,rfl,?_⟩
    by_cases hab:a=b
    ·rw[HY (by rw[hab])]
     exact bZ ⟨two,fun r h3=>fin .same _ r (by simp[b9,ea,eb,hab]) s1 h3⟩
    ·rw[Ih (fun q=>hab (V.int.inj q))]
     refine aR ⟨_,rfl,t,_,_,_,rfl,rfl,T0,rfl,rfl,_,rfl,?_⟩;rw[show decide (V.str (dO (.exch a b))=V.str "exchange")=true from ee];refine bZ ⟨_,rfl,t,_,_,_,rfl,rfl,T0,rfl,_,rfl,t,_,_,_,rfl,rfl,T0,rfl,a,b,rfl,fun kt hk=>?_⟩;have s2:=s1.trans (ah (o:=.tup [.int (fg a b).1,.int (fg a b).2]) hk);refine⟨_,rfl,m,_,rfl,bM.t (k:=[Sum.inl (fg a b).1,Sum.inl (fg a b).2]) (s2 _ _ hm) ac,_,rfl,?_⟩;rw[yZ]
     by_cases hmt:fg a b∈ml
     ·rw[HY hmt]
      exact bZ ⟨two,fun r h3=>fin .met _ r (by simp[b9,ea,eb,hab,qC,hmt]) s2 h3⟩
     ·rw[Ih hmt]
      exact aR ⟨two,fun r h3=>fin .done _ r (by simp[b9,ea,eb,hab,qC,hmt]) s2 h3⟩
theorem uW (F:dv K "_law_after" "_law_after" iP f fd)(fD:ay P w K mg base "_law_key" 1 ["_law_one","_law_other"] xm) : aS P w K mg base cJ 2 f fd ["_law_worn","_law_met","_law_deed_here"] pI:=by
 refine F.ok mh (fun vs H Q E h=>?_) (fun cdv A outer s H vs Q E hr h=>?_)
 ·obtain⟨w,m,t,wl,ml,d,rfl,_⟩:=h
  rfl
 ·obtain⟨w,m,t,wl,ml,d,rfl,hw,hm,ht0,l1,l2,hj,k⟩:=h
  have hu:=cr hr
  have ht:H t=some (.tup (dc d)):=by rw[<-pp];exact ht0
  have T0:dC K H t (dc d):=dC.of ht;have nwt:t≠w:=bY ht hw (by intro z;cases z);have nwm:m≠w:=bY hm hw (by intro z;cases z);have ntm:t≠m:=bY ht hm (by intro z;cases z)
  have sz:∀ v:List (Int×Int),v.length<=2000->(dk v).length<sizeLine:=fun v h=>by rw[uJ];exact Js h (by decide)
  refine⟨_,ag (bp (aF eD (bh bi (pv 2) (am) (fun _ _=>rfl)) (bu) (aM _)) (ag (cR hu (pv 0) (bh bi (pv 2) (am) (fun _ _=>rfl)) (bh bi (pv 2) (am) (fun _ _=>rfl)) rfl)) (ag (bp (aF eD (bh bi (pv 2) (am) (fun _ _=>rfl)) (bu) (aM _)) (ag (bd (q8 (pv 0) (bh bi (pv 2) (am) (fun _ _=>rfl)) ⟨rfl,rfl,rfl,rfl⟩))) (af (bB 3 mh.nd (cF hu (pv 0) (bh bi (pv 2) (am) (fun _ _=>rfl)) (fun _ _=>rfl))) (
   af (cR hu (pv 0) (bh bi (pv 2) (am) (fun _ _=>rfl)) (cF hu (pv 0) (bh bi (pv 2) (am) (fun _ _=>rfl)) (fun _ _=>rfl)) rfl) (
   af (cR hu (pv 0) (bh bi (pv 2) (am) (fun _ _=>rfl)) (pv 3) rfl) (
   ag (cR hu (pv 1) (bo fD hr.m rfl (fF (bh bi (pv 2) (am) (fun _ _=>rfl)) (bh bi (pv 2) (am) (fun _ _=>rfl)))) (dm) rfl)))))))),?_⟩
  cases d with
  | come g =>
   refine⟨_,rfl,t,_,_,_,rfl,rfl,T0,rfl,rfl,_,rfl,?_⟩;rw[show decide (V.str (dO (.come g))=V.str "come")=true from cc];refine bZ ⟨_,rfl,t,_,_,_,rfl,rfl,T0,rfl,_,rfl,_,rfl,t,_,_,_,rfl,rfl,T0,rfl,w,_,rfl,gF.k (k:=Sum.inl g) hw (sz _ (by omega)),?_⟩;rw[dH]
   exact k _ ac (by rw[ae nwm];exact hm) fun b o e h1 _=>by rw[ae h1];exact e
  | go g =>
   refine⟨_,rfl,t,_,_,_,rfl,rfl,T0,rfl,rfl,_,rfl,?_⟩;rw[show decide (V.str (dO (.go g))=V.str "come")=false from gc];refine aR ⟨_,rfl,t,_,_,_,rfl,rfl,T0,rfl,rfl,_,rfl,?_⟩;rw[show decide (V.str (dO (.go g))=V.str "go")=true from gg]
   obtain⟨z,e⟩:∃ z,look wl g=some z:=by
    cases e:look wl g with
    | none=>simp[b9,e]at hj
    | some z=>exact⟨z,rfl⟩
   refine bZ ⟨_,rfl,w,rfl,.inl ⟨_,.inl hw⟩,_,rfl,t,_,_,_,rfl,rfl,T0,rfl,_,Sum.inl g,_,hw,rfl,by rw[bT,e];rfl,?_⟩;rw[qf]
   exact k _ ac (by rw[ae nwm];exact hm) fun b o e h1 _=>by rw[ae h1];exact e
  | exch a b =>
   refine⟨_,rfl,t,_,_,_,rfl,rfl,T0,rfl,rfl,_,rfl,?_⟩;rw[show decide (V.str (dO (.exch a b))=V.str "come")=false from ec];refine aR ⟨_,rfl,t,_,_,_,rfl,rfl,T0,rfl,rfl,_,rfl,?_⟩;rw[show decide (V.str (dO (.exch a b))=V.str "go")=false from eg]
   obtain⟨za,ea⟩:∃ z,look wl a=some z:=by
    cases e:look wl a with
    | none=>simp[b9,e]at hj
    | some z=>exact⟨z,rfl⟩
   obtain⟨zb,eb⟩:∃ z,look wl b=some z:=by
    cases e:look wl b with
    | none=>simp[b9,ea,e]at hj
    | some z=>exact⟨z,rfl⟩
   have ga:bM H w (.int a) (some (V.int za)):=by have:=bM.k (k:=Sum.inl a) hw;rw[bT,ea]at this;exact this
   have gb:bM H w (.int b) (some (V.int zb)):=by have:=bM.k (k:=Sum.inl b) hw;rw[bT,eb]at this;exact this
   refine aR ⟨_,rfl,_,rfl,t,_,_,_,rfl,rfl,T0,rfl,w,_,rfl,ga,?_⟩;refine⟨_,rfl,_,rfl,t,_,_,_,rfl,rfl,T0,rfl,w,_,rfl,gb,_,rfl,_,rfl,t,_,_,_,rfl,rfl,T0,rfl,w,_,rfl,gF.k (k:=Sum.inl a) hw (sz _ (by omega)),?_⟩;rw[dH];have lp:=iD wl a zb;have T1:dC K (upd H w (.dK (dk (put wl a zb)))) t (dc (.exch a b)):=dC.of (by rw[ae nwt];exact ht);refine⟨_,rfl,_,rfl,_,rfl,t,_,_,_,rfl,rfl,T1,rfl,w,_,rfl,gF.k (k:=Sum.inl b) ac (sz _ (by omega)),?_⟩;rw[dH,iW];have T2:dC K (upd H w (.dK (dk (put (put wl a zb) b za)))) t (dc (.exch a b)):=dC.of (by rw[ae nwt];exact ht);refine⟨_,rfl,_,rfl,t,_,_,_,rfl,rfl,T2,rfl,_,rfl,t,_,_,_,rfl,rfl,T2,rfl,a,b,rfl,fun kt hk=>?_⟩;have hkm:m≠kt:=aj (by rw[ae nwm];exact hm) hk;have hkw:w≠kt:=aj ac hk;refine⟨m,_,rfl,gF.t (k:=[Sum.inl (fg a b).1,Sum.inl (fg a b).2]) (by rw[ae hkm,ae nwm];exact hm) ac (by unfold jU;rw[Hs];exact Js l2 (by decide)),?_⟩;rw[yY]
   have wa:wr wl a=za:=by unfold wr;rw[ea];rfl
   have wb:wr wl b=zb:=by unfold wr;rw[eb];rfl
   refine k _ ?_ ac fun x o e h1 h2=>?_
   ·rw[ae (Ik nwm),ae hkw,ac]
    show some (HO.dK (dk (put (put wl a zb) b za)))=some (HO.dK (dk (put (put wl a (wr wl b)) b (wr wl a))))
    rw[wa,wb]
   ·have e':upd H w (.dK (dk (put (put wl a zb) b za))) x=some o:=by rw[ae h1];exact e
    rw[ae h2,ae (aj e' hk)];exact e'
theorem wX (F:dv K "_law_deed" "_law_deed" jM f fd)(bI:ay P w K mg base "_law_guest" 2 ["_law_k","_law_cell"] jY) : aS P w K mg base cJ 3 f fd ["_law_drawn","_law_many","_law_cell"] pK:=by
 refine F.ok oR (fun vs H Q E h=>?_) (fun cdv A outer s H vs Q E hr h=>?_)
 ·obtain⟨dr,m,n,rfl,_⟩:=h
  rfl
 ·obtain⟨dr,m,n,rfl,⟨d0,d1⟩,⟨m0,m1⟩,k⟩:=h
  refine⟨_,af (bB 3 oR.nd (bo bI hr.m rfl (fF (aV cj (aV fh (pv 0) (am)) (pv 1)) (pv 2)))) (
   af (bp (aF eD (aV cj (pv 0) (am)) (am) (aM _)) (ag (ar (bS (fF (bu) (pv 3))))) (aJ)) (
   af (bp (aF eD (aV cj (pv 0) (am)) (am) (aM _)) (ag (ar (bS (fF (bu) (pv 3))))) (aJ)) (
   ag (ar (bS (C9 (bu) (pv 3) (bo bI hr.m rfl (fF (aV cj (aV fh (pv 0) (aV qX (am) (pv 1))) (pv 1)) (pv 2))))))))),?_⟩
  have em:∀ z:Int,0<=z%m/\z%m<m:=fun z=>⟨Jb _ (by omega),IS _ (by omega)⟩;have a0:=em (dr/8);refine⟨_,rfl,_,_,rfl,rfl,⟨by decide,by decide⟩,_,rfl,_,_,rfl,rfl,by show (0:Int)<m;omega,_,rfl,_,_,rfl,⟨a0.1,by omega⟩,?_⟩;have g0:wv (dr/8%m) n∈ca 40 n:=xP ⟨a0.1,by omega⟩;refine⟨_,rfl,_,_,rfl,rfl,by show (0:Int)<8;decide,rfl,_,rfl,?_⟩;refine xV (fun _=>⟨_,rfl,by show 2<=sizeLine;decide,fun t ht=>k t (.come (wv (dr/8%m) n)) ht fun g hg=>by simp[names]at hg;rw[hg];exact g0⟩) (fun _=>?_);refine⟨_,rfl,_,_,rfl,rfl,by show (0:Int)<8;decide,rfl,_,rfl,?_⟩;refine xV (fun _=>⟨_,rfl,by show 2<=sizeLine;decide,fun t ht=>k t (.go (wv (dr/8%m) n)) ht fun g hg=>by simp[names]at hg;rw[hg];exact g0⟩) (fun _=>?_);have a1:=em (dr/(8*m));have g1:wv (dr/(8*m)%m) n∈ca 40 n:=xP ⟨a1.1,by omega⟩;refine⟨_,rfl,_,rfl,_,rfl,_,_,rfl,rfl,.inl ⟨by decide,by decide⟩,_,_,rfl,rfl,⟨by show (0:Int)<8*m;omega,by show 8*m<1073741824;omega⟩,_,rfl,_,_,rfl,rfl,by show (0:Int)<m;omega,_,rfl,_,_,rfl,⟨a1.1,by omega⟩,by show 3<=sizeLine;decide,fun t ht=>?_⟩
  exact k t (.exch (wv (dr/8%m) n) (wv (dr/(8*m)%m) n)) ht fun g hg=>by
   simp[names]at hg;rcases hg with rfl | rfl
   ·exact g0
   ·exact g1
theorem uX (F:dv K "_law_crowd" "_law_crowd" iQ f fd) : aS P w K mg base cJ 1 f fd ["_law_cell"] pJ:=by
 refine F.ok vn (fun vs H Q E h=>?_) (fun cdv A outer s H vs Q E hr h=>?_)
 ·obtain⟨n,rfl,_⟩:=h
  rfl
 ·obtain⟨n,rfl,k⟩:=h
  refine⟨_,af (bp (aF eD (aV cj (aV fh (pv 0) (am)) (am)) (am) (aM _)) (ag (ar (aV iG (am) (aV cj (aV fh (pv 0) (am)) (am))))) (aJ)) (
   ag (ar (aV iG (am) (aV cj (pv 0) (am))))),?_⟩
  refine⟨_,rfl,_,_,rfl,rfl,⟨by decide,by decide⟩,_,_,rfl,rfl,by show (0:Int)<8;decide,rfl,_,rfl,?_⟩;refine xV (fun _=>?_) (fun _=>?_)
  ·refine⟨_,rfl,_,_,rfl,rfl,⟨by decide,by decide⟩,_,_,rfl,rfl,by show (0:Int)<28;decide,_,_,rfl,rfl,k _ ?_⟩
   have:=IS (n/1408) (show (0:Int)<28 by decide);have:=Jb (n/1408) (show (28:Int)≠0 by decide);omega
  ·refine⟨_,rfl,_,_,rfl,rfl,by show (0:Int)<11;decide,_,_,rfl,rfl,k _ ?_⟩
   have:=IS n (show (0:Int)<11 by decide);have:=Jb n (show (11:Int)≠0 by decide);omega
theorem uY (F:dv K "_law_deeds" "_law_deeds" dM f fd)(bU:ay P w K mg base "_law_cell_at" 1 ["_law_script","_law_k"] (rE K))(ji:ay P w K mg base "_law_crowd" 1 ["_law_cell"] pJ)(bI:ay P w K mg base "_law_guest" 2 ["_law_k","_law_cell"] jY)(kB:ay P w K mg base "_law_deed" 3 ["_law_drawn","_law_many","_law_cell"] pK)(bC:ay P w K mg base "_law_draws_from" 3 ["_law_script","_law_start","_law_most","_law_base"] (rF K)) : aS P w K mg base cJ 4 f fd ["_law_script"] (mj K):=by
 refine F.ok dL (fun vs H Q E h=>?_) (fun cdv A outer s H vs Q E hr h=>?_)
 ·obtain⟨a,ns,rfl,_⟩:=h
  rfl
 ·obtain⟨a,ns,rfl,hS,k⟩:=h
  refine⟨_,af (bB 1 dL.nd (bo bU hr.m rfl (fF (pv 0) (am)))) (
   af (bB 2 dL.nd (bo ji hr.m rfl (eZ (bo bU hr.m rfl (fF (pv 0) (am)))))) (
   af (bB 3 dL.nd (aV cj (aV fh (bo bU hr.m rfl (fF (pv 0) (am))) (am)) (am))) (
   af (jX (ix:=4) (so:=ai dM) (N:=jA) (N':=["_law_k","_law_first","_law_cell"]) (src:=[none,some 3,some 1]) rfl rfl xH rfl (nE (by rfl) T.range (eZ (pv 2))) (fun cl C s2 H2 ex=>⟨j7 0 (show (["_law_k","_law_first","_law_cell"]:List Str).Nodup by decide +kernel),gr (PW.pt (oO (aF Bs (pv 1) (am) (aM _)) (kL (aF eD (aV cj (pv 0) (am)) (am) (aM _))))),bS (fF (bu) (bo bI hr.m rfl (fF (pv 0) (pv 2))))⟩) dL.nd rfl rfl) (
   ag (ar (aV Bq (pv 4) (gn (so:=ai dM) (N:=jA) (N':=["_law_drawn","_law_many","_law_cell"]) (src:=[none,some 2,some 1]) rfl rfl xH rfl (bq (bo bC hr.m rfl (aq (pv 0) (aq (am) (aq (am) (aq (am) aI)))))) (fun cl C s2 H2 ex=>⟨j7 0 (show (["_law_drawn","_law_many","_law_cell"]:List Str).Nodup by decide +kernel),fj,bo kB hr.m rfl (C9 (pv 0) (pv 1) (pv 2))⟩)))))))),?_⟩
  refine⟨_,rfl,a,ns,1,rfl,hS,by decide,?_⟩;generalize hcn:cX ns 1=cn at k ⊢;refine⟨_,rfl,a,ns,0,rfl,hS,by decide,_,rfl,fun m ⟨m0,m1⟩=>?_⟩;refine⟨_,rfl,a,ns,0,rfl,hS,by decide,_,_,rfl,rfl,⟨by decide,by decide⟩,_,_,rfl,rfl,by show (0:Int)<16;decide,?_⟩;refine⟨_,rfl,m,rfl,by omega,by omega,fun l hl=>?_⟩
  refine mR (n:=m.toNat) (fun i σ H2=>∃ (v:Option V)(ds:List aT),σ=[v,some (.int (cX ns 0/11%16)),some (.int cn)]/\aB H H2/\bN H2 l ds/\(∀ d∈ds,∀ g∈names d,g∈ca 40 cn)/\ds.length<=i/\ds.filter rT=[])
   ⟨none,[],rfl,ah hl,⟨[],ac,.nil⟩,(fun d hd=>nomatch hd),Hv _,rfl⟩ ?_ ?_
  ·rintro i σ H2 hi ⟨v,ds,rfl,s2,⟨as,hl2,hp2⟩,hn,hlen,hex⟩
   have hal:=Ic hp2
   have app:∀ t,H2 t=none->∃ (v:Option V)(ds:List aT),([some (.int (0+(i:Int))),some (.int (cX ns 0/11%16)),some (.int cn)]:St)=[v,some (.int (cX ns 0/11%16)),some (.int cn)]/\aB H (upd (upd H2 t (de (.come (wv (0+(i:Int)) cn)))) l (.lst (as.map V.ref++[.ref t])))/\bN (upd (upd H2 t (de (.come (wv (0+(i:Int)) cn)))) l (.lst (as.map V.ref++[.ref t]))) l ds/\(∀ d∈ds,∀ g∈names d,g∈ca 40 cn)/\ds.length<=i+1/\ds.filter rT=[]:=fun t ht=>by
    refine⟨_,ds++[.come (wv (0+(i:Int)) cn)],rfl,aZ (s2.trans (ah ht)) hl,qb hl2 hp2 ht _,fun d hd g hg=>?_,by rw[Ia];show ds.length+1<=i+1;omega,by rw[Je,hex];rfl⟩;rcases Ie.mp hd with z | z
    ·exact hn d z g hg
    ·rw[HR.mp z]at hg
     simp[names]at hg;rw[hg];exact xP ⟨by omega,by omega⟩
   refine rM ⟨_,rfl,_,_,rfl,rfl,_,rfl,xV (fun _=>bZ ?_) (fun _=>⟨_,rfl,_,_,rfl,rfl,by show (0:Int)<2;decide,rfl,_,rfl,xV (fun _=>?_) (fun _=>?_)⟩)⟩
   ·refine⟨_,rfl,_,rfl,_,_,rfl,⟨by omega,by omega⟩,by show 2<=sizeLine;decide,fun t ht=>⟨_,by rw[ae (aj hl2 ht)];exact hl2,by rw[Hs];exact aG (by omega),?_⟩⟩
    exact app t ht
   ·refine⟨_,rfl,_,rfl,_,_,rfl,⟨by omega,by omega⟩,by show 2<=sizeLine;decide,fun t ht=>⟨_,by rw[ae (aj hl2 ht)];exact hl2,by rw[Hs];exact aG (by omega),?_⟩⟩
    exact app t ht
   ·exact⟨_,ds,rfl,s2,⟨as,hl2,hp2⟩,hn,by omega,hex⟩
  ·rintro σ H2 ⟨v,ds,rfl,s2,d2,hn,hlen,hex⟩
   refine⟨_,rfl,_,rfl,a,ns,2,48,12800,rfl,s2.seq hS,⟨by decide,by decide⟩,⟨by decide,by decide⟩,⟨by decide,by decide⟩,fun q H3 es hq s3 hq3 hes hel=>?_⟩;refine⟨q,rfl,⟨_,aL.of hq3⟩,fun l2 hl2=>?_⟩;have d3:=bX (bX d2 s3) (ah (o:=.lst []) hl2);have nq:q≠l2:=aj hq3 hl2
   refine bj (K:=K) (a:=q) (xs:=es.map V.int) (fun i σ H4=>∃ (v:Option V)(fs:List aT),σ=[v,some (.int m),some (.int cn)]/\aB H3 H4/\bN H4 l2 fs/\(∀ d∈fs,∀ g∈names d,g∈ca 40 cn)/\fs.length=i)
    ⟨none,[],rfl,ah hl2,⟨[],ac,.nil⟩,(fun d hd=>nomatch hd),rfl⟩ (fun i σ H4 _ ⟨_,_,_,s4,_⟩=>aL.of (s4 _ _ hq3)) ?_ ?_
   ·rintro i y σ H4 hi ⟨v,fs,rfl,s4,⟨as,hl4,hp4⟩,hn4,hlen4⟩
    obtain⟨dr,hdr,rfl⟩:=aY hi;have hil:i<es.length:=(List.getElem?_eq_some_iff.mp hdr).1;have hb:=hes dr (Hx hdr);have hal:=Ic hp4;refine jZ ⟨_,rfl,_,rfl,_,rfl,dr,m,cn,rfl,⟨hb.1,by omega⟩,⟨m0,m1⟩,fun t d ht hnd=>⟨_,by rw[ae (aj hl4 ht)];exact hl4,by rw[Hs];exact aG (by omega),?_⟩⟩;refine⟨_,fs++[d],rfl,aZ (s4.trans (ah ht)) hl2,qb hl4 hp4 ht d,fun d' hd' g hg=>?_,by rw[Ia];show fs.length+1=i+1;omega⟩;rcases Ie.mp hd' with z | z
    ·exact hn4 d' z g hg
    ·rw[HR.mp z]at hg;exact hnd g hg
   ·rintro σ H4 ⟨v,fs,rfl,s4,⟨as4,hl4,hp4⟩,hn4,hlen4⟩
    rw[Hs]at hlen4;obtain⟨as2,hl2',hp2⟩:=bX (bX d2 s3) s4;have l1:=Ic hp2;have l3:=Ic hp4;refine⟨l,l2,_,_,rfl,rfl,hl2',hl4,by rw[Hs,Hs];exact Ju (aG (by omega)),fun p hp=>?_⟩;have s24:=(s2.trans s3).trans s4;refine k p _ (ds++fs) (s24.free hp) (s24.trans (ah hp)) ⟨as2++as4,by rw[ac,Ii],?_⟩ (fun d hd g hg=>?_) (by rw[Ia];omega) (by rw[Je,hex,List.nil_append];exact Ix (IV _ _) (by omega))
    ·exact bx (Paired.mapP hp2 fun b y e=>(ah hp) _ _ e) (Paired.mapP hp4 fun b y e=>(ah hp) _ _ e)
    ·rcases Ie.mp hd with z | z
     ·exact hn d z g hg
     ·exact hn4 d z g hg
theorem qT (F:dv K "_law_evening" "_law_evening" f6 f fd)(jj:ay P w K mg base "_law_deeds" 4 ["_law_script"] (mj K))(mK:ay P w K mg base "_law_due" 2 ["_law_worn","_law_met","_law_deed_here"] zi)(jh:ay P w K mg base "_law_after" 2 ["_law_worn","_law_met","_law_deed_here"] pI) : aS P w K mg base cJ 6 f fd ["_law_script"] (iK K):=by
 refine F.ok c6 (fun vs H Q E h=>?_) (fun cdv A outer s H vs Q E hr h=>?_)
 ·obtain⟨a,ns,rfl,_⟩:=h
  rfl
 ·obtain⟨a,ns,rfl,hS,k⟩:=h
  have hu:=cr hr;have nil0:(0:Nat)<=sizeLine:=Ip _
  have three:(3:Nat)<=sizeLine:=by decide
  refine⟨_,af (bB 1 c6.nd fQ) (
   af (bB 2 c6.nd xa) (
   af (bB 3 c6.nd (eO aI)) (
   af (cY II rfl (bq (bo jj hr.m rfl (eZ (pv 0)))) (j7 4 c6.nd) (ag (bp (aF eD (bh bi (bo mK hr.m rfl (C9 (pv 1) (pv 2) (pv 4))) (am) (fun _ _=>rfl)) (bu) (aM _)) (af (bd (bo jh hr.m rfl (C9 (pv 1) (pv 2) (pv 4)))) (
   ag (bd (gm Iq IE IF cm (pv 3) (eZ (pv 4)))))) (aJ)))) (
   ag (ar (bS (C9 (pv 1) (pv 2) (pv 3)))))))),?_⟩
  intro w hw;have sA:=ah (o:=.dK []) hw;have hw2:upd H w (.dK []) w=some (.dK (dk [])):=ac;generalize upd H w (.dK [])=H2 at hw2 sA ⊢;intro m hm;have sB:=ah (o:=.dT []) hm;have hm0:H m=none:=sA.free hm;have hm3:upd H2 m (.dT []) m=some (.dT (jU [])):=ac;have hw3:=sB _ _ hw2;generalize upd H2 m (.dT [])=H3 at hm3 hw3 sB ⊢;refine⟨nil0,fun ls hls=>?_⟩;have sC:=ah (o:=.lst []) hls;have s4:=(sA.trans sB).trans sC;have hs0:H ls=none:=(sA.trans sB).free hls;have M4:zB H (upd H3 ls (.lst [])) w m ls ⟨[],[],[],[]⟩ []:=⟨sC _ _ hw3,sC _ _ hm3,⟨[],ac,.nil⟩,hw,hm0,hs0⟩;generalize upd H3 ls (.lst [])=H4 at M4 s4 ⊢;refine⟨_,rfl,a,ns,rfl,s4.seq hS,fun lq H6 ds hlq s6 dlq hds hdl hxl=>?_⟩;have M6:=M4.on s6;have S6:=s4.trans s6;generalize hcn:cX ns 1=cn at hds k;have L40:(ca 40 cn).length=40:=tS 40 cn;obtain⟨qs,hq6,hqp6⟩:=id dlq;have hql:=Ic hqp6
  refine⟨lq,rfl,⟨_,aL.of hq6⟩,bj (K:=K) (a:=lq) (xs:=qs.map V.ref) (fun i σ HH=>∃ (es:List aT)(v4:Option V),σ=[some (.ref a),some (.ref w),some (.ref m),some (.ref ls),v4]/\aB H HH/\zB H HH w m ls (da es) (lL es)/\ij es/\es.Sublist (ds.take i) /\
    HH lq=some (.lst (qs.map V.ref))/\Paired (fun a x=>HH a=some (de x)) qs ds/\lq≠ls)
   ⟨[],none,rfl,S6,M6,wj,List.nil_sublist _,hq6,hqp6,?_⟩ (fun i σ HH _ ⟨_,_,_,_,_,_,_,h,_⟩=>aL.of h) ?_ ?_⟩
  ·intro z;obtain⟨as,h,_⟩:=M4.hs;rw[z,h]at hlq;cases hlq
  ·rintro i y σ HH hi ⟨es,v4,rfl,S,M,dn,sub,hq,hqp,lqs⟩
   obtain⟨t,ht,rfl⟩:=aY hi;have hil:i<qs.length:=(List.getElem?_eq_some_iff.mp ht).1;obtain⟨d,hd,hT⟩:=bg hqp ht;have nmD:=hds d (Hx hd);have smD:∀ g∈names d,g∈ca 40 cn/\cp g:=fun g hg=>⟨nmD g hg,gl (nmD g hg)⟩
   have nmE:∀ e∈es,∀ g∈names e,g∈ca 40 cn/\cp g:=fun e he g hg=>by have:=hds e (List.mem_of_mem_take (sub.mem he)) g hg;exact⟨this,gl this⟩
   have ev:=yn dn nmE es.length;rw[Ir]at ev;have esl:=sub.length_le;rw[Io]at esl;have ln:=yg ev.good ev.of;have lm:=ev.ml;have lf:=IV rT es;refine⟨_,rfl,_,rfl,_,rfl,w,m,t,(da es).worn,lL es,d,rfl,M.hw,M.hm,hT,fun r H1 hr1 s1 hrt=>?_⟩;rw[wx ev.al]at hrt;refine⟨r,_,_,_,rfl,rfl,dC.of hrt,jR (j:=0) (Gr _),rfl,_,rfl,?_⟩;rw[Ah];have M1:=M.on s1;have hT1:=s1 _ _ hT;have hq1:=s1 _ _ hq;have hqp1:Paired (fun a x=>H1 a=some (de x)) qs ds:=Paired.mapP hqp fun b y e=>s1 _ _ e
   have sub1:(es++[d]).Sublist (ds.take (i+1)):=by rw[Iv,hd,ID];exact sub.append (List.Sublist.refl _)
   have sub0:es.Sublist (ds.take (i+1)):=by rw[Iv];exact sub.trans (List.sublist_append_left _ _)
   by_cases hj:bw (da es) d=.done
   ·rw[HY hj]
    obtain⟨as,hl,hp⟩:=id M1.hs;have hal:=Ic hp;rw[kN]at hal;refine bZ ⟨_,rfl,_,rfl,_,rfl,w,m,t,(da es).worn,lL es,d,rfl,M1.hw,M1.hm,hT1,by omega,by omega,(wx ev.al d).trans hj,fun H3 h1 h2 k3=>?_⟩;obtain⟨M4,hl1⟩:=M1.done hj h1 h2 k3 hl hp hT1;rw[qL hj,qK hj]at M4;refine⟨_,rfl,.inl ⟨rfl,_,aL.of hl1⟩,_,rfl,ls,_,_,rfl,rfl,hl1,by rw[Hs];exact aG (by omega),?_⟩
    have kp:∀ b o,H1 b=some o->b≠w->b≠m->b≠ls->(upd H3 ls (.lst (as.map V.ref++[.ref t]))) b=some o:=fun b o e n1 n2 n3=>by rw[ae n3];exact k3 b o e n1 n2
    refine⟨_,_,rfl,fun b o e=>kp b o (s1 _ _ (S b o e)) (aj e M.w0) (aj e M.m0) (aj e M.s0),M4,uz dn hj,sub1,kp lq _ hq1 (bY hq1 M1.hw (by intro z;cases z)) (bY hq1 M1.hm (by intro z;cases z)) lqs,Paired.mapP hqp1 fun b y e=>?_,lqs⟩;obtain⟨xs,ex⟩:=dh y;rw[ex]at e ⊢;exact kp b _ e (bY e M1.hw (by intro z;cases z)) (bY e M1.hm (by intro z;cases z)) (bY e hl (by intro z;cases z))
   ·rw[Ih hj]
    exact aR ⟨_,_,rfl,S.trans s1,M1,dn,sub0,hq1,hqp1,lqs⟩
  ·rintro σ HH ⟨es,v4,rfl,S,M,dn,sub,hq,hqp,lqs⟩
   have sub2:=sub.trans (JL _ _);refine⟨_,rfl,_,rfl,_,rfl,three,fun t ht=>k t w m ls _ es (S.trans (ah ht)) ac (M.on (ah ht)) dn (fun e he g hg=>hds e (sub2.mem he) g hg) (Ix sub2.length_le hdl) (Ix (sub2.filter rT).length_le hxl)⟩
theorem Ad (F:dv K "_law_do" "_law_do" nN f fd)(jt:aK P w K mg base (iY P w) c.C "come" 2 ["self","guest"] (vA c))(mO:aK P w K mg base (iY P w) c.C "go" 4 ["self","guest"] (Dp c))(eI:aK P w K mg base (iY P w) c.C "exchange" 4 ["self","one","other"] (vB c)) : aS P w K mg base (iY P w) 5 f fd ["_law_hall","_law_deed_here"] (Do c):=by
 refine F.okX At (fun vs H Q E h=>?_) (fun cdv A outer s H vs Q E hr h=>?_)
 ·obtain⟨p,t,B,st,d,rfl,_⟩:=h
  rfl
 ·obtain⟨p,t,B,st,d,rfl,ht0,S,ft,hg,sm,k⟩:=h
  have ht:H t=some (.tup (dc d)):=by rw[<-pp];exact ht0
  have T0:dC K H t (dc d):=dC.of ht
  refine⟨_,af (bp (aF eD (bh bi (pv 1) (am) (fun _ _=>rfl)) (bu) (aM _)) (ag (ar (dG jt (pv 0) U.cl hr.m fi (eZ (bh bi (pv 1) (am) (fun _ _=>rfl)))))) (aJ)) (
   af (bp (aF eD (bh bi (pv 1) (am) (fun _ _=>rfl)) (bu) (aM _)) (ag (ar (dG mO (pv 0) U.cl hr.m fi (eZ (bh bi (pv 1) (am) (fun _ _=>rfl)))))) (aJ)) (
   ag (ar (dG eI (pv 0) U.cl hr.m fi (fF (bh bi (pv 1) (am) (fun _ _=>rfl)) (bh bi (pv 1) (am) (fun _ _=>rfl))))))),?_⟩
  have n1:=ko B (m:="come") (by decide +kernel) (by decide +kernel) (by decide +kernel) (by decide +kernel);have n2:=ko B (m:="go") (by decide +kernel) (by decide +kernel) (by decide +kernel) (by decide +kernel);have n3:=ko B (m:="exchange") (by decide +kernel) (by decide +kernel) (by decide +kernel) (by decide +kernel)
  cases d with
  | come g =>
   refine⟨_,rfl,t,_,_,_,rfl,rfl,T0,rfl,rfl,_,rfl,?_⟩;rw[show decide (V.str (dO (.come g))=V.str "come")=true from cc];exact bZ ⟨_,rfl,p,B.dx,_,rfl,S.ob,n1,_,rfl,t,_,_,_,rfl,rfl,T0,rfl,p,B,st,g,rfl,S,ft,sm g (by simp[names]),k⟩
  | go g =>
   refine⟨_,rfl,t,_,_,_,rfl,rfl,T0,rfl,rfl,_,rfl,?_⟩;rw[show decide (V.str (dO (.go g))=V.str "come")=false from gc];refine aR ⟨_,rfl,t,_,_,_,rfl,rfl,T0,rfl,rfl,_,rfl,?_⟩;rw[show decide (V.str (dO (.go g))=V.str "go")=true from gg];exact bZ ⟨_,rfl,p,B.dx,_,rfl,S.ob,n2,_,rfl,t,_,_,_,rfl,rfl,T0,rfl,p,B,st,g,rfl,S,ft,sm g (by simp[names]),(fun m hm=>⟨hg.sm g m hm,fun e=>by rw[e]at hm;rw[(hg.wh g g).mp hm];rfl⟩),k⟩
  | exch a b =>
   refine⟨_,rfl,t,_,_,_,rfl,rfl,T0,rfl,rfl,_,rfl,?_⟩;rw[show decide (V.str (dO (.exch a b))=V.str "come")=false from ec];refine aR ⟨_,rfl,t,_,_,_,rfl,rfl,T0,rfl,rfl,_,rfl,?_⟩;rw[show decide (V.str (dO (.exch a b))=V.str "go")=false from eg];exact aR ⟨_,rfl,p,B.dx,_,rfl,S.ob,n3,_,rfl,t,_,_,_,rfl,rfl,T0,rfl,_,rfl,t,_,_,_,rfl,rfl,T0,rfl,p,B,st,a,b,rfl,S,ft,sm a (by simp[names]),sm b (by simp[names]),k⟩
theorem qU (F:dv K "_law_hall_of" "_law_hall_of" f7 f fd)(MH:F4 P w K mg base c)(pT:XCallee P w K mg base "_law_do" 5 ["_law_hall","_law_deed_here"] (Do c)) : aS P w K mg base cJ 7 f fd ["_law_story"] (mr c):=by
 refine F.ok fS (fun vs H Q E h=>?_) (fun cdv A outer s H vs Q E hr h=>?_)
 ·obtain⟨l,ds,L,rfl,_⟩:=h
  rfl
 ·obtain⟨l,ds,L,rfl,dl,hdn,hdl,hL,hnm,k⟩:=h
  have hu:=cr hr
  refine⟨_,af (bB 1 fS.nd (Fo MH U hr.m rfl)) (
   af (cY II rfl (bq (pv 0)) (j7 2 fS.nd) (ag (bd (rh pT hr.m rfl qZ (fF (pv 1) (pv 2)))))) (
   ag (ar (pv 1)))),?_⟩
  intro x dx nx ndx nex;refine⟨x,dx,rfl,ac,fun B H1 S1 kp fr=>⟨rfl,?_⟩⟩
  have s0:aB H (upd (upd H dx (.own x)) x (.ins c.C dx [])):=fun b o e=>by rw[ae (aj e nx),ae (aj e ndx)];exact e
  have E1:Ev c H H1 x B ⟨[],[],[],[]⟩:=⟨fun b o e=>kp b o (s0 b o e) (aj e nx),S1,qt,fun b hb=>s0.free (fr b hb)⟩;obtain⟨qs,hq,hqp⟩:=id dl
  refine⟨_,rfl,l,rfl,⟨_,aL.of (E1.same _ _ hq)⟩,bj (K:=K) (a:=l) (xs:=qs.map V.ref) (fun i σ HH=>∃ (B:HA)(v:Option V),σ=[some (.ref l),some (.ref x),v]/\Ev c H HH x B (da (ds.take i))/\Of L (da (ds.take i))/\Sz i (da (ds.take i)))
   ⟨B,none,rfl,E1,of_empty,G6⟩ (fun i σ HH _ ⟨_,_,_,E,_⟩=>aL.of (E.same _ _ hq)) ?_ ?_⟩
  ·rintro i y σ HH hi ⟨B,v,rfl,E,o,z⟩
   obtain⟨t,ht,rfl⟩:=aY hi;obtain⟨d,hd,hT0⟩:=bg hqp ht;have hT:=E.same _ _ hT0;have hj:=hdn i d hd;have hil:=(List.getElem?_eq_some_iff.mp hd).1;have ft:=CJ E.good o hL z (by omega);have nm:=hnm d (Hx hd);refine⟨_,rfl,_,rfl,x,t,B,_,d,rfl,hT,E.hall,ft,E.good,fun g hg=>(nm g hg).2,?_⟩;unfold uj;rw[Hw hj];intro H2 mv
   have en:cQ (da (ds.take i)) d=da (ds.take (i+1)):=by unfold cQ;rw[Hw hj,Iv,hd,ID,uc]
   have g2:=tL E.good (d:=d) (fun g hg=>(nm g hg).2);have o2:=y9 E.good o (fun g hg=>(nm g hg).1);have z2:=zn z d
   have mv2:vQ c.C HH x B (cQ (da (ds.take i)) d) H2:=by unfold cQ;rw[Hw hj];exact mv
   obtain⟨B',E2,_⟩:=E.moved mv2 g2;rw[en]at E2 o2 z2;exact⟨B',_,rfl,E2,o2,z2⟩
  ·rintro σ HH ⟨B,v,rfl,E,o,z⟩
   have el:=Ic hqp;rw[Hs,el,Ir]at E;exact⟨_,rfl,k x B HH nx E⟩
theorem u3 (F:dv K "_law_paper" "_law_paper" iT f fd) : aS P w K mg base cJ 1 f fd ["_law_row","_law_worn"] pM:=by
 refine F.ok fo (fun vs H Q E h=>?_) (fun cdv A outer s H vs Q E hr h=>?_)
 ·obtain⟨l,d,ps,w,rfl,_⟩:=h
  rfl
 ·obtain⟨l,d,ps,w0,rfl,⟨as,hl,hp⟩,hlen,hd,hwl,k⟩:=h
  have hu:=cr hr
  have wrI:∀ (w:List (Int×Int))(g:Int),((cH (dk w) (Sum.inl g:bP)).getD (.int g))=.int (wr w g):=fun w g=>by
   rw[bT];unfold wr;cases look w g<;>rfl
  refine⟨_,af (cY II rfl (bq (pv 0)) (vd rfl (dF (gq (i:=2) fo.nd rfl (Or.inl rfl)) (dF (gq (i:=3) fo.nd rfl (Or.inl rfl)) pC))) (af (cZ (i:=4) fo.nd rfl (Or.inl rfl) (lV hu (pv 1) (pv 2) (pv 2) ⟨rfl,rfl,rfl,rfl⟩)) (af (cR hu (pv 1) (pv 2) (lV hu (pv 1) (pv 3) (pv 3) ⟨rfl,rfl,rfl,rfl⟩) rfl) (ag (cR hu (pv 1) (pv 3) (pv 4) rfl))))) (ag (ar (pv 1))),?_⟩;have hld:l≠d:=bY hl hd (by intro z;cases z)
  refine⟨_,rfl,l,rfl,⟨_,aL.of hl⟩,bj (K:=K) (a:=l) (xs:=as.map V.ref) (fun i σ H2=>∃ (v1 v2 v3:Option V),σ=[some (.ref l),some (.ref d),v1,v2,v3]/\H2=upd H d (.dK (dk (aX w0 (ps.take i)))))
   ⟨none,none,none,rfl,by funext b;by_cases hb:b=d;subst hb;rw[ac,hd];rfl;rw[ae hb]⟩ (fun i σ H2 _ ⟨_,_,_,_,h⟩=>aL.of (by rw[h,ae hld];exact hl)) ?_ ?_⟩
  ·rintro i y σ H2 hi ⟨v1,v2,v3,rfl,rfl⟩
   have hil:i<as.length:=by have:=(List.getElem?_eq_some_iff.mp hi).1;simpa using this
   obtain⟨a,ha,rfl⟩:=aY hi;obtain⟨p,hpi,hpa⟩:=bg hp ha;have had:a≠d:=bY hpa hd (by intro z;cases z);have hpl:=Ic hp;have lw:=tU (ps.take i) w0;rw[Io]at lw;generalize hw:aX w0 (ps.take i)=w at lw
   have nxt:aX w0 (ps.take (i+1))=gB w p:=by rw[nV hpi];unfold aX at hw ⊢;rw[JC,hw];rfl
   have sz:∀ v:List (Int×Int),v.length<=w.length+1->(dk v).length<sizeLine:=fun v h=>by rw[uJ];exact Ij (show v.length<5000 by omega) (by decide)
   refine⟨a,_,rfl,dC.of (by rw[ae had];exact hpa),rfl,_,_,rfl,_,_,rfl,rfl,?_⟩;refine⟨_,rfl,d,rfl,.inl ⟨_,.inl ac⟩,_,rfl,_,rfl,_,bM.k (k:=Sum.inl p.1) ac,?_⟩;refine⟨_,rfl,d,rfl,.inl ⟨_,.inl ac⟩,_,rfl,_,rfl,_,bM.k (k:=Sum.inl p.2) ac,_,rfl,_,rfl,d,_,rfl,gF.k (k:=Sum.inl p.1) ac (sz w (by omega)),?_⟩;refine⟨_,rfl,_,rfl,_,rfl,d,_,rfl,gF.k (k:=Sum.inl p.2) ac ?_,?_⟩
   ·rw[wrI,dH]
    exact sz _ (by have:=iD w p.1 (wr w p.2);omega)
   ·refine⟨_,_,_,rfl,?_⟩
    rw[nxt,wrI,wrI,dH,dH,iW,iW];rfl
  ·rintro σ H2 ⟨v1,v2,v3,rfl,rfl⟩
   refine⟨_,rfl,?_⟩
   have e:ps.take (as.map V.ref).length=ps:=by rw[Hs,Ic hp,Ir]
   rw[e];exact k
theorem u6 (F:dv K "_law_wrong" "_law_wrong" fA f fd) : aS P w K mg base cJ 1 f fd ["_law_worn"] pR:=by
 refine F.ok vq (fun vs H Q E h=>?_) (fun cdv A outer s H vs Q E hr h=>?_)
 ·obtain⟨d,w,rfl,_⟩:=h
  rfl
 ·obtain⟨d,w,rfl,hd,h64,k⟩:=h
  have hu:=cr hr
  refine⟨_,ag (ar (gn (so:=ai fA) (N:=oK) (N':=["_law_guest_here","_law_worn"]) (src:=[none,some 0]) rfl rfl ⟨rfl,by decide +kernel,by decide +kernel,by decide +kernel,by decide +kernel,rfl,by decide +kernel⟩ rfl
    (bq (aU (c7 rfl) (by rfl) T.sorted IQ (aq (pv 0) aI)))
    (fun cl C s2 H2 ex=>⟨gq (i:=0) (show (["_law_guest_here","_law_worn"]:List Str).Nodup by decide +kernel) rfl (Or.inl rfl),gr (aF jc (cF hu (pv 1) (pv 0) (fun _ _=>rfl)) (pv 0) (aM _)),pv 0⟩))),?_⟩
  have hkl:(ak w).length<64:=by unfold ak;rw[Hs];exact h64
  refine⟨_,rfl,d,_,ak w,rfl,hd,CV w,hkl,fun q hq=>?_⟩;have hqd:d≠q:=aj hd hq;refine⟨q,rfl,⟨_,aL.of ac⟩,fun r hr0=>?_⟩;have hrq:q≠r:=aj ac hr0;have hrd:d≠r:=aj (show upd H q (.lst ((aD (ak w)).map V.int)) d=some (.dK (dk w)) by rw[ae hqd];exact hd) hr0
  have hHr:H r=none:=by rw[ae (Ik hrq)]at hr0;exact hr0
  generalize hks:aD (ak w)=ks at *
  have hsl:ks.length<64:=by rw[<-hks,dR];exact hkl
  refine bj (K:=K) (a:=q) (xs:=ks.map V.int) (fun i σ H2=>∃ (v:Option V),σ=[v,some (.ref d)]/\aB H H2/\H2 q=some (.lst (ks.map V.int))/\H2 r=some (.lst (((ks.take i).filter fun g=>decide (wr w g≠g)).map V.int)))
   ⟨none,rfl,aZ (ah hq) hHr,by rw[ae hrq,ac],ac⟩ (fun i σ H2 _ ⟨_,_,_,h,_⟩=>aL.of h) ?_ ?_
  ·rintro i y σ H2 hi ⟨v,rfl,s2,hq2,hr2⟩
   obtain⟨g,hg,rfl⟩:=aY hi;have hil:=(List.getElem?_eq_some_iff.mp hg).1
   have hgk:g∈ak w:=by rw[<-fE,hks];exact Hx hg
   obtain⟨m,hm⟩:=IJ.mp (bL.mpr hgk)
   have hwr:wr w g=m:=by unfold wr;rw[hm];rfl
   have hval:cH (dk w) (Sum.inl g:bP)=some (.int m):=by rw[bT,hm];rfl
   have gt:bM H2 d (.int g) (some (.int m)):=by rw[<-hval];exact bM.k (k:=Sum.inl g) (s2 _ _ hd)
   refine rM ⟨_,rfl,_,rfl,d,_,rfl,gt,_,rfl,rfl,_,rfl,?_⟩
   have nxt:((ks.take (i+1)).filter fun g=>decide (wr w g≠g)).map V.int=((ks.take i).filter fun g=>decide (wr w g≠g)).map V.int++(if wr w g≠g then [V.int g] else []):=by
    rw[nV hg,Je,Ii]
    congr 1
    by_cases hne:wr w g≠g<;>simp[hne]
   by_cases hne:wr w g≠g
   ·rw[show (!decide (V.int m=V.int g))=true by rw[Ih (fun z=>hne (by rw[hwr];injection z))];rfl]
    have hfl:(((ks.take i).filter fun g=>decide (wr w g≠g)).map V.int).length<=i:=by
     rw[Hs];exact Ix (IV _ _) (by rw[Io];omega)
    refine bZ ⟨_,rfl,_,hr2,aG (by omega),?_⟩;refine⟨_,rfl,aZ s2 hHr,by rw[ae hrq];exact hq2,?_⟩;rw[ac,nxt,Hw hne]
   ·have hne':wr w g=g:=by simpa using hne
    rw[show (!decide (V.int m=V.int g))=false by rw[HY (by rw[<-hwr,hne'])];rfl];refine aR ⟨_,rfl,s2,hq2,?_⟩;rw[nxt,Hu hne,Jw];exact hr2
  ·rintro σ H2 ⟨v,rfl,s2,hq2,hr2⟩
   refine k r H2 hHr s2 ?_;rw[Hs,Ir]at hr2;unfold bv;rw[hks];exact hr2
theorem sv (F:dv K "_law_stands" "_law_stands" gS f fd)(cI:aK P w K mg base cJ c.C "guests" 1 ["self"] (jK c.C))(ip:aK P w K mg base cJ c.C "story" 1 ["self"] (pO c.C))(gH:aK P w K mg base cJ c.C "moment" 1 ["self"] (mx c.C))(io:aK P w K mg base cJ c.C "pairs" 2 ["self"] (mq c.C))(gG:aK P w K mg base cJ c.C "inside" 1 ["self","guest"] (mw c.C))(aN:aK P w K mg base (iY P w) c.C "wears" 3 ["self","guest"] (gz c))(gI:aK P w K mg base (iY P w) c.C "wearer" 3 ["self","mask"] (mB c)) : aS P w K mg base cJ 4 f fd ["_law_hall","_law_worn","_law_met","_law_story"] (my c):=by
 refine F.ok kz (fun vs H Q E h=>?_) (fun cdv A outer s H vs Q E hr h=>?_)
 ·obtain⟨p,w,m,ls,B,st,ml,L,rfl,_⟩:=h
  rfl
 ·obtain⟨p,w,m,ls,B,st,ml,L,rfl,S,wB,hw,hm,hs,G,al,ci,mo,hL,hml,hwl,sm,k⟩:=h
  have hu:=cr hr
  refine⟨_,af (bp (PW.pt (oO (aF (nu 1 (A4 hr (by decide))) (re cI (pv 0) U.cl hr.m eF) (aU (c7 rfl) (by rfl) T.sorted IQ (eZ (pv 1))) (aM _)) (kL (aF (nu 1 (A4 hr (by decide))) (re ip (pv 0) U.cl hr.m eF) (pv 3) (aM _))))) (ag (ar (dm))) (aJ)) (
   af (bp (PW.pt (oO (aF jc (re gH (pv 0) U.cl hr.m eF) (aU bR (by rfl) T.len Jk (eZ (pv 3))) (aM _)) (kL (aF (nu 1 (A4 hr (by decide))) (re io (pv 0) U.cl hr.m eF) (aU (uw rfl) (by rfl) T.sorted IQ (eZ (pv 2))) (aM _))))) (ag (ar (dm))) (aJ)) (
   af (vg (cY II rfl (pE (pv 1)) (j7 4 kz.nd) (af (bp (aF Af (dG gG (pv 0) U.cl hr.m eF (eZ (pv 4))) (dm) (aM _)) (ag (ar (dm))) (aJ)) (
   ag (bp (PW.pt (oO (aF jc (dG aN (pv 0) U.cl hr.m qZ (eZ (pv 4))) (cF hu (pv 1) (pv 4) (fun _ _=>rfl)) (aM _)) (kL (aF jc (dG gI (pv 0) U.cl hr.m qZ (eZ (cF hu (pv 1) (pv 4) (fun _ _=>rfl)))) (pv 4) (aM _))))) (ag (ar (dm))) (aJ)))))) (
   ag (ar (dm))))),?_⟩
  have nos:∀ (B:HA)(m:Str),¬ m="worn"->¬ m="holders"->¬ m="circles"->¬ m="deeds"->(bn B).lookup m=none:=fun B m h1 h2 h3 h4=>ko B h1 h2 h3 h4;have nG:∀ B:HA,(bn B).lookup ("guests" : Str)=none:=fun B=>rS B (by decide +kernel);have nM:∀ B:HA,(bn B).lookup ("moment" : Str)=none:=fun B=>rS B (by decide +kernel);have nI:∀ B:HA,(bn B).lookup ("inside" : Str)=none:=fun B=>rS B (by decide +kernel);have nS:∀ B:HA,(bn B).lookup ("story" : Str)=none:=fun B=>rS B (by decide +kernel);have nW:∀ B:HA,(bn B).lookup ("wears" : Str)=none:=fun B=>rS B (by decide +kernel);have nR:∀ B:HA,(bn B).lookup ("wearer" : Str)=none:=fun B=>rS B (by decide +kernel);have nT:∀ B:HA,(bn B).lookup ("met" : Str)=none:=fun B=>rS B (by decide +kernel);have nP:∀ B:HA,(bn B).lookup ("pairs" : Str)=none:=fun B=>rS B (by decide +kernel);have nQ:∀ B:HA,(bn B).lookup ("partners" : Str)=none:=fun B=>rS B (by decide +kernel)
  have two:(2:Nat)<=sizeLine:=by decide
  have nil0:(0:Nat)<=sizeLine:=Ip _
  have dkk:∀ wl:List (Int×Int),(dk wl).map (·.1)=(ak wl).map Sum.inl:=fun wl=>by unfold dk ak;rw[IA,IA];rfl
  have szl:(ak st.worn).length<64:=by unfold ak;rw[Hs];omega
  refine⟨_,rfl,p,B.dx,_,rfl,S.ob,nG B,p,B,_,rfl,S,hwl,fun l1 hl1=>?_⟩;have s1:=ah (o:=.lst ((aD (ak st.worn)).map V.int)) hl1;have h1:upd H l1 (.lst ((aD (ak st.worn)).map V.int)) l1=some (.lst ((aD (ak st.worn)).map V.int)):=ac;generalize upd H l1 (.lst ((aD (ak st.worn)).map V.int))=H1 at s1 h1 ⊢;refine⟨_,rfl,w,_,ak st.worn,rfl,s1 _ _ hw,dkk _,szl,fun l2 hl2=>?_⟩;have s2:=ah (o:=.lst ((aD (ak st.worn)).map V.int)) hl2;refine⟨l1,l2,_,_,rfl,rfl,gy (aL.of (s2 _ _ h1)),gy (aL.of ac),fun b hb=>⟨_,rfl,?_⟩⟩;rw[show (if true=true then !b else b)=false by rw[hb.mpr rfl];rfl];have S02:=s1.trans s2;generalize upd H1 l2 (.lst ((aD (ak st.worn)).map V.int))=H2 at S02 ⊢;have hS2:=S.mono S02;refine aR ⟨_,rfl,p,B.dx,_,rfl,hS2.ob,nS B,p,B,_,rfl,hS2,fun l3 H3 hl3 s3 d3=>⟨_,rfl,l3,ls,_,_,rfl,rfl,xf d3,xf (bX hs (S02.trans s3)),fun b hb=>⟨_,rfl,?_⟩⟩⟩;rw[show (if true=true then !b else b)=false by rw[hb.mpr rfl];rfl];have S03:=S02.trans s3;have hS3:=S.mono S03;obtain⟨as,hls3,hp3⟩:=bX hs S03;refine aR ⟨_,rfl,p,B.dx,_,rfl,hS3.ob,nM B,p,B,_,rfl,hS3,_,rfl,ls,_,rfl,.inl (aL.of hls3),rfl,_,rfl,?_⟩;rw[Hs,Ic hp3,HY rfl]
  have pl:(dE st.circ).length<=1000:=by
   have nd1:(dE st.circ).Nodup:=(lS ci).imp fun {a b} z e=>by rw[e,Qs.ltP_irr]at z;cases z
   have:=((List.perm_ext_iff_of_nodup nd1 mo.nd).mpr fun x=>t7 ci al mo x).length_eq;omega
  refine aR ⟨_,rfl,p,B.dx,_,rfl,hS3.ob,nP B,p,B,st,L,rfl,hS3,ci,hL,pl,fun l4 H4 hl4 s4 r4=>⟨_,rfl,m,ml,rfl,(S03.trans s4) _ _ hm,mo.nd,hml,fun l5 qs H5 hl5 s5 r5 pm so=>⟨l4,l5,_,_,rfl,rfl,nF (r4.mono s5),nF r5,fun b hb=>⟨_,rfl,?_⟩⟩⟩⟩;rw[show (if true=true then !b else b)=false by rw[hb.mpr (by rw[Bx ci al mo pm so])];rfl];have S05:=(S03.trans s4).trans s5;refine aR ⟨_,rfl,w,_,rfl,S05 _ _ hw,fun o=>?_⟩
  have kp:∀ x u,H5 x=some u->x≠w->(upd H5 w (.frz o (.dK (dk st.worn)))) x=some u:=fun x u e n=>by rw[ae n];exact e
  have hw6:(upd H5 w (.frz o (.dK (dk st.worn)))) w=some (.frz o (.dK (dk st.worn))):=ac;have S6:aE c.C (upd H5 w (.frz o (.dK (dk st.worn)))) p B st:=(S.mono S05).kept (fp:=[w]) (fun b u e n=>kp b u e (fun z=>n (by rw[z];exact HV))) (fun z=>by have ob:=(S.mono S05).ob;rw[HR.mp z,S05 _ _ hw]at ob;cases ob) (fun b hb z=>wB (by rw[<-HR.mp z];exact hb)) (fun b xs e z=>by rw[HR.mp z,S05 _ _ hw]at e;cases e);generalize upd H5 w (.frz o (.dK (dk st.worn)))=H6 at kp hw6 S6 ⊢
  refine lA (d:=w) (o:=o) (kvs:=dk st.worn) (fun i σ HH=>HH=H6/\∃ v:Option V,σ=[some (.ref p),some (.ref w),some (.ref m),some (.ref ls),v])
   ⟨rfl,none,rfl⟩ (fun i σ HH _ ⟨e,_⟩=>by rw[e];exact hw6) ?_ ?_
  ·rintro i y σ HH hi ⟨rfl,v,rfl⟩
   obtain⟨q,hq,rfl⟩:=aY hi;have hmem:=Hx hq;have lk:look st.worn q.1=some q.2:=jz G.wn hmem;have lh:=(G.wh q.1 q.2).mp lk;have sg:cp q.1:=sm _ (IG (f:=(·.1)) hmem);have sq:cp q.2:=sm _ (G.ow _ _ lk);have dg:bM HH w (.int q.1) (some (.int q.2)):=.inl ⟨dk st.worn,Sum.inl q.1,.inr ⟨o,hw6⟩,rfl,by rw[bT,lk];rfl⟩;refine⟨_,rfl,p,B.dx,_,rfl,S6.ob,nI B,_,rfl,p,B,st,q.1,rfl,S6,_,_,rfl,rfl,_,rfl,?_⟩;rw[lk];refine aR ⟨_,rfl,p,B.dx,_,rfl,S6.ob,nW B,_,rfl,p,B,st,q.1,rfl,S6,sg,?_⟩;rw[lk];refine⟨_,rfl,_,rfl,w,_,rfl,dg,rfl,_,rfl,?_⟩;rw[HY rfl];refine aR ⟨_,rfl,p,B.dx,_,rfl,S6.ob,nR B,_,rfl,_,rfl,w,_,rfl,dg,p,B,st,q.2,rfl,S6,sq,?_⟩;rw[lh];refine⟨_,rfl,rfl,_,rfl,?_⟩;rw[show (!decide (V.int q.1=kV (Sum.inl q.1,V.int q.2).1))=false by show (!decide (V.int q.1=V.int q.1))=false;simp];exact aR ⟨rfl,_,rfl⟩
  ·rintro σ HH ⟨rfl,v,rfl⟩
   refine⟨w,o,_,hw6,fun o' u' z=>?_,k _ fun x u e=>?_⟩
   ·have z:H w=some (.frz o' u'):=z
    rw[hw]at z;cases z
   ·by_cases hx:x=w
    ·rw[hx,ac]
     rw[hx,hw]at e;exact e
    ·rw[ae hx]
     exact kp x u (S05 _ _ e) hx
theorem sw (F:dv K "_law_wholes" "_law_wholes" d8 f fd)(jo:ay P w K mg base "_law_whole" 1 ["_law_found"] pQ) : aS P w K mg base cJ 2 f fd ["_law_found"] mF:=by
 refine F.ok sN (fun vs H Q E h=>?_) (fun cdv A outer s H vs Q E hr h=>?_)
 ·obtain⟨l,ns,rfl,_⟩:=h
  rfl
 ·obtain⟨l,ns,rfl,hl,hlen,k⟩:=h
  refine⟨_,af (bp (kK (dU (aU p8 (by rfl) T.isinstance PyProof.Rows.boot_isinstance (aq (pv 0) (aq (vc (v:=.ty "list") (by rfl) T.list Jr rfl) aI))))) (ag (ar (dm))) (aJ)) (
   ag (ar (aU (tF rfl) (by rfl) T.all PyProof.Rows.boot_all (eZ (gn (so:=ai d8) (N:=lN) (N':=["_law_one"]) (src:=[none]) rfl rfl xH rfl (bq (pv 0)) (fun cl C s2 H2 ex=>⟨j7 0 (show (["_law_one"]:List Str).Nodup by decide +kernel),fj,bo jo hr.m rfl (eZ (pv 0))⟩)))))),?_⟩
  refine⟨_,rfl,_,_,_,true,rfl,j4.lst hl,rfl,_,rfl,aR ?_⟩;refine⟨_,rfl,l,rfl,⟨_,aL.of hl⟩,fun q hq=>?_⟩
  refine bj (K:=K) (a:=l) (xs:=ns.map V.int) (fun i σ H2=>∃ (v:Option V),σ=[v]/\aB H H2/\H2 q=some (.lst ((List.replicate i true).map V.bl)))
   ⟨none,rfl,ah hq,ac⟩ (fun i σ H2 _ ⟨_,_,s2,_⟩=>aL.of (s2 _ _ hl)) ?_ ?_
  ·rintro i y σ H2 hi ⟨v,rfl,s2,hq2⟩
   have hil:i<ns.length:=by have:=(List.getElem?_eq_some_iff.mp hi).1;simpa using this
   obtain⟨a,ha,rfl⟩:=aY hi;refine jZ ⟨_,rfl,a,rfl,_,hq2,by rw[Hs,List.length_replicate];exact aG (by omega),?_⟩;exact⟨_,rfl,aZ s2 hq,by rw[ac,List.replicate_succ',Ii];rfl⟩
  ·rintro σ H2 ⟨v,rfl,s2,hq2⟩
   refine⟨q,List.replicate ns.length true,rfl,aL.of (by rw[hq2,Hs]),?_⟩;rw[show (List.replicate ns.length true).all id=true by simp];exact k H2 s2
theorem u4 (F:dv K "_law_terms" "_law_terms" fz f fd)(bI:ay P w K mg base "_law_guest" 2 ["_law_k","_law_cell"] jY) : aS P w K mg base cJ 3 f fd ["_law_draws_here","_law_cell"] mi:=by
 refine F.ok vo (fun vs H Q E h=>?_) (fun cdv A outer s H vs Q E hr h=>?_)
 ·obtain⟨l,ds,c0,rfl,_⟩:=h
  rfl
 ·obtain⟨l,ds,c0,rfl,hl,hd,h100,k⟩:=h
  have two:(2:Nat)<=sizeLine:=by decide
  refine⟨_,ag (ar (gn (so:=ai fz) (N:=oJ) (N':=["_law_drawn","_law_cell"]) (src:=[none,some 1]) rfl rfl xH rfl (bq (pv 0)) (fun cl C s2 H2 ex=>⟨j7 0 (show (["_law_drawn","_law_cell"]:List Str).Nodup by decide +kernel),fj,bS (fF (bo bI hr.m rfl (fF (aV cj (pv 0) (am)) (pv 1))) (bo bI hr.m rfl (fF (aV cj (aV fh (pv 0) (am)) (am)) (pv 1))))⟩))),?_⟩;refine⟨_,rfl,l,rfl,⟨_,aL.of hl⟩,fun q hq=>?_⟩;refine Ai (rest:=[some (.int c0)]) (f:=V.int) (pr:=Cy c0) (zs:=ds) hq hl (by omega) (fun i z HK Q' hz sK k'=>?_) (fun H1 s1 row1=>k q H1 hq s1 row1);have z0:=hd z (Hx hz);have b1:=Jb z (show (14:Int)≠0 by decide);have b2:=IS z (show (0:Int)<14 by decide);have b3:=Jb (z/14) (show (14:Int)≠0 by decide);have b4:=IS (z/14) (show (0:Int)<14 by decide);refine⟨_,rfl,_,_,rfl,rfl,by show (0:Int)<14;decide,_,rfl,_,_,rfl,⟨b1,by omega⟩,?_⟩;exact⟨_,rfl,_,_,rfl,rfl,⟨by decide,by decide⟩,_,_,rfl,rfl,by show (0:Int)<14;decide,_,rfl,_,_,rfl,⟨b3,by omega⟩,two,fun t ht=>k' t ht⟩
theorem pc (F:dv K "_law_on_terms" "_law_on_terms" eW f fd) : aS P w K mg base cJ 2 f fd ["_law_one","_law_other","_law_terms_here"] zl:=by
 refine F.ok pf (fun vs H Q E h=>?_) (fun cdv A outer s H vs Q E hr h=>?_)
 ·obtain⟨a,b,l,ps,rfl,_⟩:=h
  rfl
 ·obtain⟨a,b,l,ps,rfl,row,k⟩:=h
  refine⟨_,ag (ar ((BA (lT jc (pv 0) (pv 1) (aM _)) (yl ((Fq (lT (Bt 2 (A4 hr (by decide))) (bS (fF (pv 0) (pv 1))) (pv 2) rfl) (yl (lT (Bt 2 (A4 hr (by decide))) (bS (fF (pv 1) (pv 0))) (pv 2) rfl)))))))),?_⟩
  have two:(2:Nat)<=sizeLine:=by decide
  have fl:∀ (x y:Int),∀ v∈[V.int x,V.int y],jx v=true:=fun x y v hv=>by
   rcases HW.mp hv with z | z
   ·rw[z];rfl
   ·rw[HR.mp z];rfl
  obtain⟨as,hl,hp⟩:=id row
  have pD:∀ {HX:Hp},aB H HX->Paired (fun (x:Addr)(e:Dt)=>RD K HX 2 (.ref x) e) as (ps.map fun p=>sQ [.int p.1,.int p.2]):=fun {HX} s=>by
   clear hl row k
   induction hp with
   | nil=>exact .nil
   | cons h _ ih=>exact .cons (ri (s _ _ h) (fl _ _)) ih
  have mD:∀ (x y:Int),(sQ [.int x,.int y]∈ps.map fun p=>sQ [.int p.1,.int p.2])↔(x,y)∈ps:=fun x y=>by
   rw[IB];exact⟨fun ⟨p,h1,h2⟩=>(Bw.mp h2)▸h1,fun h=>⟨_,h,rfl⟩⟩
  refine⟨_,rfl,_,rfl,rfl,_,rfl,?_⟩
  by_cases e:a=b
  ·rw[HY (show V.int a=V.int b by rw[e])]
   rw[HY e]at k;exact aR (k H (aB.refl _))
  ·rw[Ih (show ¬ V.int a=V.int b from fun z=>e (V.int.inj z))]
   rw[Ih e]at k;refine bZ ⟨_,rfl,_,rfl,two,fun t1 ht1=>?_⟩;have s1:=ah (o:=.tup [V.int a,V.int b]) ht1;have e1:upd H t1 (.tup [V.int a,V.int b]) t1=some (.tup [V.int a,V.int b]):=ac;generalize upd H t1 (.tup [V.int a,V.int b])=H1 at s1 e1 ⊢;refine⟨_,rfl,l,as,_,_,rfl,.inl (aL.of (s1 _ _ hl)),ri e1 (fl a b),pD s1,fun k1 hk1=>⟨_,rfl,?_⟩⟩;rw[mD]at hk1
   by_cases z:(a,b)∈ps
   ·rw[show (if false=true then !k1 else k1)=true from hk1.mpr z]
    rw[show mJ ps a b=true from HY (.inl z)]at k;exact bZ (k H1 s1)
   ·rw[show (if false=true then !k1 else k1)=false by cases k1 with | false=>rfl | true=>exact absurd (hk1.mp rfl) z]
    refine aR ⟨_,rfl,_,rfl,two,fun t2 ht2=>?_⟩;have s2:=ah (o:=.tup [V.int b,V.int a]) ht2;have e2:upd H1 t2 (.tup [V.int b,V.int a]) t2=some (.tup [V.int b,V.int a]):=ac;generalize upd H1 t2 (.tup [V.int b,V.int a])=H2 at s2 e2 ⊢;have s12:=s1.trans s2;refine⟨_,rfl,l,as,_,_,rfl,.inl (aL.of (s12 _ _ hl)),ri e2 (fl b a),pD s12,fun k2 hk2=>?_⟩;rw[mD]at hk2
    have ek:(if false=true then !k2 else k2)=(!false&&mJ ps a b):=by
     show k2=mJ ps a b
     by_cases z2:(b,a)∈ps
     ·rw[hk2.mpr z2];exact (HY (.inr z2)).symm
     ·have:k2=false:=by cases k2 with | false=>rfl | true=>exact absurd (hk2.mp rfl) z2
      rw[this];exact (Ih (fun y=>y.elim z z2)).symm
    rw[ek];exact k H2 s12
theorem su (F:dv K "_law_barred" "_law_barred" du f fd)(ii:ay P w K mg base "_law_wholes" 2 ["_law_found"] mF)(fJ:ay P w K mg base "_law_on_terms" 2 ["_law_one","_law_other","_law_terms_here"] zl) : aS P w K mg base cJ 3 f fd ["_law_group","_law_worn","_law_terms_here"] vC:=by
 refine F.ok gM (fun vs H Q E h=>?_) (fun cdv A outer s H vs Q E hr h=>?_)
 ·obtain⟨l,w,lt,W,ps,ks,rfl,_⟩:=h
  rfl
 ·obtain⟨l,w,lt,W,ps,ks,rfl,hl,hks,hw,h64,row,S,k⟩:=h
  have hu:=cr hr
  refine⟨_,af (bp (PW.pt (oO (kK (dU (bo ii hr.m rfl (eZ (pv 0))))) (oO (aF (nu 1 (A4 hr (by decide))) (pv 0) (aU uv (by rfl) T.sorted IQ (eZ (pv 0))) (aM _)) (kL (aF jc (aU zD (by rfl) T.len Jk (eZ (dS (zE rfl) (by rfl) T.bset PyProof.Rows.boot_set (eZ (pv 0))))) (aU bR (by rfl) T.len Jk (eZ (pv 0))) (aM _)))))) (ag (ar (dm))) (aJ)) (
   af (bp (kK (dU (aU (tF rfl) (by rfl) T.all PyProof.Rows.boot_all (eZ (gn (so:=ai du) (N:=iF) (N':=["_law_one","_law_worn"]) (src:=[none,some 1]) rfl rfl xH rfl (bq (pv 0)) (fun cl C s2 H2 ex=>⟨j7 0 (show (["_law_one","_law_worn"]:List Str).Nodup by decide +kernel),fj,nz (iH hu (pv 0) (pv 1))⟩)))))) (ag (ar (dm))) (aJ)) (
   af (bp (kK (dU (aU (tI rfl) (by rfl) T.any PyProof.Rows.boot_any (eZ (gn (so:=ai du) (N:=iF) (N':=["_law_one","_law_group","_law_worn"]) (src:=[none,some 0,some 1]) rfl rfl xH rfl (bq (pv 0)) (fun cl C s2 H2 ex=>⟨j7 0 (show (["_law_one","_law_group","_law_worn"]:List Str).Nodup by decide +kernel),fj,lT (Ag K) (cF hu (pv 2) (pv 0) (fun _ _=>rfl)) (pv 1) rfl⟩)))))) (ag (ar (dm))) (aJ)) (
   af (cY II rfl (bq (pv 0)) (j7 3 gM.nd) (ag (vg (cY II rfl (pE (pv 1)) (j7 4 gM.nd) (ag (bp (PW.pt (gL (aF lR (pv 4) (pv 0) rfl) (gu (dU (bo fJ hr.m rfl (C9 (pv 3) (pv 4) (pv 2))))))) (ag (ar (dm))) (aJ))))))) (
   ag (ar (dm)))))),?_⟩
  have skl:(aD ks).length=ks.length:=dR ks;refine⟨_,rfl,l,_,rfl,hl,by omega,fun H1 s1=>⟨_,rfl,aR ?_⟩⟩;refine⟨_,rfl,_,rfl,l,aD ks,rfl,aL.of (s1 _ _ hl),by omega,fun l2 hl2=>?_⟩;have s2:=ah (o:=.lst ((aD (aD ks)).map V.int)) hl2;refine⟨l,l2,_,_,rfl,rfl,gy (aL.of (s2 _ _ (s1 _ _ hl))),gy (aL.of ac),fun b hb=>⟨_,rfl,?_⟩⟩;rw[show (if true=true then !b else b)=false by rw[hb.mpr (by rw[yw])];rfl];have S2:=s1.trans s2;generalize upd H1 l2 (.lst ((aD (aD ks)).map V.int))=H2 at S2 ⊢;clear s2 hl2 hb s1;refine aR ⟨_,rfl,l,aD ks,rfl,aL.of (S2 _ _ hl),S.nd,by omega,fun l3 S3 hl3=>?_⟩;have s3:=ah (o:=.set S3 (aD ks).length) hl3;refine⟨l3,_,_,rfl,ac,_,rfl,l,_,rfl,.inl (aL.of (s3 _ _ (S2 _ _ hl))),rfl,_,rfl,?_⟩;rw[Hs,show (!decide (V.int ((aD ks).length:Int)=V.int ((aD ks).length:Int)))=false by simp];have S4:=S2.trans s3;generalize upd H2 l3 (.set S3 (aD ks).length)=H3 at S4 ⊢;clear s3 hl3 S2;refine aR ⟨_,rfl,l,rfl,⟨_,aL.of (S4 _ _ hl)⟩,fun l4 hl4=>?_⟩;refine p7 (K:=K) (f:=fun x=>(look W x).isSome) hl4 (S4 _ _ hl) (by omega) (fun r HK Q' hr0 sK kk=>?_) (fun H5 s5 h5=>?_)
  ·refine⟨_,rfl,_,rfl,w,_,rfl,bM.k (k:=Sum.inl r) (sK _ _ (S4 _ _ hw)),?_⟩
   rw[bT];have:=kk HK (aB.refl _);rw[JB];exact this
  refine⟨l4,_,rfl,aL.of h5,_,rfl,?_⟩
  rw[show ((aD ks).map fun x=>(look W x).isSome).all id=true from List.all_eq_true.mpr fun b hb=>by
   obtain⟨x,hx,rfl⟩:=IB.mp hb
   exact bL.mpr (S.sub x hx)]
  have S5:=S4.trans s5;clear s5 h5 hl4 S4;refine aR ⟨_,rfl,l,rfl,⟨_,aL.of (S5 _ _ hl)⟩,fun l6 hl6=>?_⟩;refine p7 (K:=K) (f:=fun x=>!decide (wr W x∈aD ks)) hl6 (S5 _ _ hl) (by omega) (fun r HK Q' hr0 sK kk=>?_) (fun H7 s7 h7=>?_)
  ·have gD:bM HK w (.int r) (some (.int (wr W r))):=by have:=bM.k (k:=Sum.inl r) (sK _ _ (S5 _ _ hw));rw[bT,iE (S.sub r hr0)]at this;exact this
   refine⟨_,rfl,_,rfl,w,_,rfl,gD,_,rfl,l,_,rfl,.inl (aL.of (sK _ _ (S5 _ _ hl))),rfl,tK _,?_⟩;rw[yQ];exact kk HK (aB.refl _)
  refine⟨l6,_,rfl,aL.of h7,_,rfl,?_⟩
  rw[show ((aD ks).map fun x=>!decide (wr W x∈aD ks)).any id=true from List.any_eq_true.mpr (by
   obtain⟨x,hx,e⟩:=S.has;refine⟨_,IG hx,?_⟩
   rw[Ih e];rfl)]
  have S7:=S5.trans s7;clear s7 h7 hl6 S5;refine aR ?_;unfold DM;dsimp only;unfold FM;refine zL (K:=K) (a:=l) rfl (xs:=(aD ks).map V.int) (fun i σ HH=>∃ v5 v6,σ=[some (.ref l),some (.ref w),some (.ref lt),v5,v6]/\aB H HH) ⟨none,none,rfl,S7⟩ (fun i σ HH _ ⟨_,_,_,s⟩=>aL.of (s _ _ hl)) ?_ ?_
  ·rintro i y σ HX hi ⟨v5,v6,rfl,SX⟩
   obtain⟨r,hr0,rfl⟩:=aY hi;have rg:=Hx hr0;refine⟨_,rfl,w,_,rfl,SX _ _ hw,fun o=>?_⟩
   have kp:∀ x u,HX x=some u->x≠w->(upd HX w (.frz o (.dK (dk W)))) x=some u:=fun x u e n=>by rw[ae n];exact e
   have lw:l≠w:=fun z=>by rw[z,hw]at hl;cases hl
   have rowX:=row.mono SX;obtain⟨as,hlt,hpt⟩:=id rowX
   have tw:lt≠w:=fun z=>by rw[z,SX _ _ hw]at hlt;cases hlt
   have aw:∀ b∈as,b≠w:=fun b hb z=>by
    obtain⟨j,hj⟩:=List.getElem?_of_mem hb;obtain⟨r',_,e⟩:=bg hpt hj;rw[z,SX _ _ hw]at e;cases e
   refine lA (d:=w) (o:=o) (kvs:=dk W) (fun i σ HH=>∃ v6,σ=[some (.ref l),some (.ref w),some (.ref lt),some (.int r),v6]/\HH w=some (.frz o (.dK (dk W)))/\∀ x u,HX x=some u->x≠w->HH x=some u)
    ⟨_,rfl,ac,kp⟩ (fun i σ HH _ ⟨_,_,e,_⟩=>e) ?_ ?_
   ·rintro j y σ HH hj ⟨v7,rfl,hwH,kH⟩
    obtain⟨q,hq,rfl⟩:=aY hj;have qk:q.1∈ak W:=IG (f:=(·.1)) (Hx hq);have hlH:=kH _ _ (SX _ _ hl) lw;have rowH:bJ HH lt ps:=⟨as,kH _ _ hlt tw,Wz.Paired.mapP' hpt fun b z hb e=>kH _ _ e (aw b hb)⟩;refine⟨_,rfl,_,rfl,l,_,rfl,.inl (aL.of hlH),rfl,tK _,_,rfl,?_⟩;have ei:D5 (kV (Sum.inl q.1,V.int q.2).1) ((aD ks).map V.int)=decide (q.1∈aD ks):=yQ q.1 _;rw[show (if true=true then !D5 (kV (Sum.inl q.1,V.int q.2).1) ((aD ks).map V.int) else D5 (kV (Sum.inl q.1,V.int q.2).1) ((aD ks).map V.int)) = !decide (q.1∈aD ks) by rw[Hw rfl,ei]]
    by_cases qg:q.1∈aD ks
    ·rw[HY qg]
     exact aR (aR ⟨_,rfl,hwH,kH⟩)
    ·rw[Ih qg]
     have kin:=S.cut r rg q.1 qk qg;refine bZ ⟨_,rfl,_,rfl,_,rfl,r,q.1,lt,ps,rfl,rowH,fun H9 s9=>⟨_,rfl,?_⟩⟩;rw[kin,Bool.and_false];exact aR ⟨_,rfl,s9 _ _ hwH,fun x u e n=>s9 _ _ (kH x u e n)⟩
   ·rintro σ HH ⟨v7,rfl,hwH,kH⟩
    refine⟨w,o,_,hwH,fun o' u' z=>?_,_,_,rfl,fun x u e=>?_⟩
    ·have z:H w=some (.frz o' u'):=z
     rw[hw]at z;cases z
    ·by_cases hx:x=w
     ·rw[hx,ac]
      rw[hx,hw]at e;exact e
     ·rw[ae hx]
      exact kH x u (SX _ _ e) hx
  ·rintro σ HX ⟨v5,v6,rfl,SX⟩
   exact k HX SX
theorem Eh (F:dv K "law" "law" rJ f fd)(gC:ay P w K mg base "_law_evening" 6 ["_law_script"] (iK K))(gE:ay P w K mg base "_law_hall_of" 7 ["_law_story"] (mr c))(jn:ay P w K mg base "_law_terms" 3 ["_law_draws_here","_law_cell"] mi)(bC:ay P w K mg base "_law_draws_from" 3 ["_law_script","_law_start","_law_most","_law_base"] (rF K))(bU:ay P w K mg base "_law_cell_at" 1 ["_law_script","_law_k"] (rE K))(Cmorning_row:XCallee P w K mg base "morning_row" 6 ["hall","terms"] (vE c co P0 av ao))(Cbarred_group:XCallee P w K mg base "barred_group" 6 ["hall","terms"] (vw c P0 av ao))(ig:ay P w K mg base "_law_stands" 4 ["_law_hall","_law_worn","_law_met","_law_story"] (my c))(e7:ay P w K mg base "_law_barred" 3 ["_law_group","_law_worn","_law_terms_here"] vC)(jp:ay P w K mg base "_law_wrong" 1 ["_law_worn"] pR)(jm:ay P w K mg base "_law_paper" 1 ["_law_row","_law_worn"] pM) : aS P w K mg base cJ 10 f fd ["_law_script"] (rG K P0):=by
 refine F.ok dX (fun vs H Q E h=>?_) (fun cdv A outer s H vs Q E hr h=>?_)
 ·obtain⟨a,ns,rfl,_⟩:=h
  rfl
 ·obtain⟨a,ns,rfl,hS,hlen,hTb,k⟩:=h
  have hu:=cr hr
  refine⟨_,af (Et (bo gC hr.m rfl (eZ (jG pG (pv 0) pF (jW (am))))) (vd rfl (dF (j7 1 dX.nd) (dF (j7 2 dX.nd) (dF (j7 3 dX.nd) pC))))) (
   af (bB 4 dX.nd (bo gE hr.m rfl (eZ (pv 3)))) (
   af (bB 5 dX.nd (bo jn hr.m rfl (fF (bo bC hr.m rfl (aq (pv 0) (aq (am) (aq (am) (aq (am) aI))))) (bo bU hr.m rfl (fF (pv 0) (am)))))) (
   af (bB 6 dX.nd (dm)) (
   af (Dh rfl rfl (fun pins E=>ag (bd (Dj Cmorning_row hr.m rfl El (fF (pv 4) (dS (xE K) (by rfl) T.list Jr (eZ (pv 5))))))) (Df rfl UO.m (fun ea oe=>ag (bB 6 dX.nd (dm))) Eo)) (
   af (bB 7 dX.nd (dS e8 (by rfl) T.list Jr (eZ (pv 5)))) (
   af (bB 8 dX.nd (rh Cbarred_group hr.m rfl qZ (fF (pv 4) (pv 7)))) (
   af (bp (PW.pt (oO (aF (nu 1 (A4 hr (by decide))) (pv 7) (pv 5) (aM _)) (kL (kK (dU (bo ig hr.m rfl (aq (pv 4) (aq (pv 1) (aq (pv 2) (aq (pv 3) aI)))))))))) (ag (ar (dm))) (aJ)) (
   af (bp (dU (pv 6)) (ag (ar (nz (Bz (pv 8))))) (aJ)) (
   af (bp (PW.pt (oO (eQ (Bz (pv 8))) (kL (kK (dU (bo e7 hr.m rfl (C9 (pv 8) (pv 1) (pv 5)))))))) (ag (ar (dm))) (aJ)) (
   af (bd (gm Iq IE IF cm (pv 8) (eZ (am)))) (
   af (bp (kK (dU (bo e7 hr.m rfl (C9 (rh Cbarred_group hr.m rfl qZ (fF (pv 4) (dS e8 (by rfl) T.list Jr (eZ (pv 5))))) (pv 1) (pv 5))))) (ag (ar (dm))) (aJ)) (
   af (bB 9 dX.nd (gn (so:=ai rJ) (N:=Bk) (N':=["_law_pair","_law_worn"]) (src:=[none,some 1]) rfl rfl xH rfl (bq (pv 5)) (fun cl C s2 H2 ex=>⟨j7 0 (show (["_law_pair","_law_worn"]:List Str).Nodup by decide +kernel),gr (PW.pt (gL (eQ (iH hu (bh (pz K) (pv 0) (am) (fun _ _=>rfl)) (pv 1))) (gL (eQ (iH hu (bh (pz K) (pv 0) (am) (fun _ _=>rfl)) (pv 1))) (gu (aF jc (bh (pz K) (pv 0) (am) (fun _ _=>rfl)) (bh (pz K) (pv 0) (am) (fun _ _=>rfl)) (aM _)))))),pv 0⟩))) (
   af (bB 10 dX.nd (eO aI)) (
   af (bp (xc (pv 9) (fun _=>rfl)) (ag (jX (ix:=10) (so:=ai rJ) (N:=Bk) (N':=["_law_drawn","_law_meets"]) (src:=[none,some 9]) rfl rfl xH rfl (bq (bo bC hr.m rfl (aq (pv 0) (aq (am) (aq (am) (aq (am) aI)))))) (fun cl C s2 H2 ex=>⟨j7 0 (show (["_law_drawn","_law_meets"]:List Str).Nodup by decide +kernel),fj,bh (A7 K) (pv 1) (aV cj (pv 0) (aU (zC K) (by rfl) T.len Jk (eZ (pv 1)))) (fun _ _=>rfl)⟩) dX.nd rfl rfl)) (aJ)) (
   ag (ar (lT (nu 1 (A4 hr (by decide))) (bo jp hr.m rfl (eZ (bo jm hr.m rfl (fF (pv 10) (dS xC (by rfl) T.dict PyProof.Rows.boot_dict (eZ (pv 1))))))) (eO aI) (aM _)))))))))))))))))),?_⟩
  have nos:∀ (B:HA)(m:Str),¬ m="worn"->¬ m="holders"->¬ m="circles"->¬ m="deeds"->(bn B).lookup m=none:=fun B m h1 h2 h3 h4=>ko B h1 h2 h3 h4;have nG:∀ B:HA,(bn B).lookup ("guests" : Str)=none:=fun B=>rS B (by decide +kernel);have nM:∀ B:HA,(bn B).lookup ("moment" : Str)=none:=fun B=>rS B (by decide +kernel);have nI:∀ B:HA,(bn B).lookup ("inside" : Str)=none:=fun B=>rS B (by decide +kernel);have nS:∀ B:HA,(bn B).lookup ("story" : Str)=none:=fun B=>rS B (by decide +kernel);have nW:∀ B:HA,(bn B).lookup ("wears" : Str)=none:=fun B=>rS B (by decide +kernel);have nR:∀ B:HA,(bn B).lookup ("wearer" : Str)=none:=fun B=>rS B (by decide +kernel);have nT:∀ B:HA,(bn B).lookup ("met" : Str)=none:=fun B=>rS B (by decide +kernel);have nP:∀ B:HA,(bn B).lookup ("pairs" : Str)=none:=fun B=>rS B (by decide +kernel);have nQ:∀ B:HA,(bn B).lookup ("partners" : Str)=none:=fun B=>rS B (by decide +kernel)
  have two:(2:Nat)<=sizeLine:=by decide
  have nil0:(0:Nat)<=sizeLine:=Ip _
  have dkk:∀ wl:List (Int×Int),(dk wl).map (·.1)=(ak wl).map Sum.inl:=fun wl=>by unfold dk ak;rw[IA,IA];rfl
  refine⟨_,rfl,_,rfl,a,_,rfl,hS,fun l0 hl0=>?_⟩;rw[show iA (ns.map V.int) none (some 12)=(ns.take 12).map V.int by rw[show (12:Int)=((12:Nat):Int) from rfl,AQ,List.map_take]];have g0:=ah (o:=.lst ((ns.take 12).map V.int)) hl0;have hS0:aL K (upd H l0 (.lst ((ns.take 12).map V.int))) l0 ((ns.take 12).map V.int):=aL.of ac;have hS:=g0.seq hS;generalize upd H l0 (.lst ((ns.take 12).map V.int))=H0 at g0 hS0 hS ⊢;refine⟨l0,ns.take 12,rfl,hS0,fun t w m ls H1 es s1 ht M dn nm el ex=>?_⟩;refine⟨t,_,rfl,dC.of ht,rfl,_,_,rfl,_,_,rfl,_,_,rfl,rfl,?_⟩;have ce:cX (ns.take 12) 1=cX ns 1:=zF (by decide) (by decide);rw[ce]at nm;generalize hcn:cX ns 1=cn at nm;have L40:(ca 40 cn).length=40:=tS 40 cn;have nmS:∀ d∈es,∀ g∈names d,g∈ca 40 cn/\cp g:=fun d hd g hg=>⟨nm d hd g hg,gl (nm d hd g hg)⟩;have P:=yn dn nmS es.length;rw[Ir]at P;have pm:=P.ml;have lno:=yg P.good P.of
  have hls:bN H1 ls es:=by have:=M.hs;rw[kN]at this;exact this
  refine⟨_,rfl,ls,es,ca 40 cn,rfl,hls,dn,el,by omega,nmS,fun x B H2 hx E2=>?_⟩
  have nB:∀ b o,H1 b=some o->b∉B.fp:=fun b o e z=>by rw[E2.nfp b z]at e;cases e
  have wB:=nB _ _ M.hw;have hw2:=E2.same _ _ M.hw;have hm2:=E2.same _ _ M.hm;have hs2:=bX hls E2.same;have hS2:=(s1.trans E2.same).seq hS;have hall:=E2.hall;have G:=P.good;have PW:=xb G;have smk:∀ g∈ak (da es).worn,cp g:=fun g hg=>gl (P.of.1 g hg);obtain⟨rs1,rs2⟩:=xh PW;have al:=P.al;have ci:=P.ci;obtain⟨st,est⟩:∃ st,st=da es:=⟨_,rfl⟩;rw[<-est]at hw2 hall G PW smk rs1 rs2 lno al ci
  have h64:st.worn.length<64:=by omega
  have wl64:(bv st.worn).length<=64:=by have:=uh st.worn;omega
  have oz:=P.of;have zz:=P.sz;have mo:=P.mo;generalize eml:lL es=ml at *;have hT2:cL H2 P0 av ao:=.inl ((g0.trans (s1.trans E2.same)) _ _ hTb)
  have hs2:bN H2 ls st.deeds:=by rw[est,kN];exact hs2
  have n40:st.worn.length<=40:=by have:=lno.1;omega
  refine⟨_,rfl,a,ns,12,24,196,rfl,hS2,by decide,by decide,by decide,fun ld H3 ds hld s3 hd3 on3 len3=>?_⟩;refine⟨_,rfl,a,ns,1,rfl,s3.seq hS2,by decide,ld,ds,_,rfl,hd3,fun d hd=>(on3 d hd).1,by omega,fun lt H4 hlt s4 row4=>?_⟩
  have ltp:(ds.map (Cy (cX ns 1))).length<=400:=by rw[Hs];omega
  generalize ds.map (Cy (cX ns 1))=tp at row4 ltp;have s24:=s3.trans s4;have M4:MB K a (ns.map V.int) c x B st w m ls lt ml tp P0 av ao H4:=⟨hall.mono s24,s24 _ _ hw2,s24 _ _ hm2,bX hs2 s24,row4,hT2.same s24,s24.seq hS2⟩;clear hT2 hs2 hm2 hw2 hall hS2 s24
  have hand:∀ {HX:Hp},MB K a (ns.map V.int) c x B st w m ls lt ml tp P0 av ao HX->∃ as:List Addr,HX lt=some (.lst (as.map V.ref))/\∀ lq:Addr,HX lq=none->MB K a (ns.map V.int) c x B st w m ls lt ml tp P0 av ao (upd HX lq (.lst (as.map V.ref)))/\bJ (upd HX lq (.lst (as.map V.ref))) lq tp:=fun {HX} M=>by
   obtain⟨as,hl,hp⟩:=M.ra;exact⟨as,hl,fun lq hlq=>⟨M.same (ah hlq),as,ac,Paired.mapP hp fun b e z=>ah hlq _ _ z⟩⟩
  obtain⟨as4,hl4,hd4⟩:=hand M4;refine⟨_,rfl,_,rfl,lt,_,rfl,.inl (aL.of hl4),fun lq hlq=>?_⟩;obtain⟨M5,row5⟩:=hd4 lq hlq;have g4:=ah (o:=.lst (as4.map V.ref)) hlq;generalize upd H4 lq (.lst (as4.map V.ref))=H5 at M5 row5 ⊢;clear hd4 hl4 g4;refine⟨x,lq,B,st,tp,rfl,M5.S,G,h64,row5,ltp,M5.tb,smk,fun ts TR=>⟨fun nb q rs H6 hq b6 t6 row6 MR=>?_,fun hb H6 b6 t6=>?_⟩⟩
  ·have can:=(pk TR).mp nb
   have M6:=M5.but b6 t6;obtain⟨as6,hl6,hd6⟩:=hand M6;refine⟨_,rfl,lt,_,rfl,.inl (aL.of hl6),fun lh hlh=>?_⟩;obtain⟨M7,row7⟩:=hd6 lh hlh;generalize upd H6 lh (.lst (as6.map V.ref))=H7 at M7 row7 ⊢;refine⟨_,rfl,_,rfl,x,lh,B,st,tp,rfl,M7.S,G,h64,row7,ltp,M7.tb,smk,fun ts2 TR2=>⟨fun nb2 H8 b8 t8=>?_,fun t2 ht2 hb2=>?_⟩⟩
   ·have M8:=M7.but b8 t8
    refine⟨_,rfl,_,rfl,lh,lt,_,_,rfl,rfl,nF (b8.row M7.tb row7),nF M8.ra,fun b hb=>⟨_,rfl,?_⟩⟩;rw[show (if true=true then !b else b)=false by rw[hb.mpr rfl];rfl];refine aR ⟨_,rfl,_,rfl,_,rfl,_,rfl,x,w,m,ls,B,st,ml,ca 40 cn,rfl,M8.S,wB,M8.hw,M8.hm,M8.hs,G,al,ci,mo,by omega,by omega,h64,smk,fun H9 s9=>⟨_,rfl,aR ?_⟩⟩;refine⟨_,rfl,_,rfl,bZ ⟨_,rfl,?_⟩⟩;exact k _
   ·rw[(pk TR2).mpr can t2 ht2]at hb2
    cases hb2
  ·have nc:¬ yE tp st.worn:=fun c=>by
    obtain⟨t,ht,hbt⟩:=hb;rw[(pk TR).mpr c t ht]at hbt;cases hbt
   have nbz:∀ {ts':List (List Nd)},AF (mJ tp) (gi st) ts' []->¬ ∀ t∈ts',iq st t=false:=fun T z=>nc ((pk T).mp z);refine⟨_,UO.x,bZ ?_⟩;have M6:=M5.but b6 t6;obtain⟨as6,hl6,hd6⟩:=hand M6;refine⟨_,rfl,lt,_,rfl,.inl (aL.of hl6),fun lh hlh=>?_⟩;obtain⟨M7,row7⟩:=hd6 lh hlh;generalize upd H6 lh (.lst (as6.map V.ref))=H7 at M7 row7 ⊢;refine⟨_,rfl,_,rfl,x,lh,B,st,tp,rfl,M7.S,G,h64,row7,ltp,M7.tb,smk,fun ts2 TR2=>⟨fun nb2=>absurd nb2 (nbz TR2),fun t2 ht2 hb2 q H8 hq b8 t8 hq8=>?_⟩⟩;have M8:=M7.but b8 t8;refine⟨_,rfl,_,rfl,lh,lt,_,_,rfl,rfl,nF (b8.row M7.tb row7),nF M8.ra,fun b hb=>⟨_,rfl,?_⟩⟩;rw[show (if true=true then !b else b)=false by rw[hb.mpr rfl];rfl];refine aR ⟨_,rfl,_,rfl,_,rfl,_,rfl,x,w,m,ls,B,st,ml,ca 40 cn,rfl,M8.S,wB,M8.hw,M8.hm,M8.hs,G,al,ci,mo,by omega,by omega,h64,smk,fun H9 s9=>⟨_,rfl,aR ?_⟩⟩;have M9:=M8.same s9;have K2:=AL TR2 ht2 hb2;have l2:=xo TR2 ht2;refine⟨_,rfl,_,rfl,aR ⟨_,rfl,_,rfl,aR ⟨_,rfl,_,rfl,_,rfl,q,w,lt,st.worn,tp,aA t2,rfl,s9 _ _ hq8,by omega,M9.hw,h64,M9.ra,K2,fun H10 s10=>⟨_,rfl,aR ?_⟩⟩⟩⟩;have hqA:=s10 _ _ (s9 _ _ hq8)
   have lk2:((aD (aA t2)).map V.int).length<64:=by rw[Hs,dR];omega
   refine⟨_,rfl,.inl ⟨rfl,_,aL.of hqA⟩,q,_,_,rfl,rfl,hqA,Ij lk2 (by decide),?_⟩;have bE:fC P0 H7 (upd H10 q (.lst ((aD (aA t2)).map V.int++[V.int 5]))):=fC.put (fC.same b8 (s9.trans s10)) hq;have tE:cL (upd H10 q (.lst ((aD (aA t2)).map V.int++[V.int 5]))) P0 av ao:=cL.put (t8.same (s9.trans s10)) hqA;generalize upd H10 q (.lst ((aD (aA t2)).map V.int++[V.int 5]))=HE at bE tE ⊢;have ME:=M7.but bE tE;obtain⟨asE,hlE,hdE⟩:=hand ME;refine⟨_,rfl,_,rfl,lt,_,rfl,.inl (aL.of hlE),fun li hli=>?_⟩;obtain⟨MF,rowF⟩:=hdE li hli;generalize upd HE li (.lst (asE.map V.ref))=HF at MF rowF ⊢;refine⟨x,li,B,st,tp,rfl,MF.S,G,h64,rowF,ltp,MF.tb,smk,fun ts3 TR3=>⟨fun nb3=>absurd nb3 (nbz TR3),fun t3 ht3 hb3 q3 HG hq3 bG tG hqG=>?_⟩⟩;have MG:=MF.but bG tG;have l3:=xo TR3 ht3;refine⟨_,rfl,_,rfl,q3,w,lt,st.worn,tp,aA t3,rfl,hqG,by omega,MG.hw,h64,MG.ra,AL TR3 ht3 hb3,fun HI sI=>⟨_,rfl,aR ?_⟩⟩;have MI:=MG.same sI;obtain⟨asI,hlI,hpI⟩:=id MI.ra
   have gD:∀ {HX:Hp}(g:Int),HX w=some (.dK (dk st.worn))->bM HX w (.int g) ((look st.worn g).map V.int):=fun {HX} g e=>by have:=bM.k (k:=Sum.inl g) e;rw[bT]at this;exact this
   have at0:∀ {u v:V},ur [u,v] 0=some u:=rfl;have at1:∀ {u v:V},ur [u,v] 1=some v:=rfl
   have h1k:tp.length<=1000:=by omega
   refine⟨_,rfl,lt,rfl,⟨_,aL.of hlI⟩,fun lm hlm=>?_⟩;refine xL (K:=K) (f:=fun p=>(look st.worn p.1).isSome&&((look st.worn p.2).isSome&&!decide (p.1=p.2))) hlm MI.ra h1k (fun p b HK Q' hp0 hB sK kk=>?_) (fun HJ sJ rowJ=>?_)
   ·have kk:=kk HK (aB.refl _)
    have wK:=sK _ _ MI.hw;refine⟨_,rfl,b,_,_,_,rfl,rfl,dC.of hB,at0,_,rfl,w,_,rfl,gD _ wK,_,rfl,?_⟩;rw[JB]
    cases e1:(look st.worn p.1).isSome with
    | false=>rw[e1]at kk;exact aR kk
    | true =>
     rw[e1]at kk;refine bZ ⟨_,rfl,b,_,_,_,rfl,rfl,dC.of hB,at1,_,rfl,w,_,rfl,gD _ wK,_,rfl,?_⟩;rw[JB]
     cases e2:(look st.worn p.2).isSome with
     | false=>rw[e2]at kk;exact aR kk
     | true =>
      rw[e2]at kk;refine bZ ⟨_,rfl,b,_,_,_,rfl,rfl,dC.of hB,at0,_,rfl,b,_,_,_,rfl,rfl,dC.of hB,at1,rfl,_,rfl,?_⟩
      have e3:decide (V.int p.1=V.int p.2)=decide (p.1=p.2):=by
       by_cases z:p.1=p.2
       ·rw[z,HY rfl,HY rfl]
       ·rw[Ih z,Ih (fun q=>z (V.int.inj q))]
      rw[e3];exact kk
   have MJ:=MI.same sJ
   have nb:∀ p∈tp.filter (fun p=>(look st.worn p.1).isSome&&((look st.worn p.2).isSome&&!decide (p.1=p.2))),p∈tp/\p.1∈ak st.worn/\p.2∈ak st.worn:=fun p hp=>by
    rw[Iy]at hp;obtain⟨h1,h2⟩:=hp;have h2:((look st.worn p.1).isSome&&((look st.worn p.2).isSome&&!decide (p.1=p.2)))=true:=h2;rw[Jd,Jd]at h2;exact⟨h1,bL.mp h2.1,bL.mp h2.2.1⟩
   generalize tp.filter (fun p=>(look st.worn p.1).isSome&&((look st.worn p.2).isSome&&!decide (p.1=p.2)))=ms at rowJ nb;refine⟨nil0,fun lr hlr=>?_⟩;have sR:=ah (o:=.lst []) hlr;have M10:=MJ.same sR;have rowR:bJ (upd HJ lr (.lst [])) lr []:=⟨[],ac,.nil⟩;have rowM:=rowJ.mono sR;generalize upd HJ lr (.lst [])=HZ at M10 rowR rowM ⊢
   by_cases hms:ms=[]
   ·subst hms
    obtain⟨asm,hm0,hpm⟩:=id rowM;cases hpm;refine⟨_,rfl,false,.inl ⟨[],aL.of hm0,rfl⟩,aR ?_⟩;have MZ:=M10;have rowZ:=rowR;have cond:∀ p∈([]:List (Int×Int)),p∈tp/\p.1∈ak st.worn/\p.2∈ak st.worn:=fun p hp=>(by cases hp);refine⟨_,rfl,_,rfl,w,_,rfl,MZ.hw,fun dd hdd=>?_⟩;have u1:=ah (o:=.dK (dk st.worn)) hdd;have hpl:=jV G.wn (fun p hp=>(cond p hp).2);refine⟨lr,dd,[],st.worn,rfl,rowZ.mono u1,by decide,ac,by omega,?_⟩;rw[iW];have u2:=ah (o:=.dK (dk (aX st.worn []))) hdd;have d2:upd HZ dd (.dK (dk (aX st.worn []))) dd=some (.dK (dk (aX st.worn []))):=ac;generalize upd HZ dd (.dK (dk (aX st.worn [])))=HA at u2 d2 ⊢;refine⟨dd,_,rfl,d2,by omega,fun l9 HB hl9 v1 h9=>⟨nil0,fun l10 hl10=>?_⟩⟩;have v2:=ah (o:=.lst []) hl10;have h10:upd HB l10 (.lst []) l10=some (.lst []):=ac;generalize upd HB l10 (.lst [])=HC at v2 h10 ⊢;refine⟨l9,l10,_,_,rfl,rfl,gy (aL.of (v2 _ _ h9)),gy (ns:=[]) (aL.of h10),fun b hb=>?_⟩
    have bf:b=false:=by
     cases b with
     | false=>rfl
     | true=>exact absurd (wV.mp (hb.mp rfl)) (tj K2 cond)
    rw[bf];exact k _
   ·obtain⟨asm,hm0,hml,g,v,hv⟩:=BN rowM hms
    have mpos:0<ms.length:=List.length_pos_iff.mpr hms
    have tr:true = !(asm.map V.ref).isEmpty:=by
     cases asm with
     | nil=>rw[<-hml]at mpos;cases mpos
     | cons _ _=>rfl
    refine⟨_,rfl,true,.inl ⟨_,aL.of hm0,tr⟩,bZ ?_⟩;refine⟨_,rfl,a,ns,14,40,10000,rfl,M10.sq,by decide,by decide,by decide,fun le HS es2 hle sS he on2 len2=>?_⟩;refine⟨le,rfl,⟨_,aL.of he⟩,fun lc hlc=>?_⟩;refine zZ (K:=K) (f:=fun d=>V.ref (g d)) hlc he (by omega) (fun r HK Q' hr0 sK kk=>?_) (fun HZ sT hT=>?_)
    ·have hmK:=sK _ _ (sS _ _ hm0)
     have lz:(((asm.map V.ref).length:Nat):Int)=(ms.length:Int):=by rw[Hs,hml]
     refine⟨_,rfl,_,rfl,_,rfl,lm,_,rfl,.inl (aL.of hmK),r,_,rfl,rfl,by rw[lz];omega,?_⟩;rw[lz];exact⟨lm,_,_,_,rfl,rfl,aL.of hmK,(hv r).1,kk HK (aB.refl _)⟩
    have MZ:=(M10.same sS).same sT;have rowZ:bJ HZ lc (es2.map v):=⟨es2.map g,by rw[hT,IA];rfl,qY g v es2 fun d _=>sT _ _ (sS _ _ (hv d).2.2)⟩
    have cond:∀ p∈es2.map v,p∈tp/\p.1∈ak st.worn/\p.2∈ak st.worn:=fun p hp=>by
     obtain⟨d,_,rfl⟩:=IB.mp hp;exact nb _ (hv d).2.1
    refine⟨_,rfl,_,rfl,w,_,rfl,MZ.hw,fun dd hdd=>?_⟩;have u1:=ah (o:=.dK (dk st.worn)) hdd;have hpl:=jV G.wn (fun p hp=>(cond p hp).2);refine⟨lc,dd,(es2.map v),st.worn,rfl,rowZ.mono u1,by rw[Hs];omega,ac,by omega,?_⟩;rw[iW];have u2:=ah (o:=.dK (dk (aX st.worn (es2.map v)))) hdd;have d2:upd HZ dd (.dK (dk (aX st.worn (es2.map v)))) dd=some (.dK (dk (aX st.worn (es2.map v)))):=ac;generalize upd HZ dd (.dK (dk (aX st.worn (es2.map v))))=HA at u2 d2 ⊢;refine⟨dd,_,rfl,d2,by omega,fun l9 HB hl9 v1 h9=>⟨nil0,fun l10 hl10=>?_⟩⟩;have v2:=ah (o:=.lst []) hl10;have h10:upd HB l10 (.lst []) l10=some (.lst []):=ac;generalize upd HB l10 (.lst [])=HC at v2 h10 ⊢;refine⟨l9,l10,_,_,rfl,rfl,gy (aL.of (v2 _ _ h9)),gy (ns:=[]) (aL.of h10),fun b hb=>?_⟩
    have bf:b=false:=by
     cases b with
     | false=>rfl
     | true=>exact absurd (wV.mp (hb.mp rfl)) (tj K2 cond)
    rw[bf];exact k _
end
theorem all_mk2 {l:PySem.W.OpenLaw}{w:World}{K:PySem.W.Frag}{h:Heap}{mg:Str->Option Value}{fa:Addr}{C cW cA cM cS cT cN fN co:Addr}(X:K.In h)(G:h.Ns mainGlobals mg)(hfa:mg "law" = some (.ref fa)){c0 P0:Addr}(CK:kR K c0 P0)(htab:PySem.W.tabIn K "talking_trees" = some (c0,P0))(aC:PySem.W.nsIn K mainGlobals "Hall" = some (some (.ref C)))(n_cW:PySem.W.nsIn K mainGlobals "WaltzError" = some (some (.ref cW)))(n_cA:PySem.W.nsIn K mainGlobals "AlreadyIn" = some (some (.ref cA)))(n_cM:PySem.W.nsIn K mainGlobals "Masked" = some (some (.ref cM)))(n_cS:PySem.W.nsIn K mainGlobals "Same" = some (some (.ref cS)))(n_cT:PySem.W.nsIn K mainGlobals "Met" = some (some (.ref cT)))(n_cN:PySem.W.nsIn K mainGlobals "NoGuest" = some (some (.ref cN)))(b_cN:PySem.W.findIn K (.ref cN) "__init__" = some (some (.ref fN)))(pg:PySem.W.plainGet K C Str.empty=true)(hd:PySem.W.hasDictIn K C=true)(po:PySem.W.plainOver K C=true)(sa:PySem.W.findIn K (.ref C) "__setattr__" = some (some (.builtin "object.__setattr__")))(y0:PySem.W.findIn K (.ref C) "worn" = some none)(qJ:PySem.W.findIn K (.ref C) "holders" = some none)(qI:PySem.W.findIn K (.ref C) "circles" = some none)(wQ:PySem.W.findIn K (.ref C) "deeds" = some none)(e_cA:eL K cA)(e_cM:eL K cM)(e_cS:eL K cS)(e_cT:eL K cT)(e_cN:kE K cN fN=true)(g1:PySem.W.findIn K (.ref cN) "__getattribute__" = some (some (.builtin "BaseException.__getattribute__")))(g2:PySem.W.findIn K (.ref cN) "__getattr__" = some none)(g3:PySem.W.findIn K (.ref cN) "__setattr__" = some (some (.builtin "object.__setattr__")))(g4:PySem.W.findIn K (.ref cN) "guest" = some none)(g5:PySem.W.hasDictIn K cN=true)(g6:PySem.W.mroIn K cN (.type "BaseException")=some true)(g7:PySem.W.mroIn K cN (.type "object")=some true)(g8:((PySem.W.clsIn K cN).any fun cd=>hV cd.mro)=true)(tN:PySem.W.typeIn K (.ref fN)=some (.type "function"))(wS:PySem.W.specialIn K (.ref cW) "__getattribute__" = some (some (.builtin "type.__getattribute__")))(wR:PySem.W.readsIn K cW (.type "type")=true)(wI:PySem.W.findCls K (.ref cW) (.type "type") "__init__" = some (.val (.builtin "ValueError.__init__")))(x_aa:PySem.W.exmOne K (.ref cA) (.ref cA)=some true)(x_ma:PySem.W.exmOne K (.ref cM) (.ref cA)=some false)(x_mm:PySem.W.exmOne K (.ref cM) (.ref cM)=some true)(x_sa:PySem.W.exmOne K (.ref cS) (.ref cA)=some false)(x_sm:PySem.W.exmOne K (.ref cS) (.ref cM)=some false)(x_ss:PySem.W.exmOne K (.ref cS) (.ref cS)=some true)(x_ta:PySem.W.exmOne K (.ref cT) (.ref cA)=some false)(x_tm:PySem.W.exmOne K (.ref cT) (.ref cM)=some false)(x_ts:PySem.W.exmOne K (.ref cT) (.ref cS)=some false)(x_tt:PySem.W.exmOne K (.ref cT) (.ref cT)=some true)(x_na:PySem.W.exmOne K (.ref cN) (.ref cA)=some false)(x_nm:PySem.W.exmOne K (.ref cN) (.ref cM)=some false)(x_ns:PySem.W.exmOne K (.ref cN) (.ref cS)=some false)(x_nt:PySem.W.exmOne K (.ref cN) (.ref cT)=some false)(x_nn:PySem.W.exmOne K (.ref cN) (.ref cN)=some true)(mk:PySem.W.makesIn K C=true)(kc:PySem.W.keepIn K (.ref C)=true)(n_co:PySem.W.nsIn K mainGlobals "NoWay" = some (some (.ref co)))(e_co:eL K co)(x_oo:PySem.W.exmOne K (.ref co) (.ref co)=some true)(kg:ba K "_law_cell_at" fZ)(oh:ba K "_law_crowd" iQ)(pW:ba K "_law_size" jN)(om:ba K "_law_guest" iS)(pV:ba K "_law_deed" jM)(oj:ba K "_law_draws" iR)(gT:ba K "_law_draws_from" dN)(oi:ba K "_law_deeds" dM)(sY:ba K "_law_key" kQ)(sX:ba K "_law_due" kP)(og:ba K "_law_after" iP)(kh:ba K "_law_evening" f6)(n6:cK K C "__init__" "Hall.__init__" iN)(kS:cK K C "dress" "Hall.dress" gO)(nZ:cK K C "come" "Hall.come" iM)(jq:cK K cN "__init__" "NoGuest.__init__" eU)(kX:cK K C "wears" "Hall.wears" gR)(sW:cK K C "go" "Hall.go" kO)(pU:cK K C "met" "Hall.met" jL)(iZ:cK K C "acquaint" "Hall.acquaint" dY)(i4:cK K C "exchange" "Hall.exchange" dZ)(vM:ba K "_law_do" nN)(ki:ba K "_law_hall_of" f7)(oq:ba K "_law_terms" fz)(n8:ba K "both_ways" iO)(oA:ba K "tree_from" db)(j8:cK K C "guests" "Hall.guests" fV)(i6:ba K "talking_trees" az)(n9:ba K "is_barred" fu)(oy:ba K "ring_from" iV)(vN:ba K "way_up" nO)(km:ba K "way_between" gd)(pX:ba K "tree_row" gA)(kj:ba K "morning_row" f8)(jr:ba K "barred_group" eV)(kU:cK K C "story" "Hall.story" gQ)(ka:cK K C "moment" "Hall.moment" fX)(i5:cK K C "partners" "Hall.partners" d5)(kT:cK K C "pairs" "Hall.pairs" d7)(j9:cK K C "inside" "Hall.inside" fW)(kf:cK K C "wearer" "Hall.wearer" fY)(kZ:ba K "_law_stands" gS)(ou:ba K "_law_whole" iU)(k7:ba K "_law_wholes" d8)(js:ba K "_law_on_terms" eW)(kY:ba K "_law_barred" du)(ox:ba K "_law_wrong" fA)(oo:ba K "_law_paper" iT)(DC:ba K "law" rJ)(DQ:PySem.W.nsIn K mainGlobals "len" = some none)(zu:PySem.W.nsIn K mainGlobals "range" = some none)(mI:PySem.W.nsIn K mainGlobals "isinstance" = some none)(zw:PySem.W.nsIn K mainGlobals "tuple" = some none)(Ck:PySem.W.nsIn K mainGlobals "list" = some none)(DP:PySem.W.nsIn K mainGlobals "int" = some none)(Ci:PySem.W.nsIn K mainGlobals "bool" = some none)(DN:PySem.W.nsIn K mainGlobals "all" = some none)(DO:PySem.W.nsIn K mainGlobals "any" = some none)(xr:PySem.W.nsIn K mainGlobals "sorted" = some none)(rO:PySem.W.nsIn K mainGlobals "reversed" = some none)(DT:PySem.W.nsIn K mainGlobals "set" = some none)(DS:PySem.W.nsIn K mainGlobals "min" = some none)(DR:PySem.W.nsIn K mainGlobals "max" = some none)(Cj:PySem.W.nsIn K mainGlobals "dict" = some none)(DW:PySem.W.nsIn K mainGlobals "zip" = some none)(oV:PySem.W.nsIn K mainGlobals "enumerate" = some none)(DV:PySem.W.nsIn K mainGlobals "sum" = some none)(DU:PySem.W.nsIn K mainGlobals "str" = some none) :
  ∃ fd:FuncData,(∀ (s:Shared)(v:Value),BindsTo s fd ⟨[v],[]⟩ [("_law_script",v)])/\∀ base:Heap,K.In base->base.Ns mainGlobals mg->ui mg base->aS l.prog w K mg base cJ 10 fa fd ["_law_script"] (rG K P0):=by
 obtain⟨c,rfl,rfl,rfl,rfl,rfl,rfl,rfl,rfl⟩:∃ c:HX,c.C=C/\c.cW=cW/\c.cA=cA/\c.cM=cM/\c.cS=cS/\c.cT=cT/\c.cN=cN/\c.fN=fN:=⟨⟨C,cW,cA,cM,cS,cT,cN,fN⟩,rfl,rfl,rfl,rfl,rfl,rfl,rfl,rfl⟩;have T:G4 mg:=⟨Iu X G DQ,Iu X G zu,Iu X G mI,Iu X G zw,Iu X G Ck,Iu X G DP,Iu X G Ci,Iu X G DN,Iu X G DO,Iu X G xr,Iu X G rO,Iu X G DT,Iu X G DS,Iu X G DR,Iu X G Cj,Iu X G DW,Iu X G oV,Iu X G DV,Iu X G DU⟩;have U:HT K mg c:=⟨⟨pg,hd,po,sa⟩,y0,qJ,qI,wQ,IU X G aC,e_cA,e_cM,e_cS,e_cT,IU X G n_cA,IU X G n_cM,IU X G n_cS,IU X G n_cT,IU X G n_cN,IU X G n_cW,e_cN,⟨g1,g2,g3,g4,g5,g6,g7,g8⟩,tN,wS,wR,wI⟩;have VM:HM K c:=⟨x_aa,x_ma,x_mm,x_sa,x_sm,x_ss,x_ta,x_tm,x_ts,x_tt,x_na,x_nm,x_ns,x_nt,x_nn⟩;have UO:GQ K mg co:=⟨e_co,IU X G n_co,x_oo⟩;obtain⟨f_Hall_init,uA,a_Hall_init,i_Hall_init,G_Hall_init⟩:=n6;obtain⟨f_NoGuest_init,oY,a_NoGuest_init,i_NoGuest_init,G_NoGuest_init⟩:=jq;obtain⟨f_tree_from,uB,a_tree_from,G_tree_from⟩:=oA;obtain⟨f_law,D4,a_law,G_law⟩:=DC;have e:=hfa.symm.trans (IU X G a_law);cases e;have eN:=Hy (Hy (a_NoGuest_init.symm.trans b_cN))
 have eN2:f_NoGuest_init=c.fN:=by injection eN
 refine⟨D4,?_,fun base _ _ BK=>?_⟩
 ·obtain⟨_,_,_,_,_,_,_,_,_,rfl,_,_⟩:=G_law.ex
  exact fun s v=>.of_eq rfl
 ·have bU:ay l.prog w K mg base "_law_cell_at" 1 ["_law_script","_law_k"] (rE K):=m7 X G kg fun _ _ h=>qS T U VM UO h
  have ji:ay l.prog w K mg base "_law_crowd" 1 ["_law_cell"] pJ:=m7 X G oh fun _ _ h=>uX T U VM UO h;have dP:ay l.prog w K mg base "_law_size" 1 ["_law_cell"] rH:=m7 X G pW fun _ _ h=>wY T U VM UO h;have bI:ay l.prog w K mg base "_law_guest" 2 ["_law_k","_law_cell"] jY:=m7 X G om fun _ _ h=>u0 T U VM UO h dP;have kB:ay l.prog w K mg base "_law_deed" 3 ["_law_drawn","_law_many","_law_cell"] pK:=m7 X G pV fun _ _ h=>wX T U VM UO h bI;have jk:ay l.prog w K mg base "_law_draws" 2 ["_law_cell","_law_many","_law_base"] pL:=m7 X G oj fun _ _ h=>uZ T U VM UO h dP;have bC:ay l.prog w K mg base "_law_draws_from" 3 ["_law_script","_law_start","_law_most","_law_base"] (rF K):=m7 X G gT fun _ _ h=>lQ T U VM UO h jk;have jj:ay l.prog w K mg base "_law_deeds" 4 ["_law_script"] (mj K):=m7 X G oi fun _ _ h=>uY T U VM UO h bU ji bI kB bC;have fD:ay l.prog w K mg base "_law_key" 1 ["_law_one","_law_other"] xm:=m7 X G sY fun _ _ h=>yj T U VM UO h;have mK:ay l.prog w K mg base "_law_due" 2 ["_law_worn","_law_met","_law_deed_here"] zi:=m7 X G sX fun _ _ h=>yi T U VM UO h fD;have jh:ay l.prog w K mg base "_law_after" 2 ["_law_worn","_law_met","_law_deed_here"] pI:=m7 X G og fun _ _ h=>uW T U VM UO h fD;have gC:ay l.prog w K mg base "_law_evening" 6 ["_law_script"] (iK K):=m7 X G kh fun _ _ h=>qT T U VM UO h jj mK jh;have MH:F4 l.prog w K mg base c:=⟨f_Hall_init,uA,⟨mk,a_Hall_init,i_Hall_init,kc⟩,uT T U VM UO G_Hall_init ,(G_Hall_init.binds (ps:=["self"]) (by intro _ _ _ _ _ _;(repeat refine Ff fun _=>?_);exact Fe rfl))⟩
  have cE:aK l.prog w K mg base cJ c.C "dress" 1 ["self","guest","mask"] (mn c.C):=yW kS fun _ _ h=>sh T U VM UO h;have jt:aK l.prog w K mg base (iY l.prog w) c.C "come" 2 ["self","guest"] (vA c):=yW nZ fun _ _ h=>uS T U VM UO h cE;have NG:k9 l.prog w K mg base c:=⟨oY,eN2▸o8 T U VM UO G_NoGuest_init ,(G_NoGuest_init.binds (ps:=["self","guest"]) (by intro _ _ _ _ _ _;(repeat refine Ff fun _=>?_);exact Fe rfl))⟩;have aN:aK l.prog w K mg base (iY l.prog w) c.C "wears" 3 ["self","guest"] (gz c):=yW kX fun _ _ h=>sr T U VM UO h NG;have mO:aK l.prog w K mg base (iY l.prog w) c.C "go" 4 ["self","guest"] (Dp c):=yW sW fun _ _ h=>yh T U VM UO h aN;have kC:aK l.prog w K mg base cJ c.C "met" 1 ["self","one","other"] (zj c.C):=yW pU fun _ _ h=>wW T U VM UO h;have dw:aK l.prog w K mg base cJ c.C "acquaint" 1 ["self","one","other"] (zh c.C):=yW iZ fun _ _ h=>nh T U VM UO h;have eI:aK l.prog w K mg base (iY l.prog w) c.C "exchange" 4 ["self","one","other"] (vB c):=yW i4 fun _ _ h=>ni T U VM UO h aN kC cE dw;have pT:XCallee l.prog w K mg base "_law_do" 5 ["_law_hall","_law_deed_here"] (Do c):=Gp X G vM fun _ _ h=>Ad T U VM UO h jt mO eI;have gE:ay l.prog w K mg base "_law_hall_of" 7 ["_law_story"] (mr c):=m7 X G ki fun _ _ h=>qU T U VM UO h MH pT;have jn:ay l.prog w K mg base "_law_terms" 3 ["_law_draws_here","_law_cell"] mi:=m7 X G oq fun _ _ h=>u4 T U VM UO h bI;have Cboth_ways:ay l.prog w K mg base "both_ways" 1 ["terms"] vz:=m7 X G n8 fun _ _ h=>uU T U VM UO h;have cI:aK l.prog w K mg base cJ c.C "guests" 1 ["self"] (jK c.C):=yW j8 fun _ _ h=>qN T U VM UO h
  have mP:∀ (b:Heap)(fl c1 cy:Addr)(vy:V)(pm ct:Value),Mod K mg b->sZ b ao (CZ (ic az)) (C0 (ic az)) (C2 (ic az)) "known" vy fl c1 cy pm ct->aS l.prog w K mg b cJ 4 f_tree_from uB ["first","guests","linked"] (pP ao fl c1 vy):=by
   intro b fl c1 cy vy pm ct md lm;refine A0 (ql:=ao) fun i hv=>?_;subst hv;exact vb T U VM UO G_tree_from (fun H H' j s=>pY.same H H' j s) (jD T U VM UO lm) lm.ob rfl (fun s us hl=>match us,hl with | [_,_],_=>.of_eq rfl)
  have Ctalking_trees:XCallee l.prog w K mg base "talking_trees" 5 ["hall","terms"] (mz c P0 av ao):=by
   obtain⟨f9,fd9,a9,g9⟩:=i6;exact⟨f9,fd9,nk T U VM UO g9 (B3 htab a9 g9) CK BK (IU X G a_tree_from) G_tree_from.kp (G_tree_from.binds (ps:=["first","guests","linked"]) fun _ _ _ _ _ _ us hl=>match us,hl with | [_,_,_],_=>rfl) Cboth_ways cI mP,IU X G a9,g9.kp,g9.binds (ps:=["hall","terms"]) fun _ _ _ _ _ _ us hl=>match us,hl with | [_,_],_=>rfl⟩
  have Cis_barred:ay l.prog w K mg base "is_barred" 5 ["hall","tree"] (rD c):=m7 X G n9 fun _ _ h=>uV T U VM UO h aN;have Cring_from:ay l.prog w K mg base "ring_from" 2 ["worn","first"] pN:=m7 X G oy fun _ _ h=>va T U VM UO h;have Cway_up:ay l.prog w K mg base "way_up" 1 ["tree","guest"] vH:=m7 X G vN fun _ _ h=>Ae T U VM UO h;have Cway_between:ay l.prog w K mg base "way_between" 2 ["tree","one","other"] vD:=m7 X G km fun _ _ h=>qW T U VM UO h Cway_up;have Ctree_row:ay l.prog w K mg base "tree_row" 5 ["hall","tree"] (vF c):=m7 X G pX fun _ _ h=>wZ T U VM UO h aN Cring_from Cway_between;have Cmorning_row:XCallee l.prog w K mg base "morning_row" 6 ["hall","terms"] (vE c co P0 av ao):=Gp X G kj fun _ _ h=>qV T U VM UO h Ctalking_trees Cis_barred Ctree_row;have Cbarred_group:XCallee l.prog w K mg base "barred_group" 6 ["hall","terms"] (vw c P0 av ao):=Gp X G jr fun _ _ h=>o9 T U VM UO h Ctalking_trees Cis_barred;have ip:aK l.prog w K mg base cJ c.C "story" 1 ["self"] (pO c.C):=yW kU fun _ _ h=>sj T U VM UO h;have gH:aK l.prog w K mg base cJ c.C "moment" 1 ["self"] (mx c.C):=yW ka fun _ _ h=>qP T U VM UO h;have eJ:aK l.prog w K mg base cJ c.C "partners" 1 ["self","guest"] (iL c.C):=yW i5 fun _ _ h=>nj T U VM UO h;have io:aK l.prog w K mg base cJ c.C "pairs" 2 ["self"] (mq c.C):=yW kT fun _ _ h=>si T U VM UO h eJ;have gG:aK l.prog w K mg base cJ c.C "inside" 1 ["self","guest"] (mw c.C):=yW j9 fun _ _ h=>qO T U VM UO h;have gI:aK l.prog w K mg base (iY l.prog w) c.C "wearer" 3 ["self","mask"] (mB c):=yW kf fun _ _ h=>qQ T U VM UO h NG
  have ig:ay l.prog w K mg base "_law_stands" 4 ["_law_hall","_law_worn","_law_met","_law_story"] (my c):=m7 X G kZ fun _ _ h=>sv T U VM UO h cI ip gH io gG aN gI;have jo:ay l.prog w K mg base "_law_whole" 1 ["_law_found"] pQ:=m7 X G ou fun _ _ h=>u5 T U VM UO h;have ii:ay l.prog w K mg base "_law_wholes" 2 ["_law_found"] mF:=m7 X G k7 fun _ _ h=>sw T U VM UO h jo;have fJ:ay l.prog w K mg base "_law_on_terms" 2 ["_law_one","_law_other","_law_terms_here"] zl:=m7 X G js fun _ _ h=>pc T U VM UO h;have e7:ay l.prog w K mg base "_law_barred" 3 ["_law_group","_law_worn","_law_terms_here"] vC:=m7 X G kY fun _ _ h=>su T U VM UO h ii fJ;have jp:ay l.prog w K mg base "_law_wrong" 1 ["_law_worn"] pR:=m7 X G ox fun _ _ h=>u6 T U VM UO h;have jm:ay l.prog w K mg base "_law_paper" 1 ["_law_row","_law_worn"] pM:=m7 X G oo fun _ _ h=>u3 T U VM UO h;exact Eh T U VM UO G_law gC gE jn bC bU Cmorning_row Cbarred_group ig e7 jp jm
theorem walk {l:PySem.W.OpenLaw}{q:Program}{loose:List Str}{XP:(Str->Option Value)->Heap->Prop}{YP:World->Heap->Prop}{d:DefRec}{K:Params->PySem.W.Frag}{c0 P0:Addr}(hn:l.most=some 63)(hdf:d.params.defaults=[])
  (hY:∀ (w:World)(h:Heap),YP w h->(K w.params).In h)
  (hTY:∀ (w:World)(h:Heap),YP w h->h.get? P0=some (PySem.W.tabObj #[])) (hch:∀ w:World,PySem.W.codeHdIn (K w.params) c0 P0=true) (htab:∀ w:World,PySem.W.tabIn (K w.params) "talking_trees" = some (c0,P0)) (hnt:∀ w:World,PySem.W.noTabs (K w.params)=true)
  (F:∀ (w:World)(mg:Str->Option Value)(fa:Addr)(h:Heap),(K w.params).In h->h.Ns mainGlobals mg->mg d.name=some (.ref fa)->kR (K w.params) c0 P0->PySem.W.tabIn (K w.params) "talking_trees" = some (c0,P0) ->
   ∃ fd:FuncData,(∀ (s:Shared)(u:Value),BindsTo s fd ⟨[u],[]⟩ [("_law_script",u)])/\∀ base:Heap,(K w.params).In base->base.Ns mainGlobals mg->ui mg base->aS l.prog w (K w.params) mg base cJ 10 fa fd ["_law_script"] (rG (K w.params) P0)) :
  PySem.W.WalkO q loose XP YP l.row.toRowW d [] (fun f vs=>PySem.call f vs) :=
 L2.walk_ofT (n:=63) (k:=10) (x:="_law_script") (nm:="talking_trees") (CX:=fun _=>cJ) (sp:=fun w=>rG (K w.params) P0) hn (by decide) hdf ⟨rfl,by decide,by decide⟩ hY hTY hch htab hnt F (fun _ _ a ns hl hT hS=>⟨a,ns,rfl,hS,hl,hT,fun _=>rfl⟩) fun _ _ _ _ _ z=>z
end Wk32
namespace PySem.W.Fast
def tw10917668857926776872:=0
def tw13121827459872984851:=0
def tw5215509727454491912:=0
def tw4880890388065796959:=0
def tw11285639874880683118:=0
def tw18331773717071908705:=0
def tw18374274356049168416:=0
def tw17677762318571927689:=0
def tw5884216218219621768:=0
def tw13931003948772045672:=0
def tw1132432130177235864:=0
def tw10995890772573029189:=0
def tw4434728270357662762:=0
def tw6795454409448486265:=0
def tw12943408842597465984:=0
def tw12097177801993060329:=0
def tw13753208089498940520:=0
def tw2389177165450746839:=0
def tw1443274963465428158:=0
def tw2481809604730989731:=0
def tw9922435125228891759:=0
def tw8847017001211703010:=0
def tw5061683850772023976:=0
def tw4285269616390062945:=0
def tw11754351887860112074:=0
def tw7647933368035466625:=0
def tw15291646432910689167:=0
def tw17093036890151842297:=0
def tw14534195848714176953:=0
def tw8403437990969868185:=0
def tw13462912729632987315:=0
def tw5747275655040116611:=0
def tw11670881978834808066:=0
def tw1577419999983998003:=0
def tw3155540894168431156:=0
def tw7986571871150391083:=0
def tw7066862268800152701:=0
def tw3368826069242589305:=0
def tw16693392966384923099:=0
def tw8652135432521985267:=0
def tw5909062778234283095:=0
def tw3778934904351451061:=0
def tw11229230663417006178:=0
def tw8926366236382931061:=0
def tw17780447027953071595:=0
def tw195434989151122011:=0
def tw1365641594662260573:=0
def tw6074033526201381951:=0
def tw14587329693497145237:=0
def tw347584312561905465:=0
def tw9330247229728602573:=0
def tw8659382366172289694:=0
def tw8718967098413291226:=0
def tw18422547063631189866:=0
def tw13402811666221121238:=0
def tw9256902242611055882:=0
def tw13965703118938553631:=0
def tw9902420043764939761:=0
def tw14777398602252427499:=0
def tw12929153198277150002:=0
def tw2277566887336809448:=0
def tw16451638164233322991:=0
def tw11051666751004499420:=0
def tw4665445162256377832:=0
def tw173484925942371206:=0
def tw16060563734895476140:=0
def tw15820487783437886421:=0
def tw11966240123128285275:=0
def tw16775450471506816823:=0
def tw4588389785439592829:=0
def tw11170713477813146381:=0
def tw14796289352511546534:=0
def tw15931774443203608909:=0
def tw13071469730147885965:=0
def tw10531678175045924780:=0
def tw915229451702371967:=0
def tw11840905583547179066:=0
def tw17673832162368980541:=0
def tw6683829834767326081:=0
def tw14140372262995517817:=0
def tw658451004334089854:=0
def tw115911789104838394:=0
def tw13163336780852933538:=0
def tw14870362992024692138:=0
def tw16663824023272583717:=0
def tw14761687421272007285:=0
def tw4373441681259363727:=0
def tw6512959093379588694:=0
def tw7850275468332859180:=0
def tw13778294809262108166:=0
def tw18092078384605020915:=0
def tw12948574246786937322:=0
def tw11110184411139099946:=0
def tw2115467364017058916:=0
def tw7897485668740654175:=0
def tw13515414936626035557:=0
def tw15744729667909055643:=0
def tw6178079396072245130:=0
def tw5622127799391053900:=0
def tw18153987621086026659:=0
def tw17298255234117214624:=0
def tw13178593746851959687:=0
def tw15019472160548769363:=0
def tw7826665556618116211:=0
def tw1748411486388272851:=0
def tw17779894428405489833:=0
def tw7389082981121481168:=0
def tw10428474055211135870:=0
def tw8702633507121320272:=0
def tw15947216996914260711:=0
def tw2243352663854643776:=0
def tw14486991848360164315:=0
def tw2459366289590731882:=0
def tw13102446447589071677:=0
def tw7687322179761866936:=0
def tw2207342438451481665:=0
def tw10102780609958706903:=0
def tw17979274779768670892:=0
def tw14129809612171830261:=0
def tw16744539828350492379:=0
def tw9196192241795953362:=0
def tw10987095146809604039:=0
def tw6510124963216800682:=0
def tw2260368957550550706:=0
def tw16821707634169284898:=0
def tw13440077527979965584:=0
def tw12806317062041924165:=0
def tw18003033075241098961:=0
def tw2579565913499549286:=0
def tw11416653178762157706:=0
def tw11122595255825307693:=0
def tw5624566348455389060:=0
def tw1391276670675066861:=0
def tw13300056171391564535:=0
def tw595590326056565528:=0
def tw576519783528368732:=0
def tw12305280660856873560:=0
def tw4140456305058401031:=0
def tw136940087533569654:=0
def tw2657118605891315059:=0
def tw15852351499108320280:=0
def tw12943513697150378494:=0
def tw13975669539344880476:=0
def tw4463268260777110309:=0
def tw10920251568255128645:=0
def tw10026890467148578926:=0
def tw5289837505752396419:=0
def tw3028570806996063252:=0
def tw12503065479593242692:=0
def tw12300641949800652842:=0
def tw1343192376378644522:=0
def tw1932363710816054990:=0
def tw15753281627578176378:=0
def tw13030250827736593039:=0
def tw5395931785850780736:=0
def tw8704959508017153118:=0
def tw16987495612275615527:=0
def tw15841072139198106002:=0
def tw4345004810047564638:=0
def tw1707551514032535943:=0
def tw11064453884975682531:=0
def tw16619622810213597726:=0
def tw7364228716052677013:=0
def tw6901415614413273670:=0
def tw21033635598746595:=0
def tw18125243454465354839:=0
def tw9116668719256181435:=0
def tw15353648892250890088:=0
def tw10610568563260736928:=0
def tw5004230329773064294:=0
def tw856656772017253046:=0
def tw5487214058812872887:=0
def tw9027222504186975549:=0
def tw359171680297848827:=0
def tw6836362288426134520:=0
def tw3859279759800574729:=0
def tw533490492584737214:=0
def tw2796338047964233797:=0
def tw15268078076880747217:=0
def tw4613134608473433561:=0
def tw15663756415892271135:=0
def tw9607167664532642719:=0
def tw6545435099641447940:=0
def tw718153589932005055:=0
def tw13406096578229895537:=0
def tw16519216845838106508:=0
def tw5488449902537478315:=0
def tw17188868661079054324:=0
def tw1530022518370101022:=0
def tw10185041681850741005:=0
def tw8765812010244080438:=0
def tw12747957116985679399:=0
def tw3752060625212086549:=0
def tw17131620880341987449:=0
def tw8431299851505946415:=0
def tw1871524210068538993:=0
def tw4905638587260786418:=0
def tw16322617455055111359:=0
def tw3163756034633494572:=0
def tw9234762179410131518:=0
def tw50978137231965123:=0
def tw10344910252662429719:=0
def tw16618002739243939793:=0
def tw1918902911453417598:=0
def tw13622767160521087444:=0
def tw6192543675709972679:=0
def tw16344719170611780524:=0
def tw16417135804629112187:=0
def tw4040795514470058346:=0
def tw13464324816620157708:=0
def tw16704485322506135151:=0
def tw5009424780216158173:=0
def tw18059141809696767907:=0
def tw4693373360457449187:=0
def tw4366677467607945994:=0
def tw8625433207695514063:=0
def tw13189402588226686297:=0
def tw11778103978690767701:=0
def tw9455984720539417888:=0
def tw15079279959322899669:=0
def tw15596188831704723310:=0
def tw5582857421136343315:=0
def tw2773285456844751894:=0
def tw2714434080719444680:=0
def tw3782121873371821548:=0
def tw1198695378146724232:=0
def tw12703728430097943939:=0
def tw2327516732894372243:=0
def tw17828546217580738060:=0
def tw5673745963618477774:=0
def tw10122612467656948537:=0
def tw10977043769796110815:=0
def tw6015288244481113974:=0
def tw8251553295459671293:=0
def tw14724558364348824273:=0
def tw16179593367962018113:=0
def tw12690737116090333426:=0
def tw3656999554587579511:=0
def tw11951111595364226552:=0
def tw14950026867672291272:=0
def tw8906413567683576921:=0
def tw3156344013904338487:=0
def tw15385676510004437845:=0
def tw10710580749272187656:=0
def tw2548826562896437102:=0
def tw6240488396042316575:=0
def tw3629458646178666664:=0
def tw13776676201724992947:=0
def tw14696379139221701069:=0
def tw247510678131384065:=0
def tw14941273144897008424:=0
def tw5906868272279295424:=0
def tw8121372356391648511:=0
def tw14474455735106865536:=0
def tw2431438938473043527:=0
def tw13106065592680602025:=0
def tw1637700512496722775:=0
def tw12621869406021704984:=0
def tw6807969895520400748:=0
def tw6928579696324603024:=0
def tw8783993930808609529:=0
def tw6465338466603137388:=0
def tw6656371892072917201:=0
def tw13053452473185785254:=0
def tw16756524537388868340:=0
def tw14586397118903296113:=0
def tw11026380861021242188:=0
def tw12582261927982694006:=0
def tw2953845525820138846:=0
def tw1229076017642924827:=0
def tw13782362367816633851:=0
end PySem.W.Fast
open PySem PySem.W PyProof.Rows
set_option maxRecDepth 100000 in
set_option maxHeartbeats 0 in
theorem PySem.Challenge.cw_lastwaltz_k32_whole_morning_or_barred_holds : PySem.Challenge.rw_lastwaltz_k32_whole_morning_or_barred.Holds := by
 w_on;o_law;k_head;(case hw=>w_witness2)
 k_fill
 refine Wk32.walk (l:=PySem.Challenge.rw_lastwaltz_k32_whole_morning_or_barred) (c0:=150) (P0:=148) rfl rfl (fun w h Y=>PySem.W.km_in_of Y) (fun w h Y=>PySem.W.km_tabs_of Y _ (HV)) (fun w=>by kernel_rfl) (fun w=>by kernel_rfl) (fun w=>by kernel_rfl) ?F
 case F =>
  intro w mg fa h KX G hmg CK htab;refine' Wk32.all_mk2 KX G hmg CK htab ?aC ?n_cW ?n_cA ?n_cM ?n_cS ?n_cT ?n_cN ?b_cN ?pg ?hd ?po ?sa ?y0 ?qJ ?qI ?wQ ?e_cA ?e_cM ?e_cS ?e_cT ?e_cN ?g1 ?g2 ?g3 ?g4 ?g5 ?g6 ?g7 ?g8 ?tN ?wS ?wR ?wI ?x_aa ?x_ma ?x_mm ?x_sa ?x_sm ?x_ss ?x_ta ?x_tm ?x_ts ?x_tt ?x_na ?x_nm ?x_ns ?x_nt ?x_nn ?mk ?kc ?n_co ?e_co ?x_oo ?kg ?oh ?pW ?om ?pV ?oj ?gT ?oi ?sY ?sX ?og ?kh ?n6 ?kS ?nZ ?jq ?kX ?sW ?pU ?iZ ?i4 ?vM ?ki ?oq ?n8 ?oA ?j8 ?i6 ?n9 ?oy ?vN ?km ?pX ?kj ?jr ?kU ?ka ?i5 ?kT ?j9 ?kf ?kZ ?ou ?k7 ?js ?kY ?ox ?oo ?DC ?DQ ?zu ?mI ?zw ?Ck ?DP ?Ci ?DN ?DO ?xr ?rO ?DT ?DS ?DR ?Cj ?DW ?oV ?DV ?DU
  (case aC=>k_is)
  (case n_cW=>k_is)
  (case n_cA=>k_is)
  (case n_cM=>k_is)
  (case n_cS=>k_is)
  (case n_cT=>k_is)
  (case n_cN=>k_is)
  (case b_cN=>k_is)
  (case e_cA=>kernel_rfl)
  (case e_cM=>kernel_rfl)
  (case e_cS=>kernel_rfl)
  (case e_cT=>kernel_rfl)
  (case e_cN=>kernel_rfl)
  (case g8=>kernel_rfl)
  (case x_aa=>kernel_rfl)
  (case x_ma=>kernel_rfl)
  (case x_mm=>kernel_rfl)
  (case x_sa=>kernel_rfl)
  (case x_sm=>kernel_rfl)
  (case x_ss=>kernel_rfl)
  (case x_ta=>kernel_rfl)
  (case x_tm=>kernel_rfl)
  (case x_ts=>kernel_rfl)
  (case x_tt=>kernel_rfl)
  (case x_na=>kernel_rfl)
  (case x_nm=>kernel_rfl)
  (case x_ns=>kernel_rfl)
  (case x_nt=>kernel_rfl)
  (case x_nn=>kernel_rfl)
  (case n_co=>k_is)
  (case e_co=>kernel_rfl)
  (case x_oo=>kernel_rfl)
  all_goals first | (refine' Wz.fact_mk ?a ?l ?c ?k;(case a=>k_is);(case l=>k_is);(case c=>k_is);(case k=>k_is)) | (refine' Wz.mfact_mk ?a ?i ?l ?c ?k;(case a=>k_is);(case i=>k_is);(case l=>k_is);(case c=>k_is);(case k=>k_is)) | k_is
