import PyProof.Rows.All
import Wide.All
import OpenK.AllK
import Wide.FinOn
import Lean
import PyProof.EqAt
import PyProof.EqKinds
import PyProof.TupleCall
import PyProof.NeData
import PyProof.DictItems
import PyProof.JoinWalk
import PyProof.CallStr
import OpenK.KOwn
import KE.KTryMore
import PyProof.EnumMake
import KE.KLam
import KE.KNestM
import KE.KEqDict
import PyProof.Conv_int
import PyProof.StrWalks
import PyProof.StrCalls2
import PyProof.StrLawsIn
import PyProof.StrCalls6
import PyProof.StrLawsReplace
import PySem.Challenge.RW_lastwaltz_k48_lines_that_are_refused
set_option Elab.async false
set_option linter.all false
set_option maxRecDepth 100000
set_option maxHeartbeats 4000000
theorem D5:type_of% @PySem.wpAny_bind:=@PySem.wpAny_bind
theorem D6:type_of% @List.length_map:=@List.length_map
theorem D7:type_of% @if_neg:=@if_neg
theorem D8:type_of% @if_pos:=@if_pos
theorem D9:type_of% @Nat.le_refl:=@Nat.le_refl
theorem Ea:type_of% @PySem.wpAny_pure:=@PySem.wpAny_pure
theorem Eb:type_of% @List.mem_cons_of_mem:=@List.mem_cons_of_mem
theorem Ec:type_of% @List.mem_cons_self:=@List.mem_cons_self
theorem Ed:type_of% @Bool.false_ne_true:=@Bool.false_ne_true
theorem Ee:type_of% @decide_eq_true:=@decide_eq_true
theorem Ef:type_of% @Option.some.inj:=@Option.some.inj
theorem Eg:type_of% @PySem.Heap.lt_size:=@PySem.Heap.lt_size
theorem Eh:type_of% @List.mem_cons:=@List.mem_cons
theorem Ei:type_of% @decide_eq_false:=@decide_eq_false
theorem Ej:type_of% @PySem.Paired.length:=@PySem.Paired.length
theorem Ek:type_of% @List.size_toArray:=@List.size_toArray
theorem El:type_of% @List.length_append:=@List.length_append
theorem Em:type_of% @Nat.ne_of_lt:=@Nat.ne_of_lt
theorem En:type_of% @List.mem_append_right:=@List.mem_append_right
theorem Eo:type_of% @Ne.symm:=@Ne.symm
theorem Ep:type_of% @Nat.lt_of_lt_of_le:=@Nat.lt_of_lt_of_le
theorem Er:type_of% @List.map_cons:=@List.map_cons
theorem Es:type_of% @List.map_append:=@List.map_append
theorem Et:type_of% @List.mem_singleton:=@List.mem_singleton
theorem Eu:type_of% @List.length_cons:=@List.length_cons
theorem Ew:type_of% @PySem.wpAny_mono:=@PySem.wpAny_mono
theorem Ex:type_of% @PySem.W.mg_none_of:=@PySem.W.mg_none_of
theorem Ey:type_of% @Nat.zero_le:=@Nat.zero_le
theorem Ez:type_of% @List.mem_map:=@List.mem_map
theorem EA:type_of% @List.mem_append:=@List.mem_append
theorem EB:type_of% @List.mem_of_getElem?:=@List.mem_of_getElem?
theorem EC:type_of% @Nat.le_trans:=@Nat.le_trans
theorem ED:type_of% @Array.length_toList:=@Array.length_toList
theorem EE:type_of% @List.length_take:=@List.length_take
theorem EF:type_of% @Int.emod_lt_of_pos:=@Int.emod_lt_of_pos
theorem EG:type_of% @List.length_singleton:=@List.length_singleton
theorem EH:type_of% @List.map_map:=@List.map_map
theorem EI:type_of% @List.nodup_cons:=@List.nodup_cons
theorem EJ:type_of% @Int.emod_nonneg:=@Int.emod_nonneg
theorem EK:type_of% @PySem.wpAny_holding:=@PySem.wpAny_holding
theorem EL:type_of% @PySem.wpAny_newObj_type:=@PySem.wpAny_newObj_type
theorem EM:type_of% @PySem.Calls.spliced_cons:=@PySem.Calls.spliced_cons
theorem EN:type_of% @Bool.and_eq_true:=@Bool.and_eq_true
theorem EO:type_of% @List.lookup_cons:=@List.lookup_cons
theorem EQ:type_of% @List.all_eq_true:=@List.all_eq_true
theorem ER:type_of% @of_decide_eq_true:=@of_decide_eq_true
theorem ES:type_of% @PySem.W.mg_of:=@PySem.W.mg_of
theorem ET:type_of% @List.map_congr_left:=@List.map_congr_left
theorem EU:type_of% @PySem.wpAny_standAt:=@PySem.wpAny_standAt
theorem EW:type_of% @Option.isSome_iff_exists:=@Option.isSome_iff_exists
theorem EX:type_of% @PySem.F.slot_list_append:=@PySem.F.slot_list_append
theorem EY:type_of% @PySem.F.type_list_append:=@PySem.F.type_list_append
theorem EZ:type_of% @PySem.sizeLine_eq:=@PySem.sizeLine_eq
theorem E4:type_of% @PySem.W.kia_one:=@PySem.W.kia_one
theorem E5:type_of% @PySem.F.plainAttrs_list:=@PySem.F.plainAttrs_list
theorem E6:type_of% @PySem.Calls.evalArgs_plain:=@PySem.Calls.evalArgs_plain
theorem E7:type_of% @PySem.boot_len:=@PySem.boot_len
theorem E8:type_of% @List.take_add_one:=@List.take_add_one
theorem E9:type_of% @congrArg:=@congrArg
theorem Fa:type_of% @PySem.wpAny_typeNameOfWhole_keyiter:=@PySem.wpAny_typeNameOfWhole_keyiter
theorem Fb:type_of% @Option.toList_some:=@Option.toList_some
theorem Fc:type_of% @List.take_length:=@List.take_length
theorem Fd:type_of% @PySem.F.slot_dict_keyiterator_next:=@PySem.F.slot_dict_keyiterator_next
theorem Fe:type_of% @PySem.wpAny_truthy_bool:=@PySem.wpAny_truthy_bool
theorem Ff:type_of% @PySem.Calls.spliced_nil:=@PySem.Calls.spliced_nil
theorem Fg:type_of% @PySem.PassesOwn.never:=@PySem.PassesOwn.never
theorem Fh:type_of% @beq_eq_false_iff_ne:=@beq_eq_false_iff_ne
theorem Fi:type_of% @PySem.Calls.callWith_builtin:=@PySem.Calls.callWith_builtin
theorem Fj:type_of% @List.any_cons:=@List.any_cons
theorem Fk:type_of% @List.length_drop:=@List.length_drop
theorem Fl:type_of% @PySem.wpAny_Call_Name_kw:=@PySem.wpAny_Call_Name_kw
theorem Fm:type_of% @List.zip_cons_cons:=@List.zip_cons_cons
theorem Fo:type_of% @PySem.codeAny_mono:=@PySem.codeAny_mono
theorem Fp:type_of% @PySem.wpAny_typeNameOf_keyiter:=@PySem.wpAny_typeNameOf_keyiter
theorem Fq:type_of% @PyProof.Rows.boot_sorted:=@PyProof.Rows.boot_sorted
theorem Ft:type_of% @Nat.lt_succ_of_lt:=@Nat.lt_succ_of_lt
theorem Fu:type_of% @decide_eq_true_eq:=@decide_eq_true_eq
theorem Fv:type_of% @PySem.mem_of_lookup:=@PySem.mem_of_lookup
theorem Fw:type_of% @Nat.le_succ:=@Nat.le_succ
theorem Fx:type_of% @List.take_of_length_le:=@List.take_of_length_le
theorem Fy:type_of% @List.append_nil:=@List.append_nil
theorem Fz:type_of% @PySem.F.slot_dict_get:=@PySem.F.slot_dict_get
theorem FA:type_of% @PySem.F.excBase_ValueError:=@PySem.F.excBase_ValueError
theorem FB:type_of% @PySem.codeAny_call_builtin:=@PySem.codeAny_call_builtin
theorem FC:type_of% @List.mem_range:=@List.mem_range
theorem FD:type_of% @PySem.Heap.size_push:=@PySem.Heap.size_push
theorem FE:type_of% @PySem.wpAny_call_entry:=@PySem.wpAny_call_entry
theorem FF:type_of% @List.mem_map_of_mem:=@List.mem_map_of_mem
theorem FG:type_of% @PySem.wpAny_execs_nil:=@PySem.wpAny_execs_nil
theorem FH:type_of% @beq_iff_eq:=@beq_iff_eq
theorem FI:type_of% @PySem.tupleKind_room_in1:=@PySem.tupleKind_room_in1
theorem FJ:type_of% @Nat.lt_of_le_of_lt:=@Nat.lt_of_le_of_lt
theorem FK:type_of% @PySem.Obj.data_mapFields:=@PySem.Obj.data_mapFields
theorem FL:type_of% @PySem.wpAny_field:=@PySem.wpAny_field
theorem FM:type_of% @PySem.wpAny_pyIter_list:=@PySem.wpAny_pyIter_list
theorem FN:type_of% @Int.toNat_natCast:=@Int.toNat_natCast
theorem FO:type_of% @PySem.wpAny_loadPart_at:=@PySem.wpAny_loadPart_at
theorem FP:type_of% @List.nodup_nil:=@List.nodup_nil
theorem FQ:type_of% @PySem.wpAny_setField:=@PySem.wpAny_setField
theorem FR:type_of% @PySem.wpAny_call:=@PySem.wpAny_call
namespace L2
open PySem PySem.Spec PyProof.Rows
abbrev bK:=Sum Int Str
def pB:bK->Value->Bool
 | .inl k,v=>Value.isInt k v
 | .inr x,v=>Value.isStrOf x v
def C9 (w:World):bK->Int
 | .inl k=>hashInt k
 | .inr x=>hashStr w x
theorem bn:∀ {k:bK}{v:Value},pB k v=true->(∃ i t,k=Sum.inl i/\v=Value.int i t)\/(∃ x t,k=Sum.inr x/\v=Value.str x t)
 | .inl i,v,h=>by
  obtain⟨t,e⟩:=Value.isInt_shape (k:=i) (v:=v) h;exact .inl ⟨i,t,rfl,e⟩
 | .inr x,v,h=>by
  obtain⟨t,e⟩:=Value.isStrOf_shape (x:=x) (v:=v) h;exact .inr ⟨x,t,rfl,e⟩
theorem v8 (i:Int)(t:Tok):pB (.inl i) (.int i t)=true:=by simp[pB,Value.isInt]
theorem v9 (x:Str)(t:Tok):pB (.inr x) (.str x t)=true:=by simp[pB,Value.isStrOf]
theorem AR (a b:Int):decide ((Sum.inl a:bK)=Sum.inl b)=(a == b):=by
 by_cases e:a=b
 ·subst e;simp
 ·have h:¬ (Sum.inl a:bK)=Sum.inl b:=fun q=>e (Sum.inl.inj q)
  rw[Ei h];exact (Fh.mpr e).symm
theorem AU (a b:Str):decide ((Sum.inr a:bK)=Sum.inr b)=decide (a=b):=by
 by_cases e:a=b
 ·subst e;simp
 ·have h:¬ (Sum.inr a:bK)=Sum.inr b:=fun q=>e (Sum.inr.inj q)
  rw[Ei h,Ei e]
theorem AS (a:Int)(b:Str):decide ((Sum.inl a:bK)=Sum.inr b)=false:=Ei (fun q=>nomatch q)
theorem AT (a:Str)(b:Int):decide ((Sum.inr a:bK)=Sum.inl b)=false:=Ei (fun q=>nomatch q)
def aX (prog:Program)(w:World):PySem.KeyKind prog w bK where
 is:=pB
 hash:=C9 w
 inj:=fun v a b ha hb=>by
  rcases bn ha with ⟨i,t,rfl,rfl⟩ | ⟨x,t,rfl,rfl⟩
  ·rcases bn hb with ⟨j,u,rfl,e⟩ | ⟨y,u,rfl,e⟩
   ·injection e with e1 _;rw[e1]
   ·exact nomatch e
  ·rcases bn hb with ⟨j,u,rfl,e⟩ | ⟨y,u,rfl,e⟩
   ·exact nomatch e
   ·injection e with e1 _;rw[e1]
 byValue:=fun k v h=>by
  rcases bn h with ⟨i,t,rfl,rfl⟩ | ⟨x,t,rfl,rfl⟩<;>rfl
 pyHash:=fun hv h=>by
  rcases bn hv with ⟨i,t,rfl,rfl⟩ | ⟨x,t,rfl,rfl⟩
  ·exact wpAny_pyHash_int h
  ·exact wpAny_pyHash_str h
 eqBool:=fun hu hv h=>by
  rcases bn hu with ⟨i,t,rfl,rfl⟩ | ⟨x,t,rfl,rfl⟩
  ·rcases bn hv with ⟨j,u,rfl,rfl⟩ | ⟨y,u,rfl,rfl⟩
   ·rw[AR]at h;exact wpAny_eqBool_int h
   ·rw[AS]at h;exact SeqAt.EqAt.int_str i t y u _ _ _ _ h
  ·rcases bn hv with ⟨j,u,rfl,rfl⟩ | ⟨y,u,rfl,rfl⟩
   ·rw[AT]at h;exact SeqAt.EqAt.str_int x t j u _ _ _ _ h
   ·rw[AU]at h;exact wpAny_eqBool_str h
 «strs»:=fun k x t v h=>by
  rcases bn h with ⟨i,u,rfl,e⟩ | ⟨y,u,rfl,e⟩
  ·exact nomatch e
  ·injection e with e1 _
   subst e1;cases v<;>rfl
theorem rQ (prog:Program)(w:World)(i:Int)(t:Tok):(aX prog w).is (.inl i) (.int i t)=true:=v8 i t
theorem eX (prog:Program)(w:World)(x:Str)(t:Tok):(aX prog w).is (.inr x) (.str x t)=true:=v9 x t
inductive V where
 | non | bl (b:Bool) | int (i:Int) | str (x:Str) | byt (b:Array UInt8) | flt (b:UInt64) | ref (a:Addr) | ty (n:String)
 deriving DecidableEq
def aI:V->Value->Prop
 | .non,u=>u=Value.none
 | .bl b,u=>u=Value.bool b
 | .int i,u=>∃ t,u=Value.int i t
 | .str x,u=>∃ t,u=Value.str x t
 | .byt b,u=>∃ t,u=Value.bytes b t
 | .flt b,u=>∃ t,u=Value.float b t
 | .ref a,u=>u=Value.ref a
 | .ty n,u=>u=Value.type n
abbrev aL:List V->List Value->Prop:=Paired aI
theorem aL.length {xs:List V}{us:List Value}(r:aL xs us):xs.length=us.length:=Ej r
theorem aL.get:∀ {xs:List V}{us:List Value}{i:Nat}{x:V},aL xs us->xs[i]? = some x->∃ u,us[i]? = some u/\aI x u
 | _,_,_,_,.nil,e=>by simp at e
 | _,_,0,_,.cons r _,e=>by simp at e;subst e;exact⟨_,rfl,r⟩
 | _,_,i+1,x,.cons _ t,e=>by
  obtain⟨u,h1,h2⟩:=aL.get (i:=i) (x:=x) t (by simpa using e);exact⟨u,by simpa using h1,h2⟩
theorem aL.set {x:V}{u:Value}(r:aI x u):∀ {xs:List V}{us:List Value}(i:Nat),aL xs us->aL (xs.set i x) (us.set i u)
 | _,_,_,.nil=>.nil
 | _,_,0,.cons _ t=>.cons r t
 | _,_,i+1,.cons q t=>.cons q (aL.set r i t)
theorem aL.append:∀ {xs ys:List V}{us ws:List Value},aL xs us->aL ys ws->aL (xs++ys) (us++ws)
 | _,_,_,_,.nil,s=>s
 | _,_,_,_,.cons r t,s=>.cons r (aL.append t s)
theorem aL.take:∀ {xs:List V}{us:List Value}(n:Nat),aL xs us->aL (xs.take n) (us.take n)
 | _,_,0,_=>.nil
 | _,_,_+1,.nil=>.nil
 | _,_,n+1,.cons r t=>.cons r (aL.take n t)
theorem aL.drop:∀ {xs:List V}{us:List Value}(n:Nat),aL xs us->aL (xs.drop n) (us.drop n)
 | _,_,0,r=>r
 | _,_,_+1,.nil=>.nil
 | _,_,n+1,.cons _ t=>aL.drop n t
def fw:Option V->Option Value->Prop
 | some v,some u=>aI v u
 | none,none=>True
 | _,_=>False
def KV {κ:Type}:List (κ×V)->List (κ×Value)->Prop:=Paired fun (p:κ×V)(q:κ×Value)=>p.1=q.1/\aI p.2 q.2
def kV:bK->V
 | .inl i=>.int i
 | .inr x=>.str x
inductive HO where
 | lst (xs:List V)
 | tup (xs:List V)
 | dK (kvs:List (bK×V)) | dT (kvs:List (List bK×V))
 | set (S:Int->Bool) (n:Nat)
 | ins (C dx:Addr) (fs:List (Str×V))
 | own (x:Addr)
 | xd (fs:List (Str×V))
 | met (f x:Addr)
 | rng (lo hi:Int)
 | frz (o:Obj) (u:HO)
 | tbl (ps:Array Value)
 | ext (φ:Heap->Prop)
abbrev Hp:=Addr->Option HO
def upd (H:Hp)(a:Addr)(o:HO):Hp:=fun b=>if b=a then some o else H b
theorem ac {H:Hp}{a:Addr}{o:HO}:upd H a o a=some o:=by unfold upd;rw[D8 rfl]
theorem ae {H:Hp}{a b:Addr}{o:HO}(h:b≠a):upd H a o b=H b:=by unfold upd;rw[D7 h]
theorem vH {H:Hp}{a:Addr}{o u:HO}:upd (upd H a o) a u=upd H a u:=by
 funext b;unfold upd;split<;>rfl
theorem b5 {H:Hp}{a b:Addr}{o u:HO}(h:H a=some o)(h':H b=some u)(d:o≠u):a≠b:=by
 intro e;subst e;rw[h]at h';exact d (Ef h')
theorem aj {H:Hp}{a b:Addr}{o:HO}(h:H a=some o)(h':H b=none):a≠b:=by
 intro e;subst e;rw[h]at h';cases h'
section
variable (P:Program)(w:World)
def aT (H:Hp)(h:Heap)(a:Addr):HO->Prop
 | .lst xs=>xs.length<=sizeLine/\∃ (its:List Value)(n:Nat),aL xs its/\h.get? a=some { cls:=.type "list",data:=.seq its.toArray n }
 | .tup xs=>xs.length<=sizeLine/\∃ its:List Value,aL xs its/\IsTup h a its.toArray
 | .dK kvs=>kvs.length<=sizeLine/\(a == sysModules)=false/\∃ vs,KV kvs vs/\h.DictOf (aX P w) a vs
 | .dT kvs=>kvs.length<=sizeLine/\(a == sysModules)=false/\∃ xs:List (List bK×Addr×Value),
   Paired (fun (p:List bK×V)(q:List bK×Addr×Value)=>p.1=q.1/\H q.2.1=some (.tup (p.1.map kV))/\aI p.2 q.2.2) kvs xs /\
   ∃ o es ep,h.get? a=some o/\o.ExactDict/\o.data=.dict es ep/\es.toList=xs.map (entryOfKey (tupleKind (aX P w)))/\(xs.map (·.1)).Nodup
 | .set S n=>h.SetOf (intKind P w) a S n
 | .ins C dx fs=>H dx=some (.own a)/\fs.length<=1000/\dx≠a/\h.get? a=some (PySem.W.instObj C dx) /\
   ∃ mA,h.Ns1 dx mA/\(∀ f,fw (fs.lookup f) (mA f))/\PySem.Within mA (fs.map (·.1))
 | .own _=>∃ o,h.get? a=some o
 | .xd fs=>∃ mA,h.Ns1 a mA/\∀ f,fw (fs.lookup f) (mA f)
 | .rng lo hi=>∃ t u v,h.get? a=some { cls:=.type "range",data:=.fields #[.int lo t,.int hi u,.int 1 v] }
 | .frz o u=>h.get? a=some o/\aT H h a u
 | .tbl ps=>h.get? a=some { cls:=.none,data:=.fields ps }
 | .met f x=>h.get? a=some (PySem.W.methodObj (.ref f) (.ref x))
 | .ext φ=>φ h/\(∃ o,h.get? a=some o)/\∀ h1 h2:Heap,φ h1->(∀ o,h1.get? a=some o->h2.get? a=some o)->φ h2
def gO (H:Hp)(h:Heap):Prop:=∀ a o,H a=some o->aT P w H h a o
end
section
variable {P:Program}{w:World}{H H':Hp}{h h':Heap}{a:Addr}{o:HO}
theorem aT.lt (x:aT P w H h a o):a<h.objs.size:=by
 cases o with
 | lst xs=>obtain⟨_,_,_,_,e⟩:=x;exact Eg e
 | tup xs=>obtain⟨_,_,_,p⟩:=x;exact p.lt
 | dK kvs=>obtain⟨_,_,_,_,o,_,_,e,_⟩:=x;exact Eg e
 | dT kvs=>obtain⟨_,_,_,_,o,_,_,e,_⟩:=x;exact Eg e
 | set S n=>obtain⟨o,_,_,_,e,_⟩:=x;exact Eg e
 | ins C dx fs=>obtain⟨_,_,_,e,_⟩:=x;exact Eg e
 | own y=>obtain⟨_,e⟩:=x;exact Eg e
 | xd fs=>obtain⟨_,⟨_,_,_,e,_⟩,_⟩:=x;exact Eg e
 | rng lo hi=>obtain⟨_,_,_,e⟩:=x;exact Eg e
 | frz ob u=>obtain⟨e,_⟩:=x;exact Eg e
 | tbl ps=>exact Eg (show h.get? a=some _ from x)
 | met f y=>exact Eg (show h.get? a=some _ from x)
 | ext φ=>obtain⟨_,⟨_,e⟩,_⟩:=x;exact Eg e
theorem Paired.mapP {α β:Type}{F G:α->β->Prop}:∀ {l₁:List α}{l₂:List β},Paired F l₁ l₂->(∀ a b,F a b->G a b)->Paired G l₁ l₂
 | _,_,.nil,_=>.nil
 | _,_,.cons r t,f=>.cons (f _ _ r) (Paired.mapP t f)
theorem aT.stay (x:aT P w H h a o)(k:∀ b u,(b=a\/H b=some (.own a))->h.get? b=some u->h'.get? b=some u)
  (ho:∀ b,H b=some (.own a)->H' b=some (.own a)) (ht:∀ b xs,H b=some (.tup xs)->H' b=some (.tup xs)):aT P w H' h' a o:=by
 induction o with
 | lst xs=>obtain⟨z,its,n,r,e⟩:=x;exact⟨z,its,n,r,k _ _ (.inl rfl) e⟩
 | tup xs=>obtain⟨z,its,r,ob,e,c⟩:=x;exact⟨z,its,r,ob,k _ _ (.inl rfl) e,c⟩
 | dK kvs=>obtain⟨z,y,vs,r,ob,es,ep,e,c⟩:=x;exact⟨z,y,vs,r,ob,es,ep,k _ _ (.inl rfl) e,c⟩
 | dT kvs =>
  obtain⟨z,y,xs,r,ob,es,ep,e,c⟩:=x;exact⟨z,y,xs,Paired.mapP r fun p q z=>⟨z.1,ht _ _ z.2.1,z.2.2⟩,ob,es,ep,k _ _ (.inl rfl) e,c⟩
 | set S n=>obtain⟨ob,es,ep,t,e,c⟩:=x;exact⟨ob,es,ep,t,k _ _ (.inl rfl) e,c⟩
 | ins C dx fs =>
  obtain⟨d,z,ne,e,mA,⟨od,es,ep,e2,c⟩,r⟩:=x;exact⟨ho _ d,z,ne,k _ _ (.inl rfl) e,mA,⟨od,es,ep,k _ _ (.inr d) e2,c⟩,r⟩
 | own y=>obtain⟨ob,e⟩:=x;exact⟨ob,k _ _ (.inl rfl) e⟩
 | xd fs=>obtain⟨mA,⟨od,es,ep,e,c⟩,r⟩:=x;exact⟨mA,⟨od,es,ep,k _ _ (.inl rfl) e,c⟩,r⟩
 | rng lo hi=>obtain⟨t,u,v,e⟩:=x;exact⟨t,u,v,k _ _ (.inl rfl) e⟩
 | frz ob u ih=>obtain⟨e,q⟩:=x;exact⟨k _ _ (.inl rfl) e,ih q⟩
 | tbl ps =>
  have e:h.get? a=some { cls:=.none,data:=.fields ps }:=x
  show h'.get? a=some { cls:=.none,data:=.fields ps }
  exact k a _ (.inl rfl) e
 | met f y =>
  have e:h.get? a=some (PySem.W.methodObj (.ref f) (.ref y)):=x
  show h'.get? a=some (PySem.W.methodObj (.ref f) (.ref y))
  exact k a _ (.inl rfl) e
 | ext φ=>obtain⟨p,⟨o,e⟩,st⟩:=x;exact⟨st _ _ p fun o q=>k _ _ (.inl rfl) q,⟨o,k _ _ (.inl rfl) e⟩,st⟩
theorem gO.lt (x:gO P w H h)(e:H a=some o):a<h.objs.size:=(x a o e).lt
theorem gO.fresh (x:gO P w H h)(e:h.objs.size<=a):H a=none:=by
 cases q:H a with
 | none=>rfl
 | some u=>exact absurd (Ep (x.lt q) e) (Nat.lt_irrefl _)
theorem gO.kept (x:gO P w H h)(k:∀ b u,h.get? b=some u->h'.get? b=some u):gO P w H h':=fun a o e =>
 (x a o e).stay (fun b u _ q=>k b u q) (fun _ q=>q) fun _ _ q=>q
theorem gO.laid (x:gO P w H h)(k:∀ b u,h.get? b=some u->h'.get? b=some u)(hp:h.objs.size<=a)(new:aT P w (upd H a o) h' a o):gO P w (upd H a o) h':=fun b u e=>by
 have hn:=x.fresh hp
 by_cases hb:b=a
 ·subst hb;rw[ac]at e;cases e;exact new
 ·rw[ae hb]at e
  exact (x b u e).stay (fun c v _ q=>k c v q) (fun c q=>by rw[ae (aj q hn)];exact q) fun c xs q=>by rw[ae (aj q hn)];exact q
end
def Rd (H:Hp)(a:Addr)(u:HO):Prop:=H a=some u\/∃ o,H a=some (.frz o u)
theorem Rd.ok {P:Program}{w:World}{H:Hp}{h:Heap}{a:Addr}{u:HO}(r:Rd H a u)(x:gO P w H h):aT P w H h a u:=by
 rcases r with r | ⟨o,r⟩
 ·exact x a u r
 ·obtain⟨_,q⟩:=x a _ r
  exact q
def BJ:Option HO->Prop
 | some (.lst _)=>True
 | some (.dK _)=>True
 | some (.dT _)=>True
 | some (.set _ _)=>True
 | some (.ins _ _ _)=>True
 | some (.ext _)=>True
 | _=>False
section
variable {P:Program}{w:World}{H:Hp}{h h':Heap}{x e:Addr}{o':HO}
theorem gO.write (ok:gO P w H h)(mu:BJ (H x))(he:e=x\/H e=some (.own x))(k:∀ b u,b≠e->h.get? b=some u->h'.get? b=some u)(heo:∃ u,h'.get? e=some u)
  (new:aT P w (upd H x o') h' x o'):gO P w (upd H x o') h':=fun b u q=>by
 have nown:∀ c y,H c=some (.own y)->c≠x:=fun c y r z=>by subst z;rw[r]at mu;exact mu
 have ntup:∀ c xs,H c=some (.tup xs)->c≠x:=fun c xs r z=>by subst z;rw[r]at mu;exact mu
 by_cases hb:b=x
 ·subst hb;rw[ac]at q;cases q;exact new
 ·rw[ae hb]at q
  by_cases hbe:b=e
  ·have q':H b=some (.own x):=by
    rcases he with z | z
    ·exact absurd (hbe.trans z) hb
    ·rw[hbe];exact z
   rw[q]at q';cases q';obtain⟨v,hv⟩:=heo;exact⟨v,by rw[hbe];exact hv⟩
  ·refine (ok b u q).stay (fun c v hc r=>k c v ?_ r) (fun c r=>by rw[ae (nown c b r)];exact r) fun c xs r=>by rw[ae (ntup c xs r)];exact r
   rcases hc with rfl | hc
   ·exact hbe
   ·rintro rfl
    rcases he with z | z
    ·exact nown c b hc z
    ·rw[hc]at z;cases z;exact hb rfl
end
structure Un (fs ex:List Addr)(H H':Hp)(h h':Heap):Prop where
 keep:∀ b o,h.get? b=some o->H b=none->b∉fs->b∉ex->h'.get? b=some o
 slot:∀ b o,h.get? b=some o->H b=none->b∈fs->b∉ex->∃ sl,h'.get? b=some { o with slots:=sl }
 free:∀ b o,h.get? b=some o->H b=none->b∉ex->H' b=none
 there:∀ b o,h.get? b=some o->b∉ex->∃ o',h'.get? b=some o'
 tups:∀ b xs,H b=some (.tup xs)->H' b=some (.tup xs)
 frzs:∀ b o u,H b=some (.frz o u)->H' b=some (.frz o u)
 tbls:∀ b ps,H b=some (.tbl ps)->∃ more,H' b=some (.tbl (ps++more))
section
variable {fs fs' ex ex':List Addr}{H H1 H2:Hp}{h h1 h2 h':Heap}{a x e:Addr}{o:HO}
theorem Un.any (u:Un fs ex H H1 h h1){b:Addr}{ob:Obj}(q:h.get? b=some ob)(n:H b=none)(hx:b∉ex):∃ sl,h1.get? b=some { ob with slots:=sl }:=by
 by_cases hb:b∈fs
 ·exact u.slot b ob q n hb hx
 ·exact⟨ob.slots,u.keep b ob q n hb hx⟩
theorem Un.kept (k:∀ b u,h.get? b=some u->h'.get? b=some u):Un fs ex H H h h' :=
 ⟨fun b ob q _ _ _=>k b ob q,fun b ob q _ _ _=>⟨ob.slots,k b ob q⟩,fun _ _ _ n _=>n,fun b ob q _=>⟨ob,k b ob q⟩,fun _ _ q=>q,fun _ _ _ q=>q,fun _ ps q=>⟨#[],by rw[q];simp⟩⟩
theorem Un.refl:Un fs ex H H h h:=Un.kept fun _ _ q=>q
theorem Un.laid (k:∀ b u,h.get? b=some u->h'.get? b=some u)(hp:h.objs.size<=a)(hn:H a=none):Un fs ex H (upd H a o) h h' where
 keep:=fun b u q _ _ _=>k b u q
 slot:=fun b u q _ _ _=>⟨u.slots,k b u q⟩
 free:=fun b u q n _=>by rw[ae (Em (Ep (Eg q) hp))];exact n
 there:=fun b u q _=>⟨u,k b u q⟩
 tups:=fun b xs q=>by rw[ae (aj q hn)];exact q
 frzs:=fun b u xs q=>by rw[ae (aj q hn)];exact q
 tbls:=fun b ps q=>⟨#[],by rw[ae (aj q hn),q];simp⟩
theorem Un.write (mu:BJ (H x))(he:e=x\/H e=some (.own x))(k:∀ b u,b≠e->h.get? b=some u->h'.get? b=some u)(heo:∃ u,h'.get? e=some u):Un fs ex H (upd H x o) h h':=by
 have hx:∀ b,H b=none->b≠x:=fun b n z=>by subst z;rw[n]at mu;exact mu
 have hb:∀ b,H b=none->b≠e:=fun b n z=>by
  subst z;rcases he with r | r
  ·exact hx b n r
  ·rw[n]at r;cases r
 have hm:∀ b u,H b=some u->¬ BJ (some u)->b≠x:=fun b u q nm z=>by subst z;rw[q]at mu;exact nm mu
 refine⟨fun b u q n _ _=>k b u (hb b n) q,fun b u q n _ _=>⟨u.slots,k b u (hb b n) q⟩,fun b u q n _=>by rw[ae (hx b n)];exact n,fun b u q _=>?_,
  fun b xs q=>by rw[ae (hm b _ q fun z=>z)];exact q,fun b u xs q=>by rw[ae (hm b _ q fun z=>z)];exact q,fun b ps q=>⟨#[],by rw[ae (hm b _ q fun z=>z),q];simp⟩⟩
 by_cases hbe:b=e
 ·subst hbe;exact heo
 ·exact⟨u,k b u hbe q⟩
end
def CM (h:Heap)(H:Hp):List Addr:=(List.range h.objs.size).filter fun a=>(H a).isSome
def qm (h:Heap)(H:Hp):Heap:=PySem.W.hideAll h (CM h H)
theorem vY (h:Heap)(H:Hp):(qm h H).objs.size=h.objs.size:=PySem.W.hideAll_size _ _
theorem xC {h:Heap}{H:Hp}{b:Addr}{o:Obj}(e:h.get? b=some o)(n:H b=none):(qm h H).get? b=some o :=
 PySem.W.hideAll_get _ e fun hm=>by
  have q:(H b).isSome=true:=(List.mem_filter.mp hm).2;rw[n]at q;simp at q
theorem zD {h:Heap}{H:Hp}{b:Addr}{o:Obj}(e:(qm h H).get? b=some o):h.get? b=some o/\H b=none:=by
 have e':h.get? b=some o:=PySem.W.of_hideAll (CM h H) e;refine⟨e',?_⟩
 cases q:H b with
 | none=>rfl
 | some x =>
  have hm:b∈CM h H:=List.mem_filter.mpr ⟨FC.mpr (Eg e'),by simp[q]⟩;have z:(qm h H).get? b=none:=PySem.W.hideAll_none (CM h H) hm;rw[z]at e;cases e
structure Mod (K:PySem.W.Frag)(mg:Str->Option Value)(base:Heap):Prop where
 kin:K.In base
 glob:base.Ns mainGlobals mg
 blt:∃ mb,base.Ns builtinsNs mb/\∀ x:Str,x≠"__name__"->mb x=bootBuiltins x
 nolimit:base.NoLimit
structure Cx where
 prog:Program
 w:World
 K:PySem.W.Frag
 mg:Str->Option Value
 base:Heap
 A:Around
 N:List Str
 s₀:Shared
 H₀:Hp
 env:Env
 outer:List Env
 stack:List Env
 ex:List Addr
 fn:Str->Bool
 calm:Bool
 pn:List (Addr×Obj)
 xe:Value->Shared->Prop
def hG (l:List Env):List Addr:=l.filterMap (·.frame)
abbrev Cx.fs (X:Cx):List Addr:=hG X.outer
def CZ (sc:Scope)(x:Str):Prop:=sc.names.lookup x=some .local\/sc.names.lookup x=some .cell\/sc.names.lookup x=some .free
def z9 (sc:Scope)(x:Str):Prop:=sc.names.lookup x=some .local\/sc.names.lookup x=some .cell
def CT (env:Env)(h:Heap)(m:Str->Option Value)(x:Str)(u:Value):Prop :=
 (env.kindOf x=some .local/\m x=some u)\/((env.kindOf x=some .cell\/env.kindOf x=some .free)/\∃ c,env.cells.lookup x=some c/\h.IsCell c (some u))
structure Cx.Ok (X:Cx):Prop where
 mod:Mod X.K X.mg X.base
 kind:X.env.scope.kind=.function
 glob:X.env.globals=mainGlobals
 blt:X.env.builtins=builtinsNs
 above:X.s₀.heap.objs.size<=X.env.locals
 inj:∀ x y c,X.env.cells.lookup x=some c->X.env.cells.lookup y=some c->x=y
 has:∀ x,(X.env.kindOf x=some .cell\/X.env.kindOf x=some .free)->∃ c,X.env.cells.lookup x=some c
 cab:∀ x c,X.fn x=true->X.env.cells.lookup x=some c->X.s₀.heap.objs.size<=c
 hd:X.calm=true->X.A.handled=none
 frames:X.A.frames=some X.stack
 stk:X.stack=X.outer\/(X.stack=X.env::X.outer/\X.env.frame=some X.env.locals)
 exf:∀ b∈X.ex,b≠X.env.locals/\∀ x c,X.env.cells.lookup x=some c->c≠b
 bs:∀ b o,X.base.get? b=some o->X.s₀.heap.get? b=some o/\X.H₀ b=none
 bsz:X.base.objs.size<=X.s₀.heap.objs.size
 noex:∀ b o,X.base.get? b=some o->b∉X.ex
 exfs:∀ b∈X.ex,b∉X.fs
 funs:X.s₀.heap.FunFrames X.base X.outer
 frf:∀ b∈X.fs,X.H₀ b=none
structure ar (X:Cx)(pins:List (Addr×Obj))(σ:List (Option V))(H:Hp)(s:Shared):Prop where
 ok:X.Ok
 os:s.os=X.s₀.os
 bare:AllBare s.gens
 base:Un X.fs X.ex X.H₀ H X.s₀.heap s.heap
 loc:∃ m,s.heap.Ns X.env.locals m/\∀ (i:Nat)(x:Str)(v:V),X.N[i]? = some x->σ[i]? = some (some v)->CZ X.env.scope x->∃ u,aI v u/\CT X.env s.heap m x u
 cell:∀ x c,X.env.cells.lookup x=some c->∃ v,s.heap.IsCell c v
 free:H X.env.locals=none
 freeC:∀ x c,X.env.cells.lookup x=some c->H c=none
 pin:∀ p∈X.pn++pins,s.heap.get? p.1=some p.2/\H p.1=none/\p.1≠X.env.locals/\p.1∉X.fs/\∀ v,p.2.data≠.cell v
 hok:gO X.prog X.w H s.heap
 len:σ.length=X.N.length
section
variable {X:Cx}{pins:List (Addr×Obj)}{σ:List (Option V)}{H H':Hp}{s:Shared}{h':Heap}
theorem Cx.Ok.nofr (ok:X.Ok){b:Addr}{o:Obj}(e:X.base.get? b=some o):b∉X.fs:=fun hb=>by
 have:=(ok.funs.mem hb).1;rw[e]at this;cases this
theorem ar.bs (I:ar X pins σ H s):∀ b o,X.base.get? b=some o->s.heap.get? b=some o/\H b=none:=fun b o e =>
 ⟨I.base.keep b o (I.ok.bs b o e).1 (I.ok.bs b o e).2 (I.ok.nofr e) (I.ok.noex b o e),I.base.free b o (I.ok.bs b o e).1 (I.ok.bs b o e).2 (I.ok.noex b o e)⟩
theorem ar.bk (I:ar X pins σ H s):∀ b o,X.base.get? b=some o->s.heap.get? b=some o:=fun b o e=>(I.bs b o e).1
theorem ar.mod (I:ar X pins σ H s):Mod X.K X.mg X.base:=I.ok.mod
theorem ar.kIn (I:ar X pins σ H s):X.K.In s.heap:=I.ok.mod.kin.keeps I.bk
theorem ar.lt (I:ar X pins σ H s):X.env.locals<s.heap.objs.size:=let ⟨_,hn,_⟩:=I.loc;hn.lt
theorem ar.sz (I:ar X pins σ H s):X.s₀.heap.objs.size<=s.heap.objs.size:=EC I.ok.above (Nat.le_of_lt I.lt)
theorem ar.nofs (I:ar X pins σ H s){a:Addr}(h:s.heap.objs.size<=a):a∉X.fs:=fun hb=>by
 obtain⟨_,o,ho,_⟩:=I.ok.funs.mem hb;exact absurd (Ep (Eg ho) (EC I.sz h)) (Nat.lt_irrefl _)
theorem ar.cne (I:ar X pins σ H s):∀ x c,X.env.cells.lookup x=some c->c≠X.env.locals:=fun x c e z=>by
 obtain⟨v,o,ho,hd⟩:=I.cell x c e;obtain⟨m,⟨o',es,ep,ho',hd',_⟩,_⟩:=I.loc;rw[z,ho']at ho;cases ho;rw[hd']at hd;cases hd
theorem ar.funs (I:ar X pins σ H s):s.heap.FunFrames X.base X.outer:=by
 have all:∀ (l:List Env),(∀ b∈hG l,b∈X.fs)->X.s₀.heap.FunFrames X.base l->s.heap.FunFrames X.base l:=by
  intro l
  induction l with
  | nil=>intro _ _;trivial
  | cons env r ih =>
   intro hs hl;obtain⟨hk,⟨L,o,hf,hn,ho,hd⟩,hr⟩:=hl;have hL:L∈X.fs:=hs L (by unfold hG;rw[List.filterMap_cons,hf];exact Ec);obtain⟨sl,e⟩:=I.base.slot L o ho (I.ok.frf L hL) hL fun z=>I.ok.exfs L z hL;exact⟨hk,⟨L,_,hf,hn,e,hd⟩,ih (fun b hb=>hs b (by unfold hG;rw[List.filterMap_cons,hf];exact Eb _ hb)) hr⟩
 exact all X.outer (fun _ hb=>hb) I.ok.funs
theorem ar.stack (I:ar X pins σ H s):s.heap.FunFrames X.base X.stack:=by
 rcases I.ok.stk with e | ⟨e,hf⟩
 ·rw[e];exact I.funs
 ·rw[e]
  obtain⟨m,hn,_⟩:=I.loc;refine .cons (by rw[I.ok.kind];decide) hf hn ?_ I.funs;exact Heap.get?_none_of_le (EC I.ok.bsz I.ok.above)
theorem ar.stkSub (I:ar X pins σ H s):∀ b∈hG X.stack,b∈X.env.locals::X.fs:=fun b hb=>by
 rcases I.ok.stk with e | ⟨e,hf⟩
 ·rw[e]at hb;exact Eb _ hb
 ·rw[e]at hb
  unfold hG at hb;rw[List.filterMap_cons,hf]at hb;exact hb
theorem ar.stkFree (I:ar X pins σ H s):∀ b∈hG X.stack,H b=none:=fun b hb=>by
 rcases Eh.mp (I.stkSub b hb) with e | hb
 ·rw[e];exact I.free
 ·obtain⟨_,o,ho,_⟩:=I.ok.funs.mem hb
  exact I.base.free b o ho (I.ok.frf b hb) fun z=>I.ok.exfs b z hb
theorem ar.step {g':Array GenState}{t':Nat}{d':Drawn}{ch:List Addr}(I:ar X pins σ H s)
  (hch:∀ b∈ch,(b∈X.ex\/X.s₀.heap.objs.size<=b)/\b≠X.env.locals/\(∀ x c,X.env.cells.lookup x=some c->c≠b)/\∀ p∈X.pn++pins,p.1≠b)
  (keep:∀ b o,b≠X.env.locals->b∉X.fs->b∉ch->s.heap.get? b=some o->H b=none->h'.get? b=some o)
  (slot:∀ b o,b≠X.env.locals->b∈X.fs->b∉ch->s.heap.get? b=some o->H b=none->∃ sl,h'.get? b=some { o with slots:=sl }) (free:∀ b o,b∉ch->s.heap.get? b=some o->H b=none->H' b=none)
  (there:∀ b o,b∉ch->s.heap.get? b=some o->∃ o',h'.get? b=some o')
  (tups:∀ b xs,H b=some (.tup xs)->H' b=some (.tup xs)) (frzs:∀ b o u,H b=some (.frz o u)->H' b=some (.frz o u)) (tbls:∀ b ps,H b=some (.tbl ps)->∃ more,H' b=some (.tbl (ps++more)))
  (ns:∀ m,s.heap.Ns X.env.locals m->h'.Ns X.env.locals m) (hok:gO X.prog X.w H' h') (hg:AllBare g') :
  ar X pins σ H' { s with heap:=h',gens:=g',drawn:=d',toks:=t' }:=by
 have neL:∀ b o,X.s₀.heap.get? b=some o->b≠X.env.locals:=fun b o e=>Em (Ep (Eg e) I.ok.above)
 have neC:∀ b o,X.s₀.heap.get? b=some o->b∉X.ex->b∉ch:=fun b o e hx hb=>by
  rcases (hch b hb).1 with z | z
  ·exact hx z
  ·exact absurd (Ep (Eg e) z) (Nat.lt_irrefl _)
 have cellK:∀ x c,X.env.cells.lookup x=some c->∀ v,s.heap.IsCell c v->h'.IsCell c v:=fun x c e v ⟨o,ho,hd⟩=>by
  have nch:c∉ch:=fun z=>(hch c z).2.2.1 x c e rfl
  by_cases hc:c∈X.fs
  ·obtain⟨sl,q⟩:=slot c o (I.cne x c e) hc nch ho (I.freeC x c e)
   exact⟨_,q,hd⟩
  ·exact⟨o,keep c o (I.cne x c e) hc nch ho (I.freeC x c e),hd⟩
 refine⟨I.ok,I.os,hg,⟨fun b o e n hb hx=>?_,fun b o e n hb hx=>?_,fun b o e n hx=>?_,fun b o e hx=>?_,fun b xs e=>tups b xs (I.base.tups b xs e),fun b o xs e=>frzs b o xs (I.base.frzs b o xs e),fun b ps e=>?_⟩,?_,fun x c e=>?_,?_,fun x c e=>?_,fun p hp=>?_,hok,I.len⟩
 ·exact keep b o (neL b o e) hb (neC b o e hx) (I.base.keep b o e n hb hx) (I.base.free b o e n hx)
 ·obtain⟨sl,e1⟩:=I.base.slot b o e n hb hx
  obtain⟨sl',e2⟩:=slot b _ (neL b o e) hb (neC b o e hx) e1 (I.base.free b o e n hx);exact⟨sl',e2⟩
 ·obtain⟨o',e1⟩:=I.base.there b o e hx
  exact free b o' (neC b o e hx) e1 (I.base.free b o e n hx)
 ·obtain⟨o',e1⟩:=I.base.there b o e hx
  exact there b o' (neC b o e hx) e1
 ·obtain⟨m1,e1⟩:=I.base.tbls b ps e
  obtain⟨m2,e2⟩:=tbls b _ e1;exact⟨m1++m2,by rw[e2,Array.append_assoc]⟩
 ·obtain⟨m,hn,hl⟩:=I.loc
  refine⟨m,ns m hn,fun i x v e1 e2 e3=>?_⟩;obtain⟨u,r,l⟩:=hl i x v e1 e2 e3;refine⟨u,r,?_⟩;rcases l with l | ⟨k,c,e,z⟩
  ·exact .inl l
  ·exact .inr ⟨k,c,e,cellK x c e _ z⟩
 ·obtain⟨v,z⟩:=I.cell x c e
  exact⟨v,cellK x c e v z⟩
 ·obtain⟨m,⟨o,_,_,ho,_⟩,_⟩:=I.loc
  exact free _ o (fun z=>(hch _ z).2.1 rfl) ho I.free
 ·obtain⟨v,o,ho,hd⟩:=I.cell x c e
  exact free c o (fun z=>(hch c z).2.2.1 x c e rfl) ho (I.freeC x c e)
 ·obtain⟨e,n,ne,nf,d⟩:=I.pin p hp
  have nch:p.1∉ch:=fun z=>(hch p.1 z).2.2.2 p hp rfl;exact⟨keep p.1 p.2 ne nf nch e n,free p.1 p.2 nch e n,ne,nf,d⟩
theorem ar.un {t':Nat}(I:ar X pins σ H s)(u:Un X.fs [] H H' s.heap h')(hok:gO X.prog X.w H' h'):ar X pins σ H' { s with heap:=h',toks:=t' }:=by
 obtain⟨m,⟨o,es,ep,ho,r⟩,_⟩:=id I.loc;obtain⟨sl,hL⟩:=u.any ho I.free (by simp)
 exact I.step (g':=s.gens) (d':=s.drawn) (ch:=[]) (fun _ z=>nomatch z) (fun b o _ hb _ e n=>u.keep b o e n hb (by simp)) (fun b o _ hb _ e n=>u.slot b o e n hb (by simp)) (fun b o _ e n=>u.free b o e n (by simp)) (fun b o _ e=>u.there b o e (by simp)) u.tups u.frzs u.tbls (fun m' hm=>by
  obtain⟨o',es',ep',ho',r'⟩:=hm;rw[ho]at ho';cases ho'
  exact⟨_,es',ep',hL,r'⟩) hok I.bare
theorem ar.call {g':Array GenState}{t':Nat}{d':Drawn}{ch:List Addr}(I:ar X pins σ H s)(u:Un (hG X.stack) ch H H' s.heap h')(hok:gO X.prog X.w H' h')(hg:AllBare g')
  (hch:∀ b∈ch,(b∈X.ex\/X.s₀.heap.objs.size<=b)/\b≠X.env.locals/\(∀ x c,X.env.cells.lookup x=some c->c≠b)/\∀ p∈X.pn++pins,p.1≠b) :
  ar X pins σ H' { s with heap:=h',gens:=g',drawn:=d',toks:=t' }:=by
 obtain⟨m,⟨o,es,ep,ho,r⟩,_⟩:=id I.loc;obtain⟨sl,hL⟩:=u.any ho I.free fun z=>(hch _ z).2.1 rfl
 exact I.step (ch:=ch) hch (fun b o hL hb hc e n=>u.keep b o e n (fun z=>(Eh.mp (I.stkSub b z)).elim hL hb) hc) (fun b o _ _ hc e n=>u.any e n hc) (fun b o hc e n=>u.free b o e n hc) (fun b o hc e=>u.there b o e hc) u.tups u.frzs u.tbls (fun m' hm=>by
  obtain⟨o',es',ep',ho',r'⟩:=hm;rw[ho]at ho';cases ho'
  exact⟨_,es',ep',hL,r'⟩) hok hg
theorem ar.turned {t':Nat}{it:Addr}(I:ar X pins σ H s)(k:∀ b o,b≠it->s.heap.get? b=some o->h'.get? b=some o)(hn:H it=none)(hL:it≠X.env.locals)
  (h1:it∈X.ex\/X.s₀.heap.objs.size<=it) (h2:∀ x c,X.env.cells.lookup x=some c->c≠it) (h3:∀ p∈X.pn++pins,p.1≠it):ar X pins σ H { s with heap:=h',toks:=t' }:=by
 have nit:∀ b u,H b=some u->b≠it:=fun b u e z=>by rw[z,hn]at e;cases e
 refine I.step (g':=s.gens) (d':=s.drawn) (ch:=[it]) (fun b hb=>?_) (fun b o _ _ hc e _=>k b o (fun z=>hc (by simp[z])) e) (fun b o _ _ hc e _=>⟨o.slots,k b o (fun z=>hc (by simp[z])) e⟩) (fun _ _ _ _ n=>n)
  (fun b o hc e=>⟨o,k b o (fun z=>hc (by simp[z])) e⟩) (fun _ _ e=>e) (fun _ _ _ e=>e) (fun b ps e=>⟨#[],by rw[e];simp⟩) (fun m hm=>?_) (fun b u e=>?_) I.bare
 ·have e:b=it:=by simpa using hb
  subst e;exact⟨h1,hL,h2,h3⟩
 ·obtain⟨o,es,ep,ho,r⟩:=hm
  exact⟨o,es,ep,k _ o (Eo hL) ho,r⟩
 ·refine (I.hok b u e).stay (fun c v hc q=>k c v ?_ q) (fun _ q=>q) fun _ _ q=>q
  rcases hc with z | z
  ·rw[z];exact nit b u e
  ·exact nit c _ z
theorem ar.tok (I:ar X pins σ H s)(t:Nat):ar X pins σ H { s with toks:=t }:=I.un (h':=s.heap) (t':=t) Un.refl I.hok
theorem ar.kept {t':Nat}(I:ar X pins σ H s)(k:∀ b u,s.heap.get? b=some u->h'.get? b=some u):ar X pins σ H { s with heap:=h',toks:=t' }:=I.un (Un.kept k) (I.hok.kept k)
theorem ar.laid {a:Addr}{o:HO}{t':Nat}(I:ar X pins σ H s)(k:∀ b u,s.heap.get? b=some u->h'.get? b=some u)(hp:s.heap.objs.size<=a)(new:aT X.prog X.w (upd H a o) h' a o) :
  ar X pins σ (upd H a o) { s with heap:=h',toks:=t' }:=I.un (Un.laid k hp (I.hok.fresh hp)) (I.hok.laid k hp new)
theorem ar.write {x e:Addr}{o:HO}{t':Nat}(I:ar X pins σ H s)(mu:BJ (H x))(he:e=x\/H e=some (.own x))(k:∀ b u,b≠e->s.heap.get? b=some u->h'.get? b=some u)(heo:∃ u,h'.get? e=some u)
  (new:aT X.prog X.w (upd H x o) h' x o):ar X pins σ (upd H x o) { s with heap:=h',toks:=t' }:=I.un (Un.write mu he k heo) (I.hok.write mu he k heo new)
theorem ar.pins_of {pins':List (Addr×Obj)}(I:ar X pins σ H s)(h:∀ p∈pins',s.heap.get? p.1=some p.2/\H p.1=none/\p.1≠X.env.locals/\p.1∉X.fs/\∀ v,p.2.data≠.cell v):ar X pins' σ H s :=
 ⟨I.ok,I.os,I.bare,I.base,I.loc,I.cell,I.free,I.freeC,fun p hp=>(EA.mp hp).elim (fun z=>I.pin p (List.mem_append_left _ z)) (h p),I.hok,I.len⟩
theorem m7 {N:List Str}(hN:N.Nodup){i j:Nat}{x:Str}(a:N[i]? = some x)(b:N[j]? = some x):i=j:=by
 obtain⟨h1,e1⟩:=List.getElem?_eq_some_iff.mp a;obtain⟨h2,e2⟩:=List.getElem?_eq_some_iff.mp b;exact (List.getElem_inj hN).mp (e1.trans e2.symm)
theorem pO {M:Model}{A:Around}{E:Value->Shared->Prop}{i:Nat}{x:Str}{v:V}{u:Value}{Q:Unit->Shared->Prop}(I:ar X pins σ H s)(hN:X.N.Nodup)(hi:X.N[i]? = some x)(hx:z9 X.env.scope x)(r:aI v u)
  (h:∀ s',ar X pins (σ.set i (some v)) H s'->(∃ a,Heap.SameBut a s.heap s'.heap/\(a=X.env.locals\/X.env.cells.lookup x=some a))->Q () s') (hf:X.fn x=true\/X.env.scope.names.lookup x=some .local:=by first | exact .inl rfl | exact .inr rfl | assumption):wpAny M A (storeName X.env x u) Q E s:=by
 obtain⟨m,hn,hl⟩:=id I.loc
 have hcls:(X.env.scope.kind == .class||(X.env.scope.kind == .module&&X.env.locals != X.env.globals))=false:=by rw[I.ok.kind];rfl
 have hiσ:i<σ.length:=by rw[I.len];exact (List.getElem?_eq_some_iff.mp hi).1
 have cne:=I.cne
 have tracked:∀ {a:Addr}{h':Heap},(∃ o,s.heap.get? a=some o/\H a=none)->Heap.SameBut a s.heap h'->gO X.prog X.w H h':=fun {a h'} ha hs b ob e=>by
  obtain⟨_,_,hfree⟩:=ha;refine (I.hok b ob e).stay (fun c w' hc q=>(hs.2 c ?_).trans q) (fun _ q=>q) fun _ _ q=>q;rintro rfl;rcases hc with rfl | hc
  ·rw[hfree]at e;cases e
  ·rw[hfree]at hc;cases hc
 rcases hx with hk | hk
 ·refine wpAny_storeName_local hk hn (fun h' hn' hs=>?_) hcls
  obtain⟨oL,_,_,hoL,_⟩:=id hn;refine h _ ⟨I.ok,I.os,I.bare,⟨fun b o e n hb hx=>?_,fun b o e n hb hx=>?_,I.base.free,fun b o e hx=>?_,I.base.tups,I.base.frzs,I.base.tbls⟩,⟨_,hn',fun j y v' e1 e2 e3=>?_⟩,fun y c e=>?_,I.free,I.freeC,fun p hp=>?_,tracked ⟨oL,hoL,I.free⟩ hs,by simpa using I.len⟩ ⟨_,hs,.inl rfl⟩
  ·exact (hs.2 b (Em (Ep (Eg e) I.ok.above))).trans (I.base.keep b o e n hb hx)
  ·obtain⟨sl,e1⟩:=I.base.slot b o e n hb hx
   exact⟨sl,(hs.2 b (Em (Ep (Eg e) I.ok.above))).trans e1⟩
  ·obtain⟨o',e1⟩:=I.base.there b o e hx
   exact⟨o',(hs.2 b (Em (Ep (Eg e) I.ok.above))).trans e1⟩
  ·by_cases hj:j=i
   ·subst hj
    rw[hi]at e1;cases e1;rw[List.getElem?_set_self hiσ]at e2;cases e2;exact⟨u,r,.inl ⟨hk,by simp⟩⟩
   ·rw[List.getElem?_set_ne (Eo hj)]at e2
    obtain⟨u',r',q⟩:=hl j y v' e1 e2 e3;refine⟨u',r',?_⟩;rcases q with ⟨k,e⟩ | ⟨k,c,e,z⟩
    ·refine .inl ⟨k,?_⟩
     have:y≠x:=fun e=>hj (m7 hN e1 (e▸hi));simp[this,e]
    ·exact .inr ⟨k,c,e,z.sameBut hs (cne y c e)⟩
  ·obtain⟨w',z⟩:=I.cell y c e
   exact⟨w',z.sameBut hs (cne y c e)⟩
  ·obtain⟨e,n,ne,nf,d⟩:=I.pin p hp
   exact⟨(hs.2 p.1 ne).trans e,n,ne,nf,d⟩
 ·have hfn:X.fn x=true:=by
   rcases hf with z | z
   ·exact z
   ·rw[z]at hk;cases hk
  obtain⟨c,hc⟩:=I.ok.has x (.inl hk);obtain⟨w',z⟩:=I.cell x c hc;refine wpAny_storeName_cell I.ok.kind hk hc z (fun h' hc' hs=>?_);obtain⟨oc,hoc,hocd⟩:=id z;refine h { s with heap:=h' } ⟨I.ok,I.os,I.bare,⟨fun b o e n hb hx=>?_,fun b o e n hb hx=>?_,I.base.free,fun b o e hx=>?_,I.base.tups,I.base.frzs,I.base.tbls⟩,⟨m,hn.sameBut hs (Eo (cne x c hc)),fun j y v' e1 e2 e3=>?_⟩,fun y c' e=>?_,I.free,I.freeC,fun p hp=>?_,tracked ⟨oc,hoc,I.freeC x c hc⟩ hs,by simpa using I.len⟩ ⟨c,hs,.inr hc⟩
  ·exact (hs.2 b (Em (Ep (Eg e) (I.ok.cab x c hfn hc)))).trans (I.base.keep b o e n hb hx)
  ·obtain⟨sl,e1⟩:=I.base.slot b o e n hb hx
   exact⟨sl,(hs.2 b (Em (Ep (Eg e) (I.ok.cab x c hfn hc)))).trans e1⟩
  ·obtain⟨o',e1⟩:=I.base.there b o e hx
   exact⟨o',(hs.2 b (Em (Ep (Eg e) (I.ok.cab x c hfn hc)))).trans e1⟩
  ·by_cases hj:j=i
   ·subst hj
    rw[hi]at e1;cases e1;rw[List.getElem?_set_self hiσ]at e2;cases e2;exact⟨u,r,.inr ⟨.inl hk,c,hc,hc'⟩⟩
   ·rw[List.getElem?_set_ne (Eo hj)]at e2
    obtain⟨u',r',q⟩:=hl j y v' e1 e2 e3;refine⟨u',r',?_⟩;rcases q with q | ⟨k,c',e,z'⟩
    ·exact .inl q
    ·refine .inr ⟨k,c',e,z'.sameBut hs ?_⟩
     rintro rfl;exact hj (m7 hN e1 (I.ok.inj _ _ _ e hc▸hi))
  ·by_cases hcc:c'=c
   ·subst hcc;exact⟨_,hc'⟩
   ·obtain⟨w2,z2⟩:=I.cell y c' e
    exact⟨w2,z2.sameBut hs hcc⟩
  ·obtain⟨e,n,ne,nf,d⟩:=I.pin p hp
   refine⟨(hs.2 p.1 ?_).trans e,n,ne,nf,d⟩;intro q;rw[q,hoc]at e;have q':oc=p.2:=Ef e;exact d w' (by rw[<-q'];exact hocd)
theorem jY {M:Model}{A:Around}{E:Value->Shared->Prop}{i:Nat}{x:Str}{v:V}{u:Value}{Q:Unit->Shared->Prop}(I:ar X pins σ H s)(hN:X.N.Nodup)(hi:X.N[i]? = some x)(hx:z9 X.env.scope x)(r:aI v u)
  (h:∀ s',ar X pins (σ.set i (some v)) H s'->Q () s') (hf:X.fn x=true\/X.env.scope.names.lookup x=some .local:=by first | exact .inl rfl | exact .inr rfl | assumption):wpAny M A (storeName X.env x u) Q E s :=
 pO I hN hi hx r (fun s' I' _=>h s' I') hf
theorem ar.call' {s':Shared}{ch:List Addr}(I:ar X pins σ H s)(ho:s'.os=s.os)(u:Un (hG X.stack) ch H H' s.heap s'.heap)(hok:gO X.prog X.w H' s'.heap)(hg:AllBare s'.gens)
  (hch:∀ b∈ch,(b∈X.ex\/X.s₀.heap.objs.size<=b)/\b≠X.env.locals/\(∀ x c,X.env.cells.lookup x=some c->c≠b)/\∀ p∈X.pn++pins,p.1≠b):ar X pins σ H' s':=by
 obtain⟨h',g',d',t',o'⟩:=s';have e:o'=s.os:=ho;subst e;exact I.call (g':=g') (t':=t') (d':=d') u hok hg hch
end
abbrev XK:=Value->Option Addr->Hp->Prop
abbrev St:=List (Option V)
abbrev VK:=V->Hp->Prop
abbrev TE:=St->Hp->VK->Prop
abbrev TT:=St->Hp->(Bool->Hp->Prop)->Prop
abbrev TA:=St->Hp->(List V->Hp->Prop)->Prop
structure fg where
 nx:St->Hp->Prop
 rt:VK
 bk:St->Hp->Prop:=fun _ _=>False
 ct:St->Hp->Prop:=fun _ _=>False
abbrev TS:=fg->St->Hp->Prop
def EP (X:Cx)(pins:List (Addr×Obj))(σ:St)(Q:VK)(u:Value)(s':Shared):Prop:=∃ v H',ar X pins σ H' s'/\aI v u/\Q v H'
def TP (X:Cx)(pins:List (Addr×Obj))(σ:St)(Q:Bool->Hp->Prop)(b:Bool)(s':Shared):Prop:=∃ H',ar X pins σ H' s'/\Q b H'
def AP (X:Cx)(pins:List (Addr×Obj))(σ:St)(Q:List V->Hp->Prop)(us:List Value)(s':Shared):Prop:=∃ vs H',ar X pins σ H' s'/\aL vs us/\Q vs H'
def SP (X:Cx)(pins:List (Addr×Obj))(D:fg)(f:Flow)(s':Shared):Prop :=
 match f with
 | .next=>∃ σ' H',ar X pins σ' H' s'/\D.nx σ' H'
 | .brk=>∃ σ' H',ar X pins σ' H' s'/\D.bk σ' H'
 | .cont=>∃ σ' H',ar X pins σ' H' s'/\D.ct σ' H'
 | .ret u=>∃ v σ' H',ar X pins σ' H' s'/\aI v u/\D.rt v H'
def PE (X:Cx)(e:Expr)(t:TE):Prop :=
 ∀ (pins:List (Addr×Obj))(s:Shared)(σ:St)(H:Hp)(Q:VK),ar X pins σ H s->t σ H Q->wpAny (model X.prog X.w) X.A (eval e X.env) (EP X pins σ Q) X.xe s
def PT (X:Cx)(e:Expr)(t:TT):Prop :=
 ∀ (pins:List (Addr×Obj))(s:Shared)(σ:St)(H:Hp)(Q:Bool->Hp->Prop),ar X pins σ H s->t σ H Q->wpAny (model X.prog X.w) X.A (isTrue e X.env (eval e X.env)) (TP X pins σ Q) X.xe s
def PW (X:Cx)(e:Expr)(t:TT):Prop :=
 ∀ (whole:Sem Value)(pins:List (Addr×Obj))(s:Shared)(σ:St)(H:Hp)(Q:Bool->Hp->Prop),ar X pins σ H s->t σ H Q->wpAny (model X.prog X.w) X.A (isTrue e X.env whole) (TP X pins σ Q) X.xe s
theorem PW.pt {X:Cx}{e:Expr}{t:TT}(h:PW X e t):PT X e t:=h _
def PA (X:Cx)(es:List Expr)(t:TA):Prop :=
 ∀ (pos:Pos)(pins:List (Addr×Obj))(s:Shared)(σ:St)(H:Hp)(Q:List V->Hp->Prop),ar X pins σ H s->t σ H Q->wpAny (model X.prog X.w) X.A (spliced (backTo pos (starEach es X.env))) (AP X pins σ Q) X.xe s
def PS (X:Cx)(st:Stmt)(t:TS):Prop :=
 ∀ (pins:List (Addr×Obj))(s:Shared)(σ:St)(H:Hp)(D:fg),ar X pins σ H s->t D σ H->wpAny (model X.prog X.w) X.A (exec st X.env) (SP X pins D) X.xe s
def rq (X:Cx)(st:List Stmt)(t:TS):Prop :=
 ∀ (pins:List (Addr×Obj))(s:Shared)(σ:St)(H:Hp)(D:fg),ar X pins σ H s->t D σ H->wpAny (model X.prog X.w) X.A (execs st X.env) (SP X pins D) X.xe s
theorem aU {α:Type}{t:Sem α}{Q Q':α->Shared->Prop}{M:Model}{A:Around}{E:Value->Shared->Prop}{s:Shared}(h:wpAny M A t Q E s)(hQ:∀ a s,Q a s->Q' a s):wpAny M A t Q' E s:=Ew h hQ fun _ _ x=>x
section
variable {X:Cx}
inductive TV (i:Nat) (σ:St) (H:Hp) (Q:VK):Prop
 | mk (v:V) (e:σ[i]? = some (some v)) (h:Q v H):TV i σ H Q
def CA (i:Nat):TE:=fun σ H Q=>TV i σ H Q
def tC (v:V):TE:=fun _ H Q=>Q v H
theorem A8 {i:Nat}{x:Str}{pos:Pos}(hN:X.N[i]? = some x)(hv:CZ X.env.scope x)(hd:(x == ("__debug__" : Str))=false:=by decide)(hcd:(x == ("__classdict__" : Str))=false:=by decide):PE X (.Name x pos) (CA i):=by
 intro pins s σ H Q I h;obtain⟨v,e,h⟩:=h;obtain⟨m,hn,hl⟩:=I.loc;obtain⟨u,r,l⟩:=hl i x v hN e hv;have fin:EP X pins σ Q u s:=⟨v,H,I,r,h⟩;rcases l with ⟨hk,hm⟩ | ⟨hk,c,hc,hcell⟩
 ·exact wpAny_Name (wpAny_loadName_local I.ok.kind hk hn hm fin) hd
 ·rcases hk with hk | hk
  ·exact wpAny_Name (wpAny_loadName_cell I.ok.kind hk hc hcell fin) hd
  ·exact wpAny_Name (wpAny_loadName_free I.ok.kind hk hc hcell fin hcd) hd
theorem ai {i j pos}:PE X (.Constant (.int i) j pos) (tC (.int i)):=fun _ _ _ H _ I h=>wpAny_Constant_int ⟨.int i,H,I.tok _,⟨_,rfl⟩,h⟩
theorem gM {b j pos}:PE X (.Constant (.bool b) j pos) (tC (.bl b)):=fun _ _ _ H _ I h=>Constant_bool ⟨.bl b,H,I,rfl,h⟩
theorem bY {j pos}:PE X (.Constant .none j pos) (tC .non):=fun _ _ _ H _ I h=>Constant_none ⟨.non,H,I,rfl,h⟩
theorem ao {x j pos}:PE X (.Constant (.str x) j pos) (tC (.str x)):=fun _ _ _ H _ I h=>Calls.Constant_str ⟨.str x,H,I.tok _,⟨_,rfl⟩,h⟩
def Gl (X:Cx)(x:Str):Prop:=X.env.kindOf x=some .globalImplicit
theorem dq {E:Value->Shared->Prop}{pins:List (Addr×Obj)}{s:Shared}{σ:St}{H:Hp}{x:Str}{u:Value}{pos:Pos}{Q:Value->Shared->Prop}(I:ar X pins σ H s)(hg:Gl X x)(hm:X.mg x=some u)(h:Q u s)
  (hd:(x == ("__debug__" : Str))=false:=by decide):wpAny (model X.prog X.w) X.A (eval (.Name x pos) X.env) Q E s :=
 Calls.Name_function_global I.ok.kind hg (Calls.loadGlobal_global (by rw[I.ok.glob];exact I.mod.glob.keeps I.bk) hm h) hd
theorem mK {E:Value->Shared->Prop}{pins:List (Addr×Obj)}{s:Shared}{σ:St}{H:Hp}{x:Str}{u:Value}{pos:Pos}{Q:Value->Shared->Prop}(I:ar X pins σ H s)(hg:Gl X x)(hm:X.mg x=none)(hv:bootBuiltins x=some u)(h:Q u s)
  (hn:x≠"__name__":=by decide) (hd:(x == ("__debug__" : Str))=false:=by decide):wpAny (model X.prog X.w) X.A (eval (.Name x pos) X.env) Q E s:=by
 obtain⟨mb,h1,h2⟩:=I.mod.blt;exact Calls.Name_function_global I.ok.kind hg (Calls.loadGlobal_builtin (by rw[I.ok.glob];exact I.mod.glob.keeps I.bk) hm (by rw[I.ok.blt];exact h1.keeps I.bk) ((h2 x hn).trans hv) h) hd
theorem vm {x:Str}{v:V}{u:Value}{pos:Pos}(hg:Gl X x)(hm:X.mg x=some u)(r:aI v u)(hd:(x == ("__debug__" : Str))=false:=by decide):PE X (.Name x pos) (tC v) :=
 fun _ _ _ H _ I h=>dq I hg hm ⟨v,H,I,r,h⟩ hd
variable {a b:Expr}{ta tb:TE}{pos:Pos}
def PC (X:Cx)(op:CmpOp)(a b:Expr)(t:TE):Prop :=
 ∀ (pins:List (Addr×Obj))(s:Shared)(σ:St)(H:Hp)(Q:VK),ar X pins σ H s->t σ H Q ->
  wpAny (model X.prog X.w) X.A (eval a X.env) (fun v s₁=>wpAny (model X.prog X.w) X.A (eval b X.env) (fun u s₂=>wpAny (model X.prog X.w) X.A (compareOp op v u) (EP X pins σ Q) X.xe s₂) X.xe s₁) X.xe s
theorem rZ (b:Expr){op:CmpOp}(h:op≠.In)(h2:op≠.NotIn):behindInMarks op b=false:=by
 have e1:(op == CmpOp.In)=false:=by cases op<;>first | rfl | exact absurd rfl h
 have e2:(op == CmpOp.NotIn)=false:=by cases op<;>first | rfl | exact absurd rfl h2
 cases b<;>simp[behindInMarks,e1,e2]
def Dq (ta:TE):TE:=fun σ H Q=>ta σ H fun x H1=>Q (.bl (decide (x=.non))) H1
def Cu (ta:TE):TE:=fun σ H Q=>ta σ H fun x H1=>Q (.bl (!decide (x=.non))) H1
theorem aI.none_iff {x:V}{v:Value}(r:aI x v):(v == Value.none)=decide (x=.non):=by
 cases x with
 | non=>cases r;rfl
 | bl _=>cases r;rfl
 | int _=>obtain⟨t,rfl⟩:=r;rfl
 | str _=>obtain⟨t,rfl⟩:=r;rfl
 | byt _=>obtain⟨t,rfl⟩:=r;rfl
 | flt _=>obtain⟨t,rfl⟩:=r;rfl
 | ref _=>cases r;rfl
 | ty _=>cases r;rfl
theorem uu {j pos'}(ha:PE X a ta):PC X .Is a (.Constant .none j pos') (Dq ta):=by
 intro pins s σ H Q I h;refine aU (ha pins s σ H _ I h) fun v s1 ⟨x,H1,I1,r1,q1⟩=>?_;exact Constant_none (is_none_gen ⟨.bl _,H1,I1,by rw[r1.none_iff];rfl,q1⟩)
theorem qM {j pos'}(ha:PE X a ta):PC X .IsNot a (.Constant .none j pos') (Cu ta):=by
 intro pins s σ H Q I h;refine aU (ha pins s σ H _ I h) fun v s1 ⟨x,H1,I1,r1,q1⟩=>?_;exact Constant_none (isnot_none_gen ⟨.bl _,H1,I1,by rw[r1.none_iff];rfl,q1⟩)
inductive CW (Q:Bool->Hp->Prop) (x:V) (H:Hp):Prop
 | mk (c:Bool) (e:x=.bl c) (h:Q c H):CW Q x H
def tB (t:TE):TT:=fun σ H Q=>t σ H fun x H1=>CW Q x H1
theorem uv {op:CmpOp}{t:TE}(h:PC X op a b t)(h1:behindInMarks op b=false:=by first | exact rZ _ (by decide) (by decide) | rfl):PE X (.Compare a [op] [b] pos) t:=fun pins s σ H Q I hw=>wpAny_Compare1 (h pins s σ H Q I hw) h1
theorem eB {op:CmpOp}{t:TE}(h:PC X op a b t)(h1:behindInMarks op b=false:=by first | exact rZ _ (by decide) (by decide) | rfl):PT X (.Compare a [op] [b] pos) (tB t):=by
 intro pins s σ H Q I hw;refine wpAny_isTrue_Compare1 (aU (h pins s σ H _ I hw) fun v s1 h1=>aU h1 fun u s2 h2=>aU h2 fun c s3 ⟨x,H1,I1,r1,q1⟩=>?_) h1;obtain⟨d,rfl,q⟩:=q1;cases r1;exact Fe ⟨H1,I1,q⟩
theorem kC {e:Expr}{t:TE}(h:PE X e t)(he:∀ whole,isTrue e X.env whole=(do let v <-whole;standAt e.pos;holding [v] (truthy v)):=by intro _;rfl):PT X e (tB t):=by
 intro pins s σ H Q I hw;refine isTrue_plain (aU (h pins s σ H _ I hw) fun v s1 ⟨x,H1,I1,r1,q1⟩=>?_) (he _);obtain⟨d,rfl,q⟩:=q1;cases r1;exact Fe ⟨H1,I1,q⟩
variable {tA tB':TT}{rest:List Expr}
def Dk (t u:TT):TT:=fun σ H Q=>t σ H fun c H1=>if c=true then u σ H1 Q else Q false H1
def DY (t u:TT):TT:=fun σ H Q=>t σ H fun c H1=>if c=true then Q true H1 else u σ H1 Q
def Ds (t:TT):TT:=fun σ H Q=>t σ H fun c H1=>Q (!c) H1
theorem dU (ha:PT X a tA):PW X (.BoolOp .And [a] pos) tA:=by
 intro wh pins s σ H Q I h;refine isTrue_and (aU (ha pins s σ H Q I h) fun c s1 e=>?_)
 cases c with
 | true=>exact isTrue_and_nil e
 | false=>exact e
theorem je (ha:PT X a tA):PW X (.BoolOp .Or [a] pos) tA:=by
 intro wh pins s σ H Q I h;refine isTrue_or (aU (ha pins s σ H Q I h) fun c s1 e=>?_)
 cases c with
 | false=>exact isTrue_or_nil e
 | true=>exact e
theorem gn (ha:PT X a tA)(hb:PW X (.BoolOp .And (b::rest) pos) tB'):PW X (.BoolOp .And (a::b::rest) pos) (Dk tA tB'):=by
 intro wh pins s σ H Q I h;refine isTrue_and (aU (ha pins s σ H _ I h) fun c s1 ⟨H1,I1,q1⟩=>?_)
 cases c with
 | true=>exact hb wh pins s1 σ H1 Q I1 q1
 | false=>exact⟨H1,I1,q1⟩
theorem nK (ha:PT X a tA)(hb:PW X (.BoolOp .Or (b::rest) pos) tB'):PW X (.BoolOp .Or (a::b::rest) pos) (DY tA tB'):=by
 intro wh pins s σ H Q I h;refine isTrue_or (aU (ha pins s σ H _ I h) fun c s1 ⟨H1,I1,q1⟩=>?_)
 cases c with
 | true=>exact⟨H1,I1,q1⟩
 | false=>exact hb wh pins s1 σ H1 Q I1 q1
theorem qP (ha:PT X a tA):PT X (.UnaryOp .Not a pos) (Ds tA):=by
 intro pins s σ H Q I h;exact isTrue_not (ha pins s σ H (fun c H1=>Q (!c) H1) I h)
def Co (ta tb:TE):TE:=fun σ H Q=>ta σ H fun x H1=>∃ c,x=.bl c/\if c=true then tb σ H1 Q else Q (.bl false) H1
theorem A7 {op}{t:TE}(h:PE X a t):PE X (.BoolOp op [a] pos) t:=fun pins s σ H Q I hw=>BoolOp_one (h pins s σ H Q I hw)
theorem A5 (ha:PE X a ta)(hb:PE X (.BoolOp .And (b::rest) pos) tb):PE X (.BoolOp .And (a::b::rest) pos) (Co ta tb):=by
 intro pins s σ H Q I h;refine BoolOp_and (aU (ha pins s σ H _ I h) fun v s1 ⟨x,H1,I1,r1,q1⟩=>?_);obtain⟨c,rfl,q1⟩:=q1;cases r1;refine Fe ?_
 cases c with
 | true=>exact hb pins s1 σ H1 Q I1 q1
 | false=>exact⟨.bl false,H1,I1,rfl,q1⟩
end
def be (K:PySem.W.Frag)(H:Hp)(a:Addr)(xs:List V):Prop :=
 Rd H a (.lst xs) \/
  ∃ (o:Obj)(its:Array Value)(n:Nat),K.lookup a=some o/\o.cls=.type "list"/\o.dict=none/\o.data=.seq its n/\its.size<=sizeLine/\aL xs its.toList
def bZ (K:PySem.W.Frag)(H:Hp)(a:Addr)(xs:List V):Prop :=
 Rd H a (.tup xs) \/
  ∃ (o:Obj)(its:Array Value)(n:Nat),K.lookup a=some o/\o.cls=.type "tuple"/\o.data=.seq its n/\its.size<=sizeLine/\aL xs its.toList
def C0:Value->Option V
 | .none=>some .non
 | .bool b=>some (.bl b)
 | .int i _=>some (.int i)
 | .str x _=>some (.str x)
 | .bytes b _=>some (.byt b)
 | .float b _=>some (.flt b)
 | .ref a=>some (.ref a)
 | .type n=>some (.ty n)
 | _=>none
theorem aI.abs {x:V}{u:Value}(r:aI x u):C0 u=some x:=by
 cases x with
 | non=>cases r;rfl
 | bl _=>cases r;rfl
 | int _=>obtain⟨t,rfl⟩:=r;rfl
 | str _=>obtain⟨t,rfl⟩:=r;rfl
 | byt _=>obtain⟨t,rfl⟩:=r;rfl
 | flt _=>obtain⟨t,rfl⟩:=r;rfl
 | ref _=>cases r;rfl
 | ty _=>cases r;rfl
theorem aI.inj {x y:V}{u:Value}(r:aI x u)(q:aI y u):x=y:=Ef (r.abs.symm.trans q.abs)
theorem aL.inj:∀ {xs ys:List V}{us:List Value},aL xs us->aL ys us->xs=ys
 | _,_,_,.nil,.nil=>rfl
 | _,_,_,.cons r t,.cons r' t'=>by rw[r.inj r',aL.inj t t']
section
variable {X:Cx}{pins:List (Addr×Obj)}{σ:St}{H:Hp}{s:Shared}{a:Addr}{xs ys:List V}
theorem be.of {K:PySem.W.Frag}(h:H a=some (.lst xs)):be K H a xs:=.inl (.inl h)
theorem bZ.of {K:PySem.W.Frag}(h:H a=some (.tup xs)):bZ K H a xs:=.inl (.inl h)
theorem ar.list (I:ar X pins σ H s)(h:be X.K H a xs):∃ its:List Value,aL xs its/\PlainL s.heap a its.toArray/\xs.length<=sizeLine:=by
 rcases h with h | ⟨o,its,n,hk,hc,hd,hs,hz,r⟩
 ·obtain⟨z,its,n,r,e⟩:=h.ok I.hok
  exact⟨its,r,⟨_,n,e,rfl,rfl,rfl⟩,z⟩
 ·refine⟨its.toList,r,⟨o,n,I.kIn a o hk,hc,hd,by simpa using hs⟩,?_⟩
  have e:=r.length;simp only[ED]at e;omega
theorem ar.tuple (I:ar X pins σ H s)(h:bZ X.K H a xs):∃ its:List Value,aL xs its/\IsTup s.heap a its.toArray/\xs.length<=sizeLine:=by
 rcases h with h | ⟨o,its,n,hk,hc,hs,hz,r⟩
 ·obtain⟨z,its,r,p⟩:=h.ok I.hok
  exact⟨its,r,p,z⟩
 ·refine⟨its.toList,r,⟨o,I.kIn a o hk,hc,n,by simpa using hs⟩,?_⟩
  have e:=r.length;simp only[ED]at e;omega
theorem ar.list_inj (I:ar X pins σ H s)(h:be X.K H a xs)(h':be X.K H a ys):xs=ys:=by
 obtain⟨its,r,⟨o,n,e,_,_,d⟩,_⟩:=I.list h;obtain⟨its',r',⟨o',n',e',_,_,d'⟩,_⟩:=I.list h';rw[e]at e';cases e';rw[d]at d';injection d' with d1 _
 have:its=its':=by simpa using E9 Array.toList d1
 subst this;exact r.inj r'
theorem ar.tuple_inj (I:ar X pins σ H s)(h:bZ X.K H a xs)(h':bZ X.K H a ys):xs=ys:=by
 obtain⟨its,r,⟨o,e,_,n,d⟩,_⟩:=I.tuple h;obtain⟨its',r',⟨o',e',_,n',d'⟩,_⟩:=I.tuple h';rw[e]at e';cases e';rw[d]at d';injection d' with d1 _
 have:its=its':=by simpa using E9 Array.toList d1
 subst this;exact r.inj r'
end
abbrev Cx.wish (X:Cx)(E:Value->Shared->Prop):Cx:={ X with xe:=E }
abbrev Cx.nox (X:Cx):Cx:=X.wish fun _ _=>False
theorem Cx.Ok.wish {X:Cx}(ok:X.Ok)(E:Value->Shared->Prop):(X.wish E).Ok :=
 ⟨ok.mod,ok.kind,ok.glob,ok.blt,ok.above,ok.inj,ok.has,ok.cab,ok.hd,ok.frames,ok.stk,ok.exf,ok.bs,ok.bsz,ok.noex,ok.exfs,ok.funs,ok.frf⟩
theorem Cx.Ok.unwish {X:Cx}{E:Value->Shared->Prop}(ok:(X.wish E).Ok):X.Ok :=
 ⟨ok.mod,ok.kind,ok.glob,ok.blt,ok.above,ok.inj,ok.has,ok.cab,ok.hd,ok.frames,ok.stk,ok.exf,ok.bs,ok.bsz,ok.noex,ok.exfs,ok.funs,ok.frf⟩
section
variable {X:Cx}{pins:List (Addr×Obj)}{σ:St}{H:Hp}{s:Shared}{E:Value->Shared->Prop}
theorem ar.wish (I:ar X pins σ H s)(E:Value->Shared->Prop):ar (X.wish E) pins σ H s:=⟨I.ok.wish E,I.os,I.bare,I.base,I.loc,I.cell,I.free,I.freeC,I.pin,I.hok,I.len⟩
theorem ar.unwish (I:ar (X.wish E) pins σ H s):ar X pins σ H s:=⟨I.ok.unwish,I.os,I.bare,I.base,I.loc,I.cell,I.free,I.freeC,I.pin,I.hok,I.len⟩
theorem SP.unwish {D:fg}{f:Flow}{s':Shared}(h:SP (X.wish E) pins D f s'):SP X pins D f s':=by
 cases f with
 | next=>obtain⟨σ',H',I,q⟩:=h;exact⟨σ',H',I.unwish,q⟩
 | brk=>obtain⟨σ',H',I,q⟩:=h;exact⟨σ',H',I.unwish,q⟩
 | cont=>obtain⟨σ',H',I,q⟩:=h;exact⟨σ',H',I.unwish,q⟩
 | ret u=>obtain⟨v,σ',H',I,r,q⟩:=h;exact⟨v,σ',H',I.unwish,r,q⟩
theorem rq.nox {st:List Stmt}{t:TS}(h:rq X.nox st t):rq X st t:=fun pins s σ H D I hw =>
 Ew (h pins s σ H D (I.wish _) hw) (fun _ _ q=>q.unwish) fun _ _ z=>False.elim z
end
section
variable {X:Cx}{st:Stmt}{rest:List Stmt}{t u:TS}{e:Expr}{te:TE}{pos:Pos}
def Al:TS:=fun D σ H=>D.nx σ H
def Cz (t u:TS):TS:=fun D σ H=>t { D with nx:=u D } σ H
theorem az:rq X [] Al:=fun _ _ σ H _ I h=>FG ⟨σ,H,I,h⟩
theorem af (h1:PS X st t)(h2:rq X rest u):rq X (st::rest) (Cz t u):=by
 intro pins s σ H D I h;refine wpAny_execs_cons (aU (h1 pins s σ H { D with nx:=u D } I h) fun f s1 q=>?_)
 cases f with
 | next =>
  obtain⟨σ',H',I',q⟩:=q;exact h2 pins s1 σ' H' D I' q
 | ret v=>exact q
 | brk=>exact q
 | cont=>exact q
theorem ag (h1:PS X st t):rq X [st] t:=by
 intro pins s σ H D I h;refine wpAny_execs_cons (aU (h1 pins s σ H D I h) fun f s1 q=>?_)
 cases f with
 | next=>exact FG q
 | ret v=>exact q
 | brk=>exact q
 | cont=>exact q
theorem ar.quiet {pins:List (Addr×Obj)}{σ:St}{H:Hp}{s:Shared}(I:ar X pins σ H s):interactive X.env=false:=by simp[interactive,I.ok.kind]
def Cr (te:TE):TS:=fun D σ H=>te σ H fun _ H1=>D.nx σ H1
theorem a5 (he:PE X e te)(hs:swapsWith e none pos.line X.env=pure false:=by rfl):PS X (.Expr e pos) (Cr te):=by
 intro pins s σ H D I h;exact wpAny_Expr_any (aU (he pins s σ H _ I h) fun v s1 ⟨x,H1,I1,r1,q1⟩=>⟨σ,H1,I1,q1⟩) I.quiet hs
def Cy (te:TE):TS:=fun D σ H=>te σ H D.rt
theorem aw (he:PE X e te):PS X (.Return (some e) pos) (Cy te):=by
 intro pins s σ H D I h;exact wpAny_Return_some (aU (he pins s σ H _ I h) fun v s1 ⟨x,H1,I1,r1,q1⟩=>⟨x,σ,H1,I1,r1,q1⟩)
def Ct (c:TT)(t u:TS):TS:=fun D σ H=>c σ H fun b H1=>if b=true then t D σ H1 else u D σ H1
theorem aQ {c:Expr}{a b:List Stmt}{tc:TT}(hc:PT X c tc)(ha:rq X a t)(hb:rq X b u):PS X (.If c a b pos) (Ct tc t u):=by
 intro pins s σ H D I h;refine wpAny_If (aU (hc pins s σ H _ I h) fun d s1 ⟨H1,I1,q1⟩=>?_)
 cases d with
 | true=>exact ha pins s1 σ H1 D I1 q1
 | false=>exact hb pins s1 σ H1 D I1 q1
end
abbrev TG:=V->St->Hp->(St->Hp->Prop)->Prop
abbrev yK:=List V->St->Hp->(St->Hp->Prop)->Prop
def PG (X:Cx)(target:Expr)(t:TG):Prop :=
 ∀ (pins:List (Addr×Obj))(s:Shared)(σ:St)(H:Hp)(v:V)(u:Value)(Q:St->Hp->Prop),ar X pins σ H s->aI v u->t v σ H Q ->
  wpAny (model X.prog X.w) X.A (assign target X.env u) (fun _ s'=>∃ σ' H',ar X pins σ' H' s'/\Q σ' H') X.xe s
def BL (X:Cx)(ts:List Expr)(t:yK):Prop :=
 ∀ (pins:List (Addr×Obj))(s:Shared)(σ:St)(H:Hp)(vs:List V)(us:List Value)(Q:St->Hp->Prop),ar X pins σ H s->aL vs us->t vs σ H Q ->
  wpAny (model X.prog X.w) X.A (assignInOrder ((assignEach ts X.env).map (·.2)) us) (fun _ s'=>∃ σ' H',ar X pins σ' H' s'/\Q σ' H') X.xe s
abbrev AD:=V->V->V->Hp->(Hp->Prop)->Prop
def BM (X:Cx)(t:AD):Prop :=
 ∀ (pins:List (Addr×Obj))(s:Shared)(σ:St)(H:Hp)(o i v:V)(ov iv u:Value)(Q:Hp->Prop),ar X pins σ H s->aI o ov->aI i iv->aI v u->t o i v H Q ->
  wpAny (model X.prog X.w) X.A (setItem ov iv u) (fun _ s'=>∃ H',ar X pins σ H' s'/\Q H') X.xe s
section
variable {X:Cx}{pos:Pos}
def mG (i:Nat):TG:=fun v σ H Q=>Q (σ.set i (some v)) H
theorem jG {i:Nat}{x:Str}(hN:X.N.Nodup)(hi:X.N[i]? = some x)(hx:z9 X.env.scope x)(hf:X.fn x=true\/X.env.scope.names.lookup x=some .local:=by first | exact .inl rfl | exact .inr rfl | assumption):PG X (.Name x pos) (mG i):=by
 intro pins s σ H v u Q I r h;exact wpAny_assign_Name (jY I hN hi hx r (fun s' I'=>⟨_,H,I',h⟩) hf)
def C5:yK:=fun vs σ H Q=>vs=[]/\Q σ H
inductive GC (t:TG) (u:yK) (vs:List V) (σ:St) (H:Hp) (Q:St->Hp->Prop):Prop
 | mk (v:V) (r:List V) (e:vs=v::r) (h:t v σ H fun σ' H'=>u r σ' H' Q):GC t u vs σ H Q
def BX (t:TG)(u:yK):yK:=fun vs σ H Q=>GC t u vs σ H Q
theorem gl:BL X [] C5:=by
 intro pins s σ H vs us Q I r h;obtain⟨e,h⟩:=h;subst e;cases r;exact assignInOrder_nil ⟨σ,H,I,h⟩
theorem bx {e:Expr}{es:List Expr}{t:TG}{u:yK}(h1:PG X e t)(h2:BL X es u)
  (hs:(assignEach (e::es) X.env).map (·.2)=assign e X.env::(assignEach es X.env).map (·.2):=by rfl):BL X (e::es) (BX t u):=by
 intro pins s σ H vs us Q I r h;obtain⟨v,vr,e1,h⟩:=h;subst e1
 cases r with
 | cons r rr =>
  rw[hs];refine assignInOrder_cons (aU (h1 pins s σ H _ _ _ I r h) fun _ s1 ⟨σ1,H1,I1,q1⟩=>?_);exact h2 pins s1 σ1 H1 _ _ Q I1 rr q1
inductive GT (K:PySem.W.Frag) (n:Nat) (t:yK) (v:V) (σ:St) (H:Hp) (Q:St->Hp->Prop):Prop
 | mk (a:Addr) (xs:List V) (e:v=.ref a) (q:bZ K H a xs) (l:xs.length=n) (h:t xs σ H Q):GT K n t v σ H Q
def BY (K:PySem.W.Frag)(n:Nat)(t:yK):TG:=fun v σ H Q=>GT K n t v σ H Q
theorem kA {es:List Expr}{k:Nat}{t:yK}{n:Nat}(hc:X.calm=true)(h:BL X es t)
  (hn:(assignEach es X.env).length=n:=by rfl) (hst:(assignEach es X.env).findIdx? (·.1)=none:=by rfl):PG X (.Tuple es k pos) (BY X.K n t):=by
 intro pins s σ H v u Q I r hw;obtain⟨a,xs,e1,hq,hl,hw⟩:=hw;subst e1;cases r;obtain⟨its,rv,ht,hz⟩:=I.tuple hq;refine assign_Tuple_tuple (I.ok.hd hc) ht (by simp[hn,<-hl,rv.length]) hst fun h' hx=>?_;have I1:ar X pins σ H { s with heap:=h' }:=I.kept (t':=s.toks) fun b o e=>hx b o (Em (Eg e)) e;exact h pins _ σ H xs _ Q I1 (by simpa using rv) hw
def C6 (to ti:TE)(t:AD):TG:=fun v σ H Q=>to σ H fun o H1=>ti σ H1 fun i H2=>t o i v H2 fun H3=>Q σ H3
theorem A9 {o i:Expr}{to ti:TE}{t:AD}(ho:PE X o to)(hi:PE X i ti)(hs:BM X t)
  (ha:∀ v,assign (.Subscript o i pos) X.env v=(do
   let ov <-holding [v] (eval o X.env)
   let iv <-holding [v,ov] (eval i X.env)
   standAt pos
   holding [v,ov,iv] (setItem ov iv v)
   release [v,ov,iv] []):=by intro _;rfl):PG X (.Subscript o i pos) (C6 to ti t):=by
 intro pins s σ H v u Q I r h;rw[ha];refine D5 (EK (aU (ho pins s σ H _ I h) fun ov s1 ⟨x,H1,I1,r1,q1⟩=>?_));refine D5 (EK (aU (hi pins s1 σ H1 _ I1 q1) fun iv s2 ⟨y,H2,I2,r2,q2⟩=>?_));refine D5 (EU (D5 (EK (aU (hs pins s2 σ H2 x y v ov iv u _ I2 r1 r2 r q2) fun _ s3 ⟨H3,I3,q3⟩=>?_))));exact wpAny_release ⟨σ,H3,I3,q3⟩
def Bj (te:TE)(g:TG):TS:=fun D σ H=>te σ H fun x H1=>g x σ H1 D.nx
theorem uy {tg e:Expr}{te:TE}{g:TG}(he:PE X e te)(hg:PG X tg g)(hs:swapsWithSole [tg] e pos.line X.env=pure false:=by rfl)(hw:swappedStores [tg] e X.env=pure none:=by rfl)
  (h1:(assignEach [tg] X.env).map (·.2)=[assign tg X.env]:=by rfl):PS X (.Assign [tg] e pos) (Bj te g):=by
 intro pins s σ H D I h;refine wpAny_Assign_stores (aU (he pins s σ H _ I h) fun v s1 ⟨x,H1,I1,r1,q1⟩=>?_) hs hw;rw[h1];exact aU (hg pins s1 σ H1 x v _ I1 r1 q1) fun _ s2 q=>q
theorem cx {i:Nat}{x:Str}{e:Expr}{te:TE}{pos':Pos}(hN:X.N.Nodup)(hi:X.N[i]? = some x)(hx:z9 X.env.scope x)(he:PE X e te)(hs:swapsWith e (some (.Name x pos')) pos.line X.env=pure false:=by rfl)(hf:X.fn x=true\/X.env.scope.names.lookup x=some .local:=by first | exact .inl rfl | exact .inr rfl | assumption) :
  PS X (.Assign [.Name x pos'] e pos) (Bj te (mG i)):=by
 intro pins s σ H D I h;refine wpAny_Assign_Name (aU (he pins s σ H _ I h) fun v s1 ⟨y,H1,I1,r1,q1⟩=>?_) hs;exact jY I1 hN hi hx r1 (fun s2 I2=>⟨_,H1,I2,q1⟩) hf
end
structure It where
 go:Nat->Hp->Prop
 yld:Nat->Hp->V->Hp->Prop
 stop:Nat->Hp->Prop
def fh (X:Cx)(pins:List (Addr×Obj))(H:Hp)(b:Addr):Prop :=
 H b=none/\b≠X.env.locals/\b∉X.fs/\(b∈X.ex\/X.s₀.heap.objs.size<=b)/\(∀ x c,X.env.cells.lookup x=some c->c≠b)/\∀ p∈X.pn++pins,p.1≠b
theorem ar.fpOk {X:Cx}{pins:List (Addr×Obj)}{σ:St}{H H':Hp}{s:Shared}{b:Addr}(I:ar X pins σ H s)(hb:s.heap.objs.size<=b)(hn:H' b=none):fh X pins H' b:=by
 refine⟨hn,Nat.ne_of_gt (Ep I.lt hb),I.nofs hb,.inr (EC I.sz hb),fun x c e z=>?_,fun p hp z=>?_⟩
 ·obtain⟨v,q⟩:=I.cell x c e
  exact absurd (Ep q.lt (by rw[z];exact hb)) (Nat.lt_irrefl _)
 ·exact absurd (Ep (Eg (I.pin p hp).1) (by rw[z];exact hb)) (Nat.lt_irrefl _)
structure pU (P:Program)(w:World)(K:PySem.W.Frag)(tg:Expr)(J:It)(fp:List Addr)(it:Addr)(tn:Nat->Heap->Prop):Prop where
 mem:it∈fp
 obj:∀ i h,tn i h->∀ b∈fp,∃ o,h.get? b=some o/\∀ v,o.data≠.cell v
 keep:∀ i h h',tn i h->(∀ b∈fp,∀ o,h.get? b=some o->h'.get? b=some o)->tn i h'
 item:∀ (X:Cx),X.prog=P->X.w=w->X.K=K->X.calm=true->∀ (i:Nat)(pins:List (Addr×Obj))(s:Shared)(σ:St)(H:Hp)(E:Value->Shared->Prop),ar X pins σ H s->(∀ b∈fp,fh X pins H b)->tn i s.heap->J.go i H ->
  wpAny (model P w) X.A (pyNext (.ref it)) (fun r s1=>∃ u,r=some u /\
   wpAny (model P w) X.A (letOwnedTupleGo tg (.ref it) u) (fun _ s2=>∃ x H',ar X pins σ H' s2/\aI x u/\J.yld i H x H'/\tn (i+1) s2.heap/\∀ b∈fp,H' b=none) E s1) E s
 done:∀ (X:Cx),X.prog=P->X.w=w->X.K=K->X.calm=true->∀ (i:Nat)(pins:List (Addr×Obj))(s:Shared)(σ:St)(H:Hp)(E:Value->Shared->Prop),ar X pins σ H s->(∀ b∈fp,fh X pins H b)->tn i s.heap->J.stop i H ->
  wpAny (model P w) X.A (pyNext (.ref it)) (fun r s1=>r=none/\ar X pins σ H s1) E s
 self:∀ (A:Around)(i:Nat)(s:Shared)(Q:Value->Shared->Prop)(E:Value->Shared->Prop),tn i s.heap->Q (.ref it) s->wpAny (model P w) A (pyIter (.ref it)) Q E s
abbrev TI:=St->Hp->(It->Hp->Prop)->Prop
def Dx (X:Cx)(pins:List (Addr×Obj))(σ:St)(tg:Expr)(R:It->Hp->Prop)(itv:Value)(s2:Shared):Prop :=
 ∃ (it:Addr)(fp:List Addr)(tn:Nat->Heap->Prop)(J:It)(H':Hp),itv=.ref it/\ar X pins σ H' s2/\pU X.prog X.w X.K tg J fp it tn/\tn 0 s2.heap/\(∀ b∈fp,fh X pins H' b)/\R J H'
def PI (X:Cx)(tg iter:Expr)(wi:TI):Prop :=
 ∀ (pins:List (Addr×Obj))(s:Shared)(σ:St)(H:Hp)(R:It->Hp->Prop),ar X pins σ H s->wi σ H R ->
  wpAny (model X.prog X.w) X.A (eval iter X.env) (fun v s1=>wpAny (model X.prog X.w) X.A (pyIter v) (Dx X pins σ tg R) X.xe s1) X.xe s
theorem rM {M:Model}{A:Around}{E:Value->Shared->Prop}{s:Shared}{tg:Expr}{it:Addr}{u:Value}{o:Obj}{n:String}{vs:Array Value}{Q:Unit->Shared->Prop}(ho:s.heap.get? it=some o)(hc:o.cls=.type n)(hd:o.data=.fields vs)
  (hn:["enumerate","zip","dict_itemiterator","dict_reverseitemiterator","odict_iterator","itertools.zip_longest","itertools.pairwise"].contains n=false) (hQ:Q () s):wpAny M A (letOwnedTupleGo tg (.ref it) u) Q E s:=by
 unfold letOwnedTupleGo
 cases tg<;>first
  | exact Ea hQ
  | (cases u<;>first
    | exact Ea hQ
    | (refine D5 (wpAny_load ho ?_)
       rw[hc,hd]
       show wpAny M A (if (["enumerate","zip","dict_itemiterator","dict_reverseitemiterator","odict_iterator","itertools.zip_longest","itertools.pairwise"].contains n&&vs[0]? == some (rawInt _))=true then _ else _) Q E s
       rw[D7 (by intro h;rw[hn,Bool.false_and]at h;cases h)]
       exact Ea hQ))
def Bv (K:PySem.W.Frag)(a:Addr):It :=
 ⟨fun i H=>∃ xs x,be K H a xs/\xs[i]? = some x,fun i H x H'=>H'=H/\∀ xs,be K H a xs->xs[i]? = some x,fun i H=>∃ xs,be K H a xs/\xs.length<=i⟩
def BH (K:PySem.W.Frag)(a:Addr):It :=
 ⟨fun i H=>∃ xs x,bZ K H a xs/\xs[i]? = some x,fun i H x H'=>H'=H/\∀ xs,bZ K H a xs->xs[i]? = some x,fun i H=>∃ xs,bZ K H a xs/\xs.length<=i⟩
def Bw (lo:Int)(n:Nat):It:=⟨fun i _=>i<n,fun i H x H'=>H'=H/\x=.int (lo+i),fun i _=>n<=i⟩
theorem wY {P:Program}{w:World}{K:PySem.W.Frag}{tg:Expr}(a it:Addr):pU P w K tg (Bv K a) [it] it (fun i h=>h.IsListIter it a i) where
 mem:=by simp
 obj:=fun i h st b hb=>by
  have e:b=it:=by simpa using hb
  subst e;obtain⟨o,e,c,d⟩:=st;exact⟨o,e,fun v z=>by rw[d]at z;cases z⟩
 keep:=fun i h h' st k=>st.at fun o e=>k it (by simp) o e
 item:=by
  intro X hP hw hK hc i pins s σ H E I hf st hg;subst hP hw hK;obtain⟨xs,x,hq,hx⟩:=hg;obtain⟨its,rv,p,hz⟩:=I.list hq;obtain⟨u,hu,ru⟩:=rv.get hx;obtain⟨f0,f1,f2,f3,f4,f5⟩:=hf it (by simp);refine wpAny_pyNext_list_item st p.isList (x:=u) (by simpa using hu) fun h' st' sb=>?_;have I1:ar X pins σ H { s with heap:=h' }:=I.turned (t':=s.toks) (fun b o hb e=>(sb.2 b hb).trans e) f0 f1 f3 f4 f5;obtain⟨o,e,c,d⟩:=id st';exact⟨u,rfl,rM (s:={ s with heap:=h' }) e c d (by decide) ⟨x,H,I1,ru,⟨rfl,fun ys hy=>by rw[I.list_inj hy hq];exact hx⟩,st',fun b hb=>(hf b hb).1⟩⟩
 done:=by
  intro X hP hw hK hc i pins s σ H E I hf st hg;subst hP hw hK;obtain⟨xs,hq,hx⟩:=hg;obtain⟨its,rv,p,hz⟩:=I.list hq;obtain⟨f0,f1,f2,f3,f4,f5⟩:=hf it (by simp);have hl:=rv.length;exact wpAny_pyNext_list_end (I.ok.hd hc) st p.isList (by simp;omega) fun h' eb=>⟨rfl,I.turned (t':=s.toks) (fun b o hb e=>eb b o hb e) f0 f1 f3 f4 f5⟩
 self:=fun _ _ _ _ _ st h=>wpAny_pyIter_listiter st h
theorem uM {P:Program}{w:World}{K:PySem.W.Frag}{tg:Expr}(a it:Addr):pU P w K tg (BH K a) [it] it (fun i h=>h.IsTupleIter it a i) where
 mem:=by simp
 obj:=fun i h st b hb=>by
  have e:b=it:=by simpa using hb
  subst e;obtain⟨o,e,c,d⟩:=st;exact⟨o,e,fun v z=>by rw[d]at z;cases z⟩
 keep:=fun i h h' st k=>st.at fun o e=>k it (by simp) o e
 item:=by
  intro X hP hw hK hc i pins s σ H E I hf st hg;subst hP hw hK;obtain⟨xs,x,hq,hx⟩:=hg;obtain⟨its,rv,p,hz⟩:=I.tuple hq;obtain⟨u,hu,ru⟩:=rv.get hx;obtain⟨f0,f1,f2,f3,f4,f5⟩:=hf it (by simp);refine wpAny_pyNext_tuple_item st (show s.heap.IsTuple a its.toArray from p) (x:=u) (by simpa using hu) fun h' st' sb=>?_;have I1:ar X pins σ H { s with heap:=h' }:=I.turned (t':=s.toks) (fun b o hb e=>(sb.2 b hb).trans e) f0 f1 f3 f4 f5;obtain⟨o,e,c,d⟩:=id st';exact⟨u,rfl,rM (s:={ s with heap:=h' }) e c d (by decide) ⟨x,H,I1,ru,⟨rfl,fun ys hy=>by rw[I.tuple_inj hy hq];exact hx⟩,st',fun b hb=>(hf b hb).1⟩⟩
 done:=by
  intro X hP hw hK hc i pins s σ H E I hf st hg;subst hP hw hK;obtain⟨xs,hq,hx⟩:=hg;obtain⟨its,rv,p,hz⟩:=I.tuple hq;obtain⟨f0,f1,f2,f3,f4,f5⟩:=hf it (by simp);have hl:=rv.length;exact wpAny_pyNext_tuple_end (I.ok.hd hc) st (show s.heap.IsTuple a its.toArray from p) (by simp;omega) fun h' eb=>⟨rfl,I.turned (t':=s.toks) (fun b o hb e=>eb b o hb e) f0 f1 f3 f4 f5⟩
 self:=fun _ _ _ _ _ st h=>wpAny_pyIter_tupleiter st h
theorem uL {P:Program}{w:World}{K:PySem.W.Frag}{tg:Expr}(it:Addr)(lo:Int)(n:Nat):pU P w K tg (Bw lo n) [it] it (fun i h=>IsRangeIter h it (lo+(i:Nat)*1) ((n:Int)-(i:Nat)) 1) where
 mem:=by simp
 obj:=fun i h st b hb=>by
  have e:b=it:=by simpa using hb
  subst e
  exact⟨_,st,fun v z=>by
   have z':Data.fields _=Data.cell v:=z
   cases z'⟩
 keep:=fun i h h' st k=>k it (by simp) _ st
 item:=by
  intro X hP hw hK hc i pins s σ H E I hf st hg;subst hP hw hK;obtain⟨f0,f1,f2,f3,f4,f5⟩:=hf it (by simp);have W:=Walks.range (prog:=X.prog) (w:=X.w) (I.ok.hd hc) it lo 1 n;refine W.item i s _ _ hg st fun v h' tk hv st' kk=>?_;obtain⟨t,rfl⟩:=hv;have I1:ar X pins σ H { s with heap:=h',toks:=tk }:=I.turned (fun b o hb e=>kk b o (by simpa using hb) e) f0 f1 f3 f4 f5;refine⟨_,rfl,rM (s:={ s with heap:=h',toks:=tk }) (n:="range_iterator") st' rfl rfl (by decide) ⟨.int (lo+i),H,I1,⟨t,?_⟩,⟨rfl,rfl⟩,st',fun b hb=>(hf b hb).1⟩⟩;rw[Int.mul_one]
 done:=by
  intro X hP hw hK hc i pins s σ H E I hf st hg;subst hP hw hK;obtain⟨f0,f1,f2,f3,f4,f5⟩:=hf it (by simp);exact wpAny_pyNext_range_end (I.ok.hd hc) st (by have:n<=i:=hg;omega) fun h' eb=>⟨rfl,I.turned (t':=s.toks) (fun b o hb e=>eb b o hb e) f0 f1 f3 f4 f5⟩
 self:=fun _ _ _ _ _ st h=>wpAny_pyIter_rangeiter st h
section
variable {X:Cx}{tg:Expr}
inductive Dv (K:PySem.W.Frag) (R:It->Hp->Prop) (x:V) (H:Hp):Prop
 | mk (a:Addr) (e:x=.ref a) (q:∃ xs,be K H a xs) (h:R (Bv K a) H):Dv K R x H
def Ac (K:PySem.W.Frag)(tl:TE):TI:=fun σ H R=>tl σ H fun x H1=>Dv K R x H1
def C8 (K:PySem.W.Frag)(tl:TE):TI:=fun σ H R=>tl σ H fun x H1=>∃ a,x=.ref a/\(∃ xs,bZ K H1 a xs)/\R (BH K a) H1
theorem du {l:Expr}{tl:TE}(hl:PE X l tl):PI X tg l (Ac X.K tl):=by
 intro pins s σ H R I h;refine aU (hl pins s σ H _ I h) fun v s1 ⟨x,H1,I1,r1,q1⟩=>?_;obtain⟨a,e,⟨xs,hq⟩,q⟩:=q1;subst e;cases r1;obtain⟨its,rv,p,hz⟩:=I1.list hq;refine FM p.isList ?_;refine⟨s1.heap.objs.size,[s1.heap.objs.size],_,_,H1,rfl,I1.kept (t':=s1.toks) fun b o e=>Heap.get?_push_of_some _ e,wY a _,⟨_,Heap.get?_push_size _ rfl,rfl,rfl⟩,fun b hb=>?_,q⟩
 have e:b=s1.heap.objs.size:=by simpa using hb
 subst e;exact I1.fpOk (D9 _) (I1.hok.fresh (D9 _))
theorem ya {l:Expr}{tl:TE}(hl:PE X l tl):PI X tg l (C8 X.K tl):=by
 intro pins s σ H R I h;refine aU (hl pins s σ H _ I h) fun v s1 ⟨x,H1,I1,r1,q1⟩=>?_;obtain⟨a,e,⟨xs,hq⟩,q⟩:=q1;subst e;cases r1;obtain⟨its,rv,p,hz⟩:=I1.tuple hq;refine wpAny_pyIter_tuple (show s1.heap.IsTuple a its.toArray from p) ?_;refine⟨s1.heap.objs.size,[s1.heap.objs.size],_,_,H1,rfl,I1.kept (t':=s1.toks) fun b o e=>Heap.get?_push_of_some _ e,uM a _,⟨_,Heap.get?_push_size _ rfl,rfl,rfl⟩,fun b hb=>?_,q⟩
 have e:b=s1.heap.objs.size:=by simpa using hb
 subst e;exact I1.fpOk (D9 _) (I1.hok.fresh (D9 _))
theorem yg {pins:List (Addr×Obj)}{σ:St}{H:Hp}{s:Shared}{R:It->Hp->Prop}{E:Value->Shared->Prop}{lo hi:Int}{t u v:Tok}{tk:Nat}(I:ar X pins σ H s)(h1 : -(2 ^ 62)<=lo)(h2:lo<2 ^ 62)(h3 : -(2 ^ 62)<=hi)(h4:hi<2 ^ 62)
  (q:R (Bw lo (hi-lo).toNat) H):wpAny (model X.prog X.w) X.A (pyIter (.ref s.heap.objs.size)) (Dx X pins σ tg R) E { s with heap:=s.heap.push { cls:=.type "range",data:=.fields #[.int lo t,.int hi u,.int 1 v] },toks:=tk }:=by
 refine wpAny_pyIter_range (IsRange.new ..) (small_one h1 h2 h3 h4) ?_;have I1:ar X pins σ H { s with heap:=s.heap.push { cls:=.type "range",data:=.fields #[.int lo t,.int hi u,.int 1 v] },toks:=tk }:=I.kept fun b o e=>Heap.get?_push_of_some _ e
 refine⟨(s.heap.push { cls:=.type "range",data:=.fields #[.int lo t,.int hi u,.int 1 v] }).objs.size,[(s.heap.push { cls:=.type "range",data:=.fields #[.int lo t,.int hi u,.int 1 v] }).objs.size],_,_,H,rfl,
  I1.kept (t':=tk) fun b o e=>Heap.get?_push_of_some _ e,uL _ lo (hi-lo).toNat,?_,fun b hb=>?_,q⟩
 ·have e1:lo+((0:Nat):Int)*1=lo:=by simp
  have e2:(((hi-lo).toNat:Nat):Int)-((0:Nat):Int)=Builtin.Range.rangeSize lo hi 1:=by rw[rangeSize_one];split<;>omega
  show IsRangeIter _ _ (lo+((0:Nat):Int)*1) ((((hi-lo).toNat:Nat):Int)-((0:Nat):Int)) 1
  rw[e1,e2];exact Heap.get?_push_size _ rfl
 ·have e:b=(s.heap.push { cls:=.type "range",data:=.fields #[.int lo t,.int hi u,.int 1 v] }).objs.size:=by simpa using hb
  subst e;exact I1.fpOk (D9 _) (I1.hok.fresh (D9 _))
def B1 (ta:TA):TI:=fun σ H R=>ta σ H fun vs H1=>∃ j:Int,vs=[.int j]/\-(2 ^ 62)<=j/\j<2 ^ 62/\R (Bw 0 j.toNat) H1
theorem iD {a:Expr}{ta:TA}{p pos:Pos}(hg:Gl X "range")(hm:X.mg "range" = none)(ha:PA X [a] ta)(hs:starEach [a] X.env=[(false,eval a X.env)]:=by rfl):PI X tg (.Call (.Name "range" p) [a] [] pos) (B1 ta):=by
 intro pins s σ H R I h;refine Call_ (mK I hg hm boot_range (PyProof.Rows.callWith_type1 (aU (ha pos pins s σ H _ I h) fun us s1 ⟨vs,H1,I1,r1,q1⟩=>?_) hs rfl));obtain⟨j,e,q1,q2,q⟩:=q1;subst e
 cases r1 with
 | cons r rr =>
  cases rr;obtain⟨t,rfl⟩:=r;exact call_range_1 (yg I1 (by omega) (by omega) q1 q2 (by simpa using q))
def Dp (wi:TI)(g:TG)(tb:TS):TS:=fun D σ H=>wi σ H fun J H1=>∃ W:Nat->Nat->St->Hp->Prop,(∃ m,W 0 m σ H1)/\∀ i m σ H,W i m σ H ->
 (J.stop i H/\D.nx σ H)\/(J.go i H/\∃ N:St->Hp->Prop,(∀ σ' H',N σ' H'->∃ m',m'<m/\W (i+1) m' σ' H')/\∀ x H',J.yld i H x H'->g x σ H' fun σ2 H2=>tb { D with nx:=N,ct:=N,bk:=D.nx } σ2 H2)
def ig (fp:List Addr)(h:Heap):List (Addr×Obj):=fp.filterMap fun b=>(h.get? b).map fun o=>(b,o)
theorem bJ {fp:List Addr}{h:Heap}{b:Addr}{o:Obj}(hb:b∈fp)(e:h.get? b=some o):(b,o)∈ig fp h:=List.mem_filterMap.mpr ⟨b,hb,by rw[e];rfl⟩
theorem ww {fp:List Addr}{h:Heap}{p:Addr×Obj}(hp:p∈ig fp h):p.1∈fp/\h.get? p.1=some p.2:=by
 obtain⟨b,hb,e⟩:=List.mem_filterMap.mp hp
 cases q:h.get? b with
 | none=>rw[q]at e;cases e
 | some o =>
  rw[q]at e;have e':(b,o)=p:=Ef e;subst e';exact⟨hb,q⟩
theorem ar.pinned {pins:List (Addr×Obj)}{σ:St}{H:Hp}{s:Shared}{fp:List Addr}(I:ar X pins σ H s)(hf:∀ b∈fp,fh X pins H b)(ho:∀ b∈fp,∃ o,s.heap.get? b=some o/\∀ v,o.data≠.cell v):ar X (pins++ig fp s.heap) σ H s :=
 I.pins_of fun p hp=>(EA.mp hp).elim (fun z=>I.pin p (En _ z)) fun z=>by
  obtain⟨hb,e⟩:=ww z;obtain⟨f0,f1,f2,_⟩:=hf p.1 hb;obtain⟨o,e',d⟩:=ho p.1 hb;rw[e]at e';cases e';exact⟨e,f0,f1,f2,d⟩
theorem ar.unpinned {pins pl:List (Addr×Obj)}{σ:St}{H:Hp}{s:Shared}(I:ar X (pins++pl) σ H s):ar X pins σ H s:=I.pins_of fun p hp=>I.pin p (En _ (List.mem_append_left _ hp))
theorem fB {iter:Expr}{body:List Stmt}{wi:TI}{g:TG}{tb:TS}{pos:Pos}(hp:PassesOwn (model X.prog X.w) X.A X.env X.xe)(hc:X.calm=true)(hi:PI X tg iter wi)(hg:PG X tg g)(hb:rq X body tb)
  (hs:∀ x,foldedSetIterable iter X.env x=pure x:=by intro _;rfl):PS X (.For tg iter body [] pos) (Dp wi g tb):=by
 intro pins s σ H D I h;refine wpAny_For (aU (hi pins s σ H _ I h) fun v s1 h1=>aU h1 fun itv s2 h2=>?_) hs;obtain⟨it,fp,tn,J,H2,e,I2,T,st2,f2,W,⟨m0,w0⟩,turn⟩:=h2;subst e;have stat:∀ {H':Hp},(∀ b∈fp,H' b=none)->∀ b∈fp,fh X pins H' b:=fun hn b hb=>⟨hn b hb,(f2 b hb).2⟩;refine codeAny_forLoop_any (fun n s'=>∃ i σ' H',ar X pins σ' H' s'/\tn i s'.heap/\(∀ b∈fp,H' b=none)/\W i n σ' H') ?_ m0 ⟨0,σ,H2,I2,st2,fun b hb=>(f2 b hb).1,w0⟩;rintro n s3 ⟨i,σ3,H3,I3,st3,fr3,w3⟩;rcases turn i n σ3 H3 w3 with ⟨stop,qn⟩ | ⟨go,N,hN,step⟩
 ·refine wpAny_passesOwn hp (aU (T.done X rfl rfl rfl hc i pins s3 σ3 H3 X.xe I3 (stat fr3) st3 stop) fun r s4 ⟨hr,I4⟩=>?_)
  subst hr;exact FG ⟨σ3,H3,I4,qn⟩
 ·refine wpAny_passesOwn hp (aU (T.item X rfl rfl rfl hc i pins s3 σ3 H3 X.xe I3 (stat fr3) st3 go) fun r s4 ⟨u,hr,h4⟩=>?_)
  subst hr;refine wpAny_passesOwn hp (aU h4 fun _ s5 ⟨x,H5,I5,r5,y5,st5,fr5⟩=>?_);have I5':=I5.pinned (stat fr5) (T.obj _ _ st5);refine wpAny_passesOwn hp (aU (hg _ s5 σ3 H5 x u _ I5' r5 (step x H5 y5)) fun _ s6 ⟨σ6,H6,I6,q6⟩=>?_);refine wpAny_passesOwn hp (aU (hb _ s6 σ6 H6 _ I6 q6) fun f s7 q7=>?_)
  have again:∀ {σ7:St}{H7:Hp},ar X (pins++ig fp s5.heap) σ7 H7 s7->N σ7 H7->∃ m,m<n/\∃ i σ' H',ar X pins σ' H' s7/\tn i s7.heap/\(∀ b∈fp,H' b=none)/\W i m σ' H':=fun {σ7 H7} I7 n7=>by
   obtain⟨m',hm,w7⟩:=hN σ7 H7 n7;refine⟨m',hm,i+1,σ7,H7,I7.unpinned,T.keep _ _ _ st5 fun b hb o e=>(I7.pin (b,o) (En _ (En _ (bJ hb e)))).1,fun b hb=>?_,w7⟩;obtain⟨o,e,d⟩:=T.obj _ _ st5 b hb;exact (I7.pin (b,o) (En _ (En _ (bJ hb e)))).2.1
  cases f with
  | next=>obtain⟨σ7,H7,I7,n7⟩:=q7;exact again I7 n7
  | cont=>obtain⟨σ7,H7,I7,n7⟩:=q7;exact again I7 n7
  | brk=>obtain⟨σ7,H7,I7,q7⟩:=q7;exact⟨σ7,H7,I7.unpinned,q7⟩
  | ret v=>obtain⟨x7,σ7,H7,I7,r7,q7⟩:=q7;exact⟨x7,σ7,H7,I7.unpinned,r7,q7⟩
end
theorem cD {K:PySem.W.Frag}{a:Addr}{xs:List V}{g:TG}{tb:TS}{D:fg}{σ:St}{H:Hp}(Pv:Nat->St->Hp->Prop)(h0:Pv 0 σ H)(hl:∀ i σ H,i<=xs.length->Pv i σ H->be K H a xs)
  (hs:∀ i x σ H,xs[i]? = some x->Pv i σ H->g x σ H fun σ2 H2=>tb { D with nx:=Pv (i+1),ct:=Pv (i+1),bk:=D.nx } σ2 H2) (hd:∀ σ H,Pv xs.length σ H->D.nx σ H) :
  ∃ W:Nat->Nat->St->Hp->Prop,(∃ m,W 0 m σ H)/\∀ i m σ H,W i m σ H ->
   ((Bv K a).stop i H/\D.nx σ H)\/((Bv K a).go i H/\∃ N:St->Hp->Prop,(∀ σ' H',N σ' H'->∃ m',m'<m/\W (i+1) m' σ' H')/\∀ x H',(Bv K a).yld i H x H'->g x σ H' fun σ2 H2=>tb { D with nx:=N,ct:=N,bk:=D.nx } σ2 H2):=by
 refine⟨fun i m σ H=>m=xs.length-i/\i<=xs.length/\Pv i σ H,⟨xs.length,by simp,Ey _,h0⟩,?_⟩;rintro i m σ H ⟨rfl,hi,p⟩;have q:=hl i σ H hi p
 by_cases hlt:i<xs.length
 ·refine .inr ⟨⟨xs,xs[i],q,by simp[hlt]⟩,Pv (i+1),fun σ' H' p'=>⟨xs.length-(i+1),by omega,rfl,hlt,p'⟩,fun x H' y=>?_⟩
  obtain⟨e,y⟩:=y;subst e;exact hs i x σ _ (y xs q) p
 ·have e:i=xs.length:=by omega
  subst e;exact .inl ⟨⟨xs,q,D9 _⟩,hd σ H p⟩
theorem u3 {K:PySem.W.Frag}{a:Addr}{xs:List V}{g:TG}{tb:TS}{D:fg}{σ:St}{H:Hp}(Pv:Nat->St->Hp->Prop)(h0:Pv 0 σ H)(hl:∀ i σ H,i<=xs.length->Pv i σ H->bZ K H a xs)
  (hs:∀ i x σ H,xs[i]? = some x->Pv i σ H->g x σ H fun σ2 H2=>tb { D with nx:=Pv (i+1),ct:=Pv (i+1),bk:=D.nx } σ2 H2) (hd:∀ σ H,Pv xs.length σ H->D.nx σ H) :
  ∃ W:Nat->Nat->St->Hp->Prop,(∃ m,W 0 m σ H)/\∀ i m σ H,W i m σ H ->
   ((BH K a).stop i H/\D.nx σ H)\/((BH K a).go i H/\∃ N:St->Hp->Prop,(∀ σ' H',N σ' H'->∃ m',m'<m/\W (i+1) m' σ' H')/\∀ x H',(BH K a).yld i H x H'->g x σ H' fun σ2 H2=>tb { D with nx:=N,ct:=N,bk:=D.nx } σ2 H2):=by
 refine⟨fun i m σ H=>m=xs.length-i/\i<=xs.length/\Pv i σ H,⟨xs.length,by simp,Ey _,h0⟩,?_⟩;rintro i m σ H ⟨rfl,hi,p⟩;have q:=hl i σ H hi p
 by_cases hlt:i<xs.length
 ·refine .inr ⟨⟨xs,xs[i],q,by simp[hlt]⟩,Pv (i+1),fun σ' H' p'=>⟨xs.length-(i+1),by omega,rfl,hlt,p'⟩,fun x H' y=>?_⟩
  obtain⟨e,y⟩:=y;subst e;exact hs i x σ _ (y xs q) p
 ·have e:i=xs.length:=by omega
  subst e;exact .inl ⟨⟨xs,q,D9 _⟩,hd σ H p⟩
theorem iw {lo:Int}{n:Nat}{g:TG}{tb:TS}{D:fg}{σ:St}{H:Hp}(Pv:Nat->St->Hp->Prop)(h0:Pv 0 σ H)
  (hs:∀ i σ H,i<n->Pv i σ H->g (.int (lo+i)) σ H fun σ2 H2=>tb { D with nx:=Pv (i+1),ct:=Pv (i+1),bk:=D.nx } σ2 H2) (hd:∀ σ H,Pv n σ H->D.nx σ H) :
  ∃ W:Nat->Nat->St->Hp->Prop,(∃ m,W 0 m σ H)/\∀ i m σ H,W i m σ H ->
   ((Bw lo n).stop i H/\D.nx σ H)\/((Bw lo n).go i H/\∃ N:St->Hp->Prop,(∀ σ' H',N σ' H'->∃ m',m'<m/\W (i+1) m' σ' H')/\∀ x H',(Bw lo n).yld i H x H'->g x σ H' fun σ2 H2=>tb { D with nx:=N,ct:=N,bk:=D.nx } σ2 H2):=by
 refine⟨fun i m σ H=>m=n-i/\i<=n/\Pv i σ H,⟨n,by simp,Ey _,h0⟩,?_⟩;rintro i m σ H ⟨rfl,hi,p⟩
 by_cases hlt:i<n
 ·refine .inr ⟨hlt,Pv (i+1),fun σ' H' p'=>⟨n-(i+1),by omega,rfl,hlt,p'⟩,fun x H' y=>?_⟩
  obtain⟨e,y⟩:=y;subst e y;exact hs i σ _ hlt p
 ·have e:i=n:=by omega
  subst e;exact .inl ⟨D9 _,hd σ H p⟩
abbrev R2:=V->V->Hp->VK->Prop
def js (X:Cx)(f:Value->Value->Sem Value)(r:R2):Prop :=
 ∀ (pins:List (Addr×Obj))(s:Shared)(σ:St)(H:Hp)(x y:V)(v u:Value)(Q:VK),ar X pins σ H s->aI x v->aI y u->r x y H Q ->
  wpAny (model X.prog X.w) X.A (f v u) (EP X pins σ Q) X.xe s
def CY (X:Cx)(f:Value->Sem Value)(r:V->Hp->VK->Prop):Prop :=
 ∀ (pins:List (Addr×Obj))(s:Shared)(σ:St)(H:Hp)(x:V)(v:Value)(Q:VK),ar X pins σ H s->aI x v->r x H Q ->
  wpAny (model X.prog X.w) X.A (f v) (EP X pins σ Q) X.xe s
def gF (X:Cx)(f:Value)(r:List V->Hp->VK->Prop):Prop :=
 ∀ (pins:List (Addr×Obj))(s:Shared)(σ:St)(H:Hp)(xs:List V)(us:List Value)(Q:VK),ar X pins σ H s->aL xs us->r xs H Q ->
  wpAny (model X.prog X.w) X.A (call f us) (EP X pins σ Q) X.xe s
def Cv (r:R2)(ta tb:TE):TE:=fun σ H Q=>ta σ H fun x H1=>tb σ H1 fun y H2=>r x y H2 Q
def D0 (r:V->Hp->VK->Prop)(ta:TE):TE:=fun σ H Q=>ta σ H fun x H1=>r x H1 Q
inductive RI (C:Int->Int->Prop) (g:Int->Int->V) (x y:V) (H:Hp) (Q:VK):Prop
 | mk (i j:Int) (e1:x=.int i) (e2:y=.int j) (c:C i j) (h:Q (g i j) H):RI C g x y H Q
def rI (C:Int->Int->Prop)(g:Int->Int->V):R2:=fun x y H Q=>RI C g x y H Q
inductive DA (g:Int->Int->V) (x y:V) (H:Hp) (Q:VK):Prop
 | mk (i j:Int) (e1:x=.int i) (e2:y=.int j) (h:Q (g i j) H):DA g x y H Q
def Ag (g:Int->Int->V):R2:=fun x y H Q=>DA g x y H Q
def rU (g:Int->V):V->Hp->VK->Prop:=fun x H Q=>∃ i,x=.int i/\Q (g i) H
section
variable {X:Cx}{a b c:Expr}{ta tb tc:TE}{pos:Pos}
theorem AG (ha:PE X a ta)(hb:PE X b tb){pins:List (Addr×Obj)}{s:Shared}{σ:St}{H:Hp}{R:V->V->Hp->Prop}(I:ar X pins σ H s)
  (h:ta σ H fun x H1=>tb σ H1 fun y H2=>R x y H2) {Q:Value->Shared->Prop} {f:Value->Value->Sem Value}
  (hf:∀ v u s2 x y H2,ar X pins σ H2 s2->aI x v->aI y u->R x y H2->wpAny (model X.prog X.w) X.A (f v u) Q X.xe s2) :
  wpAny (model X.prog X.w) X.A (eval a X.env) (fun v s₁=>wpAny (model X.prog X.w) X.A (eval b X.env) (fun u s₂=>wpAny (model X.prog X.w) X.A (f v u) Q X.xe s₂) X.xe s₁) X.xe s:=by
 refine aU (ha pins s σ H _ I h) fun v s1 ⟨x,H1,I1,r1,q1⟩=>?_;refine aU (hb pins s1 σ H1 _ I1 q1) fun u s2 ⟨y,H2,I2,r2,q2⟩=>?_;exact hf v u s2 x y H2 I2 r1 r2 q2
theorem av {op:Operator}{r:R2}(ho:js X (binaryOp op) r)(ha:PE X a ta)(hb:PE X b tb):PE X (.BinOp a op b pos) (Cv r ta tb):=by
 intro pins s σ H Q I h;exact wpAny_BinOp (AG ha hb I h fun v u s2 x y H2 I2 rx ry q=>ho pins s2 σ H2 x y v u Q I2 rx ry q)
theorem x6 {op:UnaryOp}{r:V->Hp->VK->Prop}(ho:CY X (unaryOp op) r)(ha:PE X a ta):PE X (.UnaryOp op a pos) (D0 r ta):=by
 intro pins s σ H Q I h;exact UnaryOp_ (aU (ha pins s σ H _ I h) fun v s1 ⟨x,H1,I1,r1,q1⟩=>ho pins s1 σ H1 x v Q I1 r1 q1)
theorem Ca {f:Value->Value->Sem Value}{C:Int->Int->Prop}{g:Int->Int->Int}
  (rule:∀ (i j:Int)(t u:Tok)(s:Shared)(Q:Value->Shared->Prop)(E:Value->Shared->Prop),C i j->Q (.int (g i j) s.toks) { s with toks:=s.toks+1 }->wpAny (model X.prog X.w) X.A (f (.int i t) (.int j u)) Q E s) :
  js X f (rI C fun i j=>.int (g i j)):=by
 intro pins s σ H x y v u Q I rx ry h;obtain⟨i,j,rfl,rfl,hc,q⟩:=h;obtain⟨t,rfl⟩:=rx;obtain⟨t',rfl⟩:=ry;exact rule i j t t' s _ _ hc ⟨.int (g i j),H,I.tok _,⟨_,rfl⟩,q⟩
theorem Cb {f:Value->Value->Sem Value}{g:Int->Int->Int}
  (rule:∀ (i j:Int)(t u:Tok)(s:Shared)(Q:Value->Shared->Prop)(E:Value->Shared->Prop),Q (.int (g i j) s.toks) { s with toks:=s.toks+1 }->wpAny (model X.prog X.w) X.A (f (.int i t) (.int j u)) Q E s) :
  js X f (Ag fun i j=>.int (g i j)):=by
 intro pins s σ H x y v u Q I rx ry h;obtain⟨i,j,rfl,rfl,q⟩:=h;obtain⟨t,rfl⟩:=rx;obtain⟨t',rfl⟩:=ry;exact rule i j t t' s _ _ ⟨.int (g i j),H,I.tok _,⟨_,rfl⟩,q⟩
theorem zE {f:Value->Value->Sem Value}{g:Int->Int->Bool}
  (rule:∀ (i j:Int)(t u:Tok)(s:Shared)(Q:Value->Shared->Prop)(E:Value->Shared->Prop),Q (.bool (g i j)) s->wpAny (model X.prog X.w) X.A (f (.int i t) (.int j u)) Q E s) :
  js X f (Ag fun i j=>.bl (g i j)):=by
 intro pins s σ H x y v u Q I rx ry h;obtain⟨i,j,rfl,rfl,q⟩:=h;obtain⟨t,rfl⟩:=rx;obtain⟨t',rfl⟩:=ry;exact rule i j t t' s _ _ ⟨.bl (g i j),H,I,rfl,q⟩
def CN (i j:Int):Prop:=0<j/\j<1073741824
def CO (i j:Int):Prop:=0<=j/\j<=1000000/\i.natAbs<2 ^ 64
def Ax (i j:Int):Prop:=(-(2 ^ 64)<i/\i<2 ^ 64)\/(-(2 ^ 64)<j/\j<2 ^ 64)
theorem Ax.ok {i j:Int}(h:Ax i j):IntMulOk i j:=by
 rcases h with ⟨h1,h2⟩ | ⟨h1,h2⟩
 ·exact .of_left (intBits_le_64 h1 h2)
 ·exact .of_right (intBits_le_64 h1 h2)
theorem de:js X (binaryOp .Add) (Ag fun i j=>.int (i+j)):=Cb fun _ _ _ _ _ _ _ q=>add_int q
theorem A4:js X (binaryOp .Sub) (Ag fun i j=>.int (i-j)):=Cb fun _ _ _ _ _ _ _ q=>sub_int q
theorem nB:js X (binaryOp .Mult) (rI Ax fun i j=>.int (i*j)):=Ca fun _ _ _ _ _ _ _ hc q=>mul_int q hc.ok
theorem cr:js X (binaryOp .FloorDiv) (rI CN fun i j=>.int (i/j)):=Ca fun i j _ _ _ _ _ hc q=>by
 have h1:(0:Int)<j:=hc.1;have h2:j<1073741824:=hc.2;exact floordiv_int (by omega) (by rw[Int.fdiv_eq_ediv_of_nonneg i (by omega)];exact q) (.inl (PyProof.noPylong_small (by omega)))
theorem a6:js X (binaryOp .Mod) (rI (fun _ j=>0<j) fun i j=>.int (i%j)):=Ca fun i j _ _ _ _ _ hc q=>by
 have h1:(0:Int)<j:=hc;exact mod_int' (by omega) (by rw[Int.fmod_eq_emod_of_nonneg i (by omega)];exact q)
theorem xW:js X (binaryOp .Pow) (rI CO fun i j=>.int (i ^ j.toNat)):=Ca fun _ _ _ _ _ _ _ hc q=>pow_int_small hc.1 hc.2.1 hc.2.2 q
theorem D1 {f:Value->Sem Value}{g:Int->Int}
  (rule:∀ (i:Int)(t:Tok)(s:Shared)(Q:Value->Shared->Prop)(E:Value->Shared->Prop),Q (.int (g i) s.toks) { s with toks:=s.toks+1 }->wpAny (model X.prog X.w) X.A (f (.int i t)) Q E s) :
  CY X f (rU fun i=>.int (g i)):=by
 intro pins s σ H x v Q I rx h;obtain⟨i,rfl,q⟩:=h;obtain⟨t,rfl⟩:=rx;exact rule i t s _ _ ⟨.int (g i),H,I.tok _,⟨_,rfl⟩,q⟩
theorem uN:CY X (unaryOp .USub) (rU fun i=>.int (-i)):=D1 fun _ _ _ _ _ q=>neg_int q
end
def Bi:V->V->Bool
 | .non,.non=>true | .non,.int _=>true | .int _,.non=>true | .non,.bl _=>true | .bl _,.non=>true | .non,.str _=>true | .str _,.non=>true
 | .int _,.int _=>true | .bl _,.bl _=>true | .str _,.str _=>true | .byt _,.byt _=>true
 | .int _,.str _=>true | .str _,.int _=>true | .bl _,.str _=>true | .str _,.bl _=>true
 | _,_=>false
def DU:R2:=fun x y H Q=>Bi x y=true/\Q (.bl (decide (x=y))) H
def DV:R2:=fun x y H Q=>Bi x y=true/\Q (.bl (!decide (x=y))) H
theorem uW {i j:Int}:decide (V.int i=V.int j)=(i == j):=by
 rw[Bool.eq_iff_iff];simp
theorem xj {i j:Bool}:decide (V.bl i=V.bl j)=(i == j):=by
 rw[Bool.eq_iff_iff];simp
theorem uX {i j:Str}:decide (V.str i=V.str j)=(i == j):=by
 rw[Bool.eq_iff_iff];simp
theorem uV {i j:Array UInt8}:decide (V.byt i=V.byt j)=(i.toList == j.toList):=by
 rw[Bool.eq_iff_iff];cases i;cases j;simp
section
variable {X:Cx}{a b c:Expr}{ta tb tc:TE}{pos:Pos}
theorem aY {pins:List (Addr×Obj)}{σ:St}{H:Hp}{s:Shared}{Q:VK}{k k':Bool}(I:ar X pins σ H s)(q:Q (.bl k) H)(e:k=k'):EP X pins σ Q (.bool k') s:=by
 subst e;exact⟨.bl k,H,I,rfl,q⟩
theorem b9:js X (compareOp .Eq) DU:=by
 intro pins s σ H x y v u Q I rx ry h;obtain⟨hs,q⟩:=h
 cases x with
 | non =>
  cases rx
  cases y with
  | non=>cases ry;exact PySem.EqNone.eq_none_none (aY I q (by simp))
  | bl j=>cases ry;exact PySem.EqNone.eq_none_bool (aY I q (by simp))
  | int j=>obtain⟨t',rfl⟩:=ry;exact PySem.EqNone.eq_none_int (aY I q (by simp))
  | str j=>obtain⟨t',rfl⟩:=ry;exact PySem.EqNone.eq_none_str (aY I q (by simp))
  | _=>exact absurd (show false=true from hs) Ed
 | bl i =>
  cases rx
  cases y with
  | non=>cases ry;exact PySem.EqNone.eq_bool_none (aY I q (by simp))
  | bl j=>cases ry;exact eq_bool (aY I q xj)
  | str j=>obtain⟨t',rfl⟩:=ry;exact PySem.EqMixed.eq_bool_str (aY I q (by simp))
  | _=>exact absurd (show false=true from hs) Ed
 | int i =>
  obtain⟨t,rfl⟩:=rx
  cases y with
  | non=>cases ry;exact PySem.EqNone.eq_int_none (aY I q (by simp))
  | int j=>obtain⟨t',rfl⟩:=ry;exact eq_int (aY I q uW)
  | str j=>obtain⟨t',rfl⟩:=ry;exact PySem.EqMixed.eq_int_str (aY I q (by simp))
  | _=>exact absurd (show false=true from hs) Ed
 | str i =>
  obtain⟨t,rfl⟩:=rx
  cases y with
  | non=>cases ry;exact PySem.EqNone.eq_str_none (aY I q (by simp))
  | bl j=>cases ry;exact PySem.EqMixed.eq_str_bool (aY I q (by simp))
  | int j=>obtain⟨t',rfl⟩:=ry;exact PySem.EqMixed.eq_str_int (aY I q (by simp))
  | str j=>obtain⟨t',rfl⟩:=ry;exact eq_str (aY I q uX)
  | _=>exact absurd (show false=true from hs) Ed
 | byt i =>
  obtain⟨t,rfl⟩:=rx
  cases y with
  | byt j=>obtain⟨t',rfl⟩:=ry;exact PySem.W.eq_bytes (aY I q uV)
  | _=>exact absurd (show false=true from hs) Ed
 | _=>cases y<;>exact absurd (show false=true from hs) Ed
theorem gL:js X (compareOp .NotEq) DV:=by
 intro pins s σ H x y v u Q I rx ry h;obtain⟨hs,q⟩:=h
 cases x with
 | non =>
  cases rx
  cases y with
  | non=>cases ry;exact PySem.EqNone.ne_none_none (aY I q (by simp))
  | bl j=>cases ry;exact PySem.EqNone.ne_none_bool (aY I q (by simp))
  | int j=>obtain⟨t',rfl⟩:=ry;exact PySem.EqNone.ne_none_int (aY I q (by simp))
  | str j=>obtain⟨t',rfl⟩:=ry;exact PySem.EqNone.ne_none_str (aY I q (by simp))
  | _=>exact absurd (show false=true from hs) Ed
 | bl i =>
  cases rx
  cases y with
  | non=>cases ry;exact PySem.EqNone.ne_bool_none (aY I q (by simp))
  | bl j=>cases ry;exact ne_bool (aY I q (E9 not xj))
  | str j=>obtain⟨t',rfl⟩:=ry;exact PySem.EqMixed.ne_bool_str (aY I q (by simp))
  | _=>exact absurd (show false=true from hs) Ed
 | int i =>
  obtain⟨t,rfl⟩:=rx
  cases y with
  | non=>cases ry;exact PySem.EqNone.ne_int_none (aY I q (by simp))
  | int j=>obtain⟨t',rfl⟩:=ry;exact ne_int (aY I q (E9 not uW))
  | str j=>obtain⟨t',rfl⟩:=ry;exact PySem.EqMixed.ne_int_str (aY I q (by simp))
  | _=>exact absurd (show false=true from hs) Ed
 | str i =>
  obtain⟨t,rfl⟩:=rx
  cases y with
  | non=>cases ry;exact PySem.EqNone.ne_str_none (aY I q (by simp))
  | bl j=>cases ry;exact PySem.EqMixed.ne_str_bool (aY I q (by simp))
  | int j=>obtain⟨t',rfl⟩:=ry;exact PySem.EqMixed.ne_str_int (aY I q (by simp))
  | str j=>obtain⟨t',rfl⟩:=ry;exact ne_str (aY I q (E9 not uX))
  | _=>exact absurd (show false=true from hs) Ed
 | byt i =>
  obtain⟨t,rfl⟩:=rx
  cases y with
  | byt j=>obtain⟨t',rfl⟩:=ry;exact PySem.W.ne_bytes (aY I q (E9 not uV))
  | _=>exact absurd (show false=true from hs) Ed
 | _=>cases y<;>exact absurd (show false=true from hs) Ed
theorem pI:js X (compareOp .Lt) (Ag fun i j=>.bl (decide (i<j))):=zE fun _ _ _ _ _ _ _ q=>lt_int q
theorem Ae:js X (compareOp .LtE) (Ag fun i j=>.bl (decide (i<=j))):=zE fun _ _ _ _ _ _ _ q=>le_int q
theorem xV:js X (compareOp .Gt) (Ag fun i j=>.bl (decide (j<i))):=zE fun _ _ _ _ _ _ _ q=>gt_int q
theorem Cc:js X (compareOp .GtE) (Ag fun i j=>.bl (decide (j<=i))):=zE fun _ _ _ _ _ _ _ q=>ge_int q
theorem wz:js X (compareOp .In) (fun x y H Q=>∃ i j,x=.str i/\y=.str j/\Q (.bl (!(Builtin.Str.occurrences j i 0 j.length 1).isEmpty)) H):=by
 intro pins s σ H x y v u Q I rx ry h;obtain⟨i,j,rfl,rfl,q⟩:=h;obtain⟨t,rfl⟩:=rx;obtain⟨t',rfl⟩:=ry;exact in_str (aY I q rfl)
theorem aB (b:Expr){op:CmpOp}(h:op≠.In:=by decide)(h2:op≠.NotIn:=by decide):behindInMarks op b=false:=by
 have e1:(op == CmpOp.In)=false:=by cases op<;>first | rfl | exact absurd rfl h
 have e2:(op == CmpOp.NotIn)=false:=by cases op<;>first | rfl | exact absurd rfl h2
 cases b<;>simp[behindInMarks,e1,e2]
theorem lN {op:CmpOp}{r:R2}(ho:js X (compareOp op) r)(ha:PE X a ta)(hb:PE X b tb)(hm:behindInMarks op b=false):PE X (.Compare a [op] [b] pos) (Cv r ta tb):=by
 intro pins s σ H Q I h;exact wpAny_Compare1 (AG ha hb I h fun v u s2 x y H2 I2 rx ry q=>ho pins s2 σ H2 x y v u Q I2 rx ry q) hm
def yu (t:TE):TT:=fun σ H Q=>t σ H fun x H'=>CW Q x H'
theorem ax {op:CmpOp}{r:R2}(ho:js X (compareOp op) r)(ha:PE X a ta)(hb:PE X b tb)(hm:behindInMarks op b=false):PT X (.Compare a [op] [b] pos) (yu (Cv r ta tb)):=by
 intro pins s σ H Q I h
 refine wpAny_isTrue_Compare1 (aU (ha pins s σ H _ I h) fun v s1 ⟨x,H1,I1,r1,q1⟩=>aU (hb pins s1 σ H1 _ I1 q1) fun u s2 ⟨y,H2,I2,r2,q2⟩ =>
  aU (ho pins s2 σ H2 x y v u _ I2 r1 r2 q2) fun c s3 ⟨z,H3,I3,r3,k,e,q3⟩=>?_) hm
 subst e;cases r3;exact Fe ⟨H3,I3,q3⟩
def Bk (r r':R2)(ta tb tc:TE):TE:=fun σ H Q=>ta σ H fun x H1=>tb σ H1 fun y H2=>r x y H2 fun z H3=>∃ k,z=.bl k /\
 (if k=true then tc σ H3 fun w' H4=>r' y w' H4 Q else Q (.bl false) H3)
theorem yd {op op':CmpOp}{r r':R2}(ho:js X (compareOp op) r)(ho':js X (compareOp op') r')(ha:PE X a ta)(hb:PE X b tb)(hc:PE X c tc)
  (hm:lastMarks [op,op'] [b,c]=false:=by with_unfolding_all rfl):PT X (.Compare a [op,op'] [b,c] pos) (yu (Bk r r' ta tb tc)):=by
 intro pins s σ H Q I h
 refine isTrue_chain (aU (ha pins s σ H _ I h) fun v s1 ⟨x,H1,I1,r1,q1⟩=>test_link (aU (hb pins s1 σ H1 _ I1 q1) fun u s2 ⟨y,H2,I2,r2,q2⟩ =>
  aU (ho pins s2 σ H2 x y v u _ I2 r1 r2 q2) fun d s3 ⟨z,H3,I3,r3,k,e,q3⟩=>?_)) hm
 subst e;cases r3;refine Fe ?_
 cases k with
 | false =>
  obtain⟨k',e',q'⟩:=q3;cases e';exact ite_ff ⟨H3,I3,q'⟩
 | true =>
  refine ite_tt (test_last (aU (hc pins s3 σ H3 _ I3 q3) fun w' s4 ⟨z',H4,I4,r4,q4⟩=>aU (ho' pins s4 σ H4 y z' u w' _ I4 r2 r4 q4) fun d' s5 ⟨z2,H5,I5,r5,k2,e2,q5⟩=>?_));subst e2;cases r5;exact Fe ⟨H5,I5,q5⟩
theorem kh:(sizeLine:Nat)<2 ^ 63:=by rw[EZ];decide
theorem ei:js X (binaryOp .Add) (fun x y H Q=>∃ i j,x=.str i/\y=.str j/\i.length+j.length<=sizeLine/\Q (.str (i++j)) H):=by
 intro pins s σ H x y v u Q I rx ry h;obtain⟨i,j,rfl,rfl,hz,q⟩:=h;obtain⟨t,rfl⟩:=rx;obtain⟨t',rfl⟩:=ry;exact add_str (fun t' tk=>⟨.str (i++j),H,I.tok _,⟨_,rfl⟩,q⟩) hz
theorem eO {x:V}{us:List Value}(r:aL [x] us):∃ u,us=[u]/\aI x u:=by
 cases r with
 | cons r1 r2=>cases r2;exact⟨_,rfl,r1⟩
end
structure tp (h:Heap)(x dx C:Addr)(mA:Str->Option Value):Prop where
 obj:h.get? x=some (PySem.W.instObj C dx)
 ns:h.Ns1 dx mA
 ne:dx≠x
theorem pG {h:Heap}{dx:Addr}{mA:Str->Option Value}(n:h.Ns1 dx mA):∃ od,h.get? dx=some od/\∀ name,PySem.W.lookIn name od=some (mA name):=by
 obtain⟨o,es,ep,ho,hd,hk,_,hm⟩:=n;refine⟨o,ho,fun name=>?_⟩;have e:=hm name;unfold nsFind findBy at e;rw[<-Array.find?_toList]at e;unfold PySem.W.lookIn;rw[hd];dsimp only;split
 ·rename_i y q
  rw[q]at e;exact E9 some e
 ·rename_i q
  rw[q]at e
  have a:es.toList.any (·.refKey)=false:=by
   rw[List.any_eq_false];intro y hy;obtain⟨z,t,hkey⟩:=hk y (Array.mem_toList_iff.mp hy);simp[DictEntry.refKey,hkey]
  have a':¬ es.toList.any (·.refKey)=true:=by rw[a];exact Ed
  rw[D7 a'];exact E9 some e
theorem tp.look {h:Heap}{x dx C:Addr}{mA:Str->Option Value}(I:tp h x dx C mA):∃ od,PySem.W.InstAt h x (PySem.W.instObj C dx) C (some od)/\∀ name,PySem.W.lookIn name od=some (mA name) :=
 let ⟨od,ho,hl⟩:=pG I.ns
 ⟨od,⟨I.obj,rfl,rfl,ho⟩,hl⟩
section
variable {prog:Program}{w:World}{A:Around}{E:Value->Shared->Prop}{s:Shared}{K:PySem.W.Frag}{x dx C f:Addr}{mA:Str->Option Value}{name:Str}{v:Value}
theorem zd {expr:Bool}{Q:Value->Shared->Prop}(X:K.In s.heap)(I:tp s.heap x dx C mA)(hg:PySem.W.plainGet K C name=true)(hh:PySem.W.hasDictIn K C=true)
  (ha:PySem.W.findIn K (.ref C) name=some none) (hv:mA name=some v) (hv':PySem.W.handedIn v=true) (h:Q v { s with toks:=s.toks+1 }) :
  wpAny (model prog w) A (getAttr (.ref x) name expr) Q E s:=by
 obtain⟨od,J,hl⟩:=I.look;exact PySem.W.get_value X J (PySem.W.plainGet_of hg).1 (PySem.W.findObj_own hh ha rfl (by rw[hl,hv])) hv' h
theorem xA {pl:Sem Bool}{Q:Value×List Value->Shared->Prop}(X:K.In s.heap)(I:tp s.heap x dx C mA)(hg:PySem.W.plainGet K C name=true)
  (hf:PySem.W.findIn K (.ref C) name=some (some (.ref f))) (ht:PySem.W.isFn K (.ref f)=true) (hv:mA name=none) (h:Q (.ref f,[.ref x]) s) :
  wpAny (model prog w) A (getMethod (.ref x) name pl) Q E s:=by
 obtain⟨od,J,hl⟩:=I.look;exact PySem.W.method_fn X J (PySem.W.plainGet_of hg).1 (PySem.W.plainGet_of hg).2 hf (FH.mp ht) (by show (PySem.W.lookIn name od).map (·.isSome)=some false;rw[hl,hv];rfl) h
theorem zS {ns:List Str}{Q:Unit->Shared->Prop}(X:K.In s.heap)(I:tp s.heap x dx C mA)
  (hs:PySem.W.findIn K (.ref C) "__setattr__" = some (some (.builtin "object.__setattr__"))) (hp:PySem.W.plainOver K C=true) (ht:PySem.W.takerIn K C name=some none) (hh:PySem.W.hasDictIn K C=true)
  (hw:PySem.Within mA ns) (hsz:ns.length<=sizeLine)
  (h:∀ h',tp h' x dx C (fun y=>if y=name then some v else mA y)->Heap.SameBut dx s.heap h'->Q () { s with heap:=h',toks:=s.toks+2 }) :
  wpAny (model prog w) A (setAttr (.ref x) name v) Q E s:=by
 obtain⟨od,J,hl⟩:=I.look;refine PySem.W.set_plain X J hs (PySem.W.osa_open (s:={ s with toks:=s.toks+1 }) (r:=none) X J hp ht fun b=>?_);obtain⟨cd,hc,hd'⟩:=PySem.W.any_some hh;have hx:s.heap.get? x=some ⟨.ref C,some dx,.plain,#[]⟩:=I.obj;refine D5 (Ea (D5 (D5 (wpAny_loadPart hx (D5 (PySem.W.Looks.here (s:={ s with toks:=s.toks+1 }) (PySem.W.looks_clsIn X hc) ?_))))));rw[hd'];refine Ea (a:=some dx) (D5 (Ea (D5 ?_)));refine wpAny_nsSet1 (s:={ s with toks:=s.toks+1 }) I.ns fun h' hn2 hs2=>?_;obtain⟨oD,esD,epD,hoD,hdD,hcD⟩:=hn2.count (PySem.Within.cons name v hw);refine D5 (wpAny_lookBehind hoD (by rw[hdD];exact pastItsLine_dict (EC hcD (by rw[Eu];omega))) ?_);exact Ea (h _ ⟨(hs2.2 _ (Eo I.ne)).trans I.obj,hn2,I.ne⟩ hs2)
theorem xL {R:Result->Shared->Prop}{vs:List Value}{kw:List (Str×Value)}(X:K.In s.heap)(hm:PySem.W.makesIn K C=true)
  (hi:PySem.W.findIn K (.ref C) "__init__" = some (some (.ref f))) (hf:PySem.W.typeIn K (.ref f)=some (.type "function"))
  (h:codeAny (model prog w) (A.under (.builtin "type.__call__" ⟨.ref C::vs,kw⟩)) (.call (.ref f) ⟨.ref (s.heap.objs.size+1)::vs,kw⟩) (PySem.W.InitBack (s.heap.objs.size+1) R)
   { s with heap:=(s.heap.push PySem.W.emptyDict).push (PySem.W.instObj C s.heap.objs.size) }) :
  codeAny (model prog w) A (.call (.ref C) ⟨vs,kw⟩) R s:=by
 obtain⟨hh,g,d,t,os⟩:=s;exact PySem.W.make_core (PySem.W.makes_of X hm) (PySem.W.looks_findIn X hi) (fun self=>PySem.W.bind_fn X self hf) (.inl rfl) h
end
def fU (f:Str)(v:V):List (Str×V)->List (Str×V)
 | []=>[(f,v)]
 | (g,x)::r=>if g=f then (g,v)::r else (g,x)::fU f v r
theorem aM (f g:Str)(v:V):∀ fs:List (Str×V),(fU f v fs).lookup g=if g=f then some v else fs.lookup g
 | []=>by
  show List.lookup g [(f,v)]=_
  by_cases h:g=f
  ·have hb:(g == f)=true:=FH.mpr h
   simp only[List.lookup,hb,D8 h]
  ·have hb:(g == f)=false:=Fh.mpr h
   simp only[List.lookup,hb,D7 h]
 | (k,x)::r=>by
  have ih:=aM f g v r;rw[show fU f v ((k,x)::r)=(if k=f then (k,v)::r else (k,x)::fU f v r) from rfl]
  by_cases hk:k=f
  ·rw[D8 hk]
   by_cases h:g=k
   ·have hb:(g == k)=true:=FH.mpr h
    simp only[List.lookup,hb,D8 (h.trans hk)]
   ·have hb:(g == k)=false:=Fh.mpr h
    simp only[List.lookup,hb,D7 (fun e:g=f=>h (e.trans hk.symm))]
  ·rw[D7 hk]
   by_cases h:g=k
   ·have hb:(g == k)=true:=FH.mpr h
    simp only[List.lookup,hb,D7 (fun e:g=f=>hk (h.symm.trans e))]
   ·have hb:(g == k)=false:=Fh.mpr h
    simp only[List.lookup,hb];exact ih
theorem kg (f:Str)(v:V):∀ fs:List (Str×V),f∈(fU f v fs).map (·.1)/\∀ g,g∈fs.map (·.1)->g∈(fU f v fs).map (·.1)
 | []=>⟨by simp[fU],fun g h=>by simp at h⟩
 | (k,x)::r=>by
  obtain⟨i1,i2⟩:=kg f v r;rw[show fU f v ((k,x)::r)=(if k=f then (k,v)::r else (k,x)::fU f v r) from rfl]
  by_cases hk:k=f
  ·rw[D8 hk]
   subst hk;exact⟨by simp,fun g h=>by simpa using h⟩
  ·rw[D7 hk]
   refine⟨?_,fun g h=>?_⟩
   ·rw[Er]
    exact Eb _ i1
   ·rw[Er]at h ⊢
    rcases Eh.mp h with e | e
    ·exact Eh.mpr (.inl e)
    ·exact Eb _ (i2 g e)
theorem kY (f:Str)(v:V):∀ fs:List (Str×V),(fU f v fs).length<=fs.length+1
 | []=>by simp[fU]
 | (k,x)::r=>by
  have ih:=kY f v r;rw[show fU f v ((k,x)::r)=(if k=f then (k,v)::r else (k,x)::fU f v r) from rfl]
  by_cases hk:k=f
  ·rw[D8 hk,Eu,Eu];omega
  ·rw[D7 hk,Eu,Eu];omega
theorem fw.some_of {v:V}{o:Option Value}(r:fw (some v) o):∃ u,o=some u/\aI v u:=by
 cases o with
 | none=>exact (show False from r).elim
 | some u=>exact⟨u,rfl,r⟩
theorem fw.none_of {o:Option Value}(r:fw none o):o=none:=by
 cases o with
 | none=>rfl
 | some u=>exact (show False from r).elim
theorem py {v:V}{u:Value}(r:aI v u):PySem.W.handedIn u=true:=by
 cases v with
 | non=>cases (show u=Value.none from r);rfl
 | bl b=>cases (show u=Value.bool b from r);rfl
 | int i=>obtain⟨t,e⟩:=(show ∃ t,u=Value.int i t from r);cases e;rfl
 | str x=>obtain⟨t,e⟩:=(show ∃ t,u=Value.str x t from r);cases e;rfl
 | byt b=>obtain⟨t,e⟩:=(show ∃ t,u=Value.bytes b t from r);cases e;rfl
 | flt b=>obtain⟨t,e⟩:=(show ∃ t,u=Value.float b t from r);cases e;rfl
 | ref a=>cases (show u=Value.ref a from r);rfl
 | ty n=>cases (show u=Value.type n from r);rfl
section
variable {P:Program}{w:World}{H H':Hp}{h h':Heap}{a C dx:Addr}{fs fs':List (Str×V)}
theorem lJ (hok:gO P w H h)(e:H a=some (.ins C dx fs)):∃ mA,tp h a dx C mA/\(∀ f,fw (fs.lookup f) (mA f))/\PySem.Within mA (fs.map (·.1))/\fs.length<=1000/\H dx=some (.own a):=by
 obtain⟨d,z,ne,ob,mA,n,r,q⟩:=(show aT P w H h a (.ins C dx fs) from hok a _ e);exact⟨mA,⟨ob,n,ne⟩,r,q,z,d⟩
end
structure vL (K:PySem.W.Frag)(C:Addr):Prop where
 pg:PySem.W.plainGet K C Str.empty=true
 hd:PySem.W.hasDictIn K C=true
 po:PySem.W.plainOver K C=true
 sa:PySem.W.findIn K (.ref C) "__setattr__" = some (some (.builtin "object.__setattr__"))
theorem vL.get {K:PySem.W.Frag}{C:Addr}(c:vL K C)(f:Str):PySem.W.plainGet K C f=true:=c.pg
def fq (K:PySem.W.Frag)(C:Addr)(f:Str):Prop:=PySem.W.findIn K (.ref C) f=some none
theorem fq.taker {K:PySem.W.Frag}{C:Addr}{f:Str}(n:fq K C f):PySem.W.takerIn K C f=some none:=by
 unfold PySem.W.takerIn;rw[show PySem.W.findIn K (.ref C) f=some none from n];rfl
structure yR (K:PySem.W.Frag)(C:Addr)(m:Str)(f:Addr):Prop where
 at_:PySem.W.findIn K (.ref C) m=some (some (.ref f))
 fn:PySem.W.isFn K (.ref f)=true
 kp:PySem.W.keepIn K (.ref f)=true
section
variable {X:Cx}{pins:List (Addr×Obj)}{σ:St}{H:Hp}{s:Shared}{a C dx:Addr}{fs:List (Str×V)}{f:Str}{v:V}{A:Around}{E:Value->Shared->Prop}
theorem tP {b:Bool}{Q:Value->Shared->Prop}(I:ar X pins σ H s)(e:H a=some (.ins C dx fs))(c:vL X.K C)(n:fq X.K C f)(l:fs.lookup f=some v)
  (h:∀ u s',ar X pins σ H s'->aI v u->Q u s'):wpAny (model X.prog X.w) A (getAttr (.ref a) f b) Q E s:=by
 obtain⟨mA,O,r,_,_,_⟩:=lJ I.hok e;obtain⟨u,hu,ru⟩:=fw.some_of (v:=v) (o:=mA f) (by rw[<-l];exact r f);exact zd I.kIn O (c.get f) c.hd n hu (py ru) (h u _ (I.tok _) ru)
theorem mH {m:Str}{g:Addr}{pl:Sem Bool}{Q:Value×List Value->Shared->Prop}(I:ar X pins σ H s)(e:H a=some (.ins C dx fs))(c:vL X.K C)(k:yR X.K C m g)(l:fs.lookup m=none)
  (h:Q (.ref g,[.ref a]) s):wpAny (model X.prog X.w) A (getMethod (.ref a) m pl) Q E s:=by
 obtain⟨mA,O,r,_,_,_⟩:=lJ I.hok e;have hn:mA m=none:=fw.none_of (by rw[<-l];exact r m);exact xA I.kIn O (c.get m) k.at_ k.fn hn h
theorem uF {y:V}{u:Value}{Q:Unit->Shared->Prop}(I:ar X pins σ H s)(e:H a=some (.ins C dx fs))(c:vL X.K C)(n:fq X.K C f)(hl:fs.length<1000)(ry:aI y u)
  (h:∀ s',ar X pins σ (upd H a (.ins C dx (fU f y fs))) s'->Q () s'):wpAny (model X.prog X.w) A (setAttr (.ref a) f u) Q E s:=by
 obtain⟨mA,O,r,wi,_,ho⟩:=lJ I.hok e
 have hz:(fs.map (·.1)).length<=sizeLine:=by rw[D6,EZ];omega
 refine zS I.kIn O c.sa c.po n.taker c.hd wi hz fun h' O' sb=>h _ ?_;have hd:∃ o,h'.get? dx=some o:=let ⟨o,_,_,e',_⟩:=O'.ns;⟨o,e'⟩;refine I.write (x:=a) (e:=dx) (by rw[e];exact True.intro) (.inr ho) (fun b q hb z=>(sb.2 b hb).trans z) hd ?_;refine⟨by rw[ae O.ne];exact ho,?_,O.ne,O'.obj,_,O'.ns,fun g=>?_,fun g hg=>?_⟩
 ·have:=kY f y fs;omega
 ·show fw ((fU f y fs).lookup g) (if g=f then some u else mA g)
  rw[aM]
  by_cases q:g=f
  ·rw[D8 q,D8 q];exact ry
  ·rw[D7 q,D7 q];exact r g
 ·by_cases q:g=f
  ·rw[q];exact (kg f y fs).1
  ·refine (kg f y fs).2 g (wi g fun z=>hg ?_)
   show (if g=f then some u else mA g)=none
   rw[D7 q];exact z
theorem ar.made (I:ar X pins σ H s):ar X pins σ (upd (upd H s.heap.objs.size (.own (s.heap.objs.size+1))) (s.heap.objs.size+1) (.ins C s.heap.objs.size []))
  { s with heap:=(s.heap.push PySem.W.emptyDict).push (PySem.W.instObj C s.heap.objs.size) }:=by
 have e1:(s.heap.push PySem.W.emptyDict).get? s.heap.objs.size=some PySem.W.emptyDict:=Heap.get?_push_size s.heap rfl
 have e2:((s.heap.push PySem.W.emptyDict).push (PySem.W.instObj C s.heap.objs.size)).get? (s.heap.objs.size+1)=some (PySem.W.instObj C s.heap.objs.size):=by
  have:=Heap.get?_push_size (s.heap.push PySem.W.emptyDict) (o:=PySem.W.instObj C s.heap.objs.size) rfl
  rwa [FD]at this
 have e3:(s.heap.push PySem.W.emptyDict).Ns s.heap.objs.size (fun _=>none):=⟨PySem.W.emptyDict,#[],_,e1,rfl,(fun e he=>absurd he (by simp)),fun _=>rfl⟩;have I1:=I.laid (a:=s.heap.objs.size) (o:=.own (s.heap.objs.size+1)) (h':=s.heap.push PySem.W.emptyDict) (t':=s.toks) (fun b u q=>Heap.get?_push_of_some _ q) (D9 _) ⟨_,e1⟩;refine I1.laid (a:=s.heap.objs.size+1) (o:=.ins C s.heap.objs.size []) (t':=s.toks) (fun b u q=>Heap.get?_push_of_some _ q) (Nat.le_of_eq (FD _ _)) ?_;have ne:s.heap.objs.size≠s.heap.objs.size+1:=Em (Nat.lt_succ_self _);refine⟨by rw[ae ne,ac],Ey _,ne,e2,fun _=>none,(Heap.Ns1.of_empty e3).at fun o q=>Heap.get?_push_of_some _ q,fun _=>True.intro,fun y hy=>absurd rfl hy⟩
theorem uR {prog:Program}{w:World}{env:Env}{e:Expr}{f:Str}{pos:Pos}{s:Shared}{Q:Value->Shared->Prop}(hb:attributeBase e f env (eval e env)=eval e env)
  (h:wpAny (model prog w) A (eval e env) (fun o s₁=>wpAny (model prog w) A (getAttr o f true) Q E s₁) E s):wpAny (model prog w) A (eval (.Attribute e f pos) env) Q E s :=
 Attribute_any_ h (by rw[arm_eval_Attribute,hb])
end
inductive DE (K:PySem.W.Frag) (f:Str) (Q:VK) (x:V) (H:Hp):Prop
 | mk (a C dx:Addr) (fs:List (Str×V)) (v:V) (e:x=.ref a) (o:H a=some (.ins C dx fs)) (c:vL K C) (n:fq K C f) (l:fs.lookup f=some v) (h:Q v H):DE K f Q x H
def Do (K:PySem.W.Frag)(ta:TE)(f:Str):TE:=fun σ H Q=>ta σ H fun x H1=>DE K f Q x H1
def Dj (K:PySem.W.Frag)(ta tv:TE)(f:Str):TS:=fun D σ H=>tv σ H fun y H1=>ta σ H1 fun x H2=>∃ a C dx fs,x=.ref a/\H2 a=some (.ins C dx fs)/\vL K C/\fq K C f/\fs.length<1000 /\
 D.nx σ (upd H2 a (.ins C dx (fU f y fs)))
section
variable {X:Cx}{o e value:Expr}{f:Str}{pos pos' tpos:Pos}{ta tv:TE}
theorem bP (he:PE X e ta)(hb:attributeBase e f X.env (eval e X.env)=eval e X.env):PE X (.Attribute e f pos) (Do X.K ta f):=by
 intro pins s σ H Q I h;refine uR hb (aU (he pins s σ H _ I h) fun u s1 ⟨x,H1,I1,rx,a,C,dx,fs,v,ex,ea,c,n,l,q⟩=>?_);subst ex;obtain rfl:u=Value.ref a:=rx;exact tP I1 ea c n l fun u' s2 I2 ru=>⟨v,H1,I2,ru,q⟩
theorem qO (ha:PE X o ta)(hv:PE X value tv)(hs:swapsWith value (some (.Attribute o f pos')) pos.line X.env=pure false):PS X (.Assign [.Attribute o f pos'] value pos) (Dj X.K ta tv f):=by
 intro pins s σ H D I h;refine plainObj_wpAny_Assign_Attribute (aU (hv pins s σ H _ I h) fun u s1 ⟨y,H1,I1,ry,q⟩=>aU (ha pins s1 σ H1 _ I1 q) fun ov s2 ⟨x,H2,I2,rx,a,C,dx,fs,ex,ea,c,n,l,q2⟩=>?_) hs;subst ex;obtain rfl:ov=Value.ref a:=rx;exact uF I2 ea c n l ry fun s3 I3=>⟨σ,_,I3,q2⟩
end
section
variable {X:Cx}{pins:List (Addr×Obj)}{σ:St}{H:Hp}{s:Shared}{A:Around}{E:Value->Shared->Prop}{Q:Value->Shared->Prop}{c:Value}{b:Bool}
inductive jt (K:PySem.W.Frag) (H:Hp):V->Value->Prop where
 | non:jt K H .non (.type "NoneType")
 | bl (x:Bool):jt K H (.bl x) (.type "bool")
 | int (i:Int):jt K H (.int i) (.type "int")
 | str (x:Str):jt K H (.str x) (.type "str")
 | flt (x:UInt64):jt K H (.flt x) (.type "float")
 | lst {a:Addr} {xs:List V} (e:H a=some (.lst xs)):jt K H (.ref a) (.type "list")
 | frz {a:Addr} {o:Obj} {xs:List V} (e:H a=some (.frz o (.lst xs))):jt K H (.ref a) (.type "list")
 | tup {a:Addr} {xs:List V} (e:H a=some (.tup xs)):jt K H (.ref a) (.type "tuple")
 | dK {a:Addr} {kvs:List (bK×V)} (e:H a=some (.dK kvs)):jt K H (.ref a) (.type "dict")
 | dT {a:Addr} {kvs:List (List bK×V)} (e:H a=some (.dT kvs)):jt K H (.ref a) (.type "dict")
 | ins {a C dx:Addr} {fs:List (Str×V)} (e:H a=some (.ins C dx fs)) (cl:vL K C) (ha:PySem.W.findIn K (.ref C) "__class__" = some (some (.builtin "object.__class__")))
   (hn:PySem.W.specialIn K (.builtin "object.__class__") "__get__" = some (some (.builtin "getset_descriptor.__get__"))) (htk:PySem.W.takesIn K (.builtin "object.__class__")=some true)
   (hm:PySem.W.mroIn K C (.type "object")=some true):jt K H (.ref a) (.ref C)
theorem v2 {x:V}{u t:Value}(I:ar X pins σ H s)(rx:aI x u)(ty:jt X.K H x t)(e:PySem.W.kitOne X.K t c=some b)(h:∀ tk,Q (.bool b) { s with toks:=tk }) :
  wpAny (model X.prog X.w) A (call (.builtin "isinstance") [u,c]) Q E s:=by
 cases ty with
 | non=>cases (show u=Value.none from rx);exact E4 PySem.W.kitx_none I.kIn True.intro e (fun z=>nomatch z) h
 | bl y=>cases (show u=Value.bool y from rx);exact E4 PySem.W.kitx_bool I.kIn True.intro e (fun z=>nomatch z) h
 | int i=>obtain⟨t,q⟩:=(show ∃ t,u=Value.int i t from rx);cases q;exact E4 PySem.W.kitx_int I.kIn True.intro e (fun z=>nomatch z) h
 | str y=>obtain⟨t,q⟩:=(show ∃ t,u=Value.str y t from rx);cases q;exact E4 PySem.W.kitx_str I.kIn True.intro e (fun z=>nomatch z) h
 | flt y=>obtain⟨t,q⟩:=(show ∃ t,u=Value.float y t from rx);cases q;exact E4 PySem.W.kitx_float I.kIn True.intro e (fun z=>nomatch z) h
 | @lst a xs ea =>
  cases (show u=Value.ref a from rx);obtain⟨_,_,n,_,h1⟩:=(show aT X.prog X.w H s.heap a (.lst xs) from I.hok a _ ea);exact E4 PySem.W.kitx_list I.kIn ⟨_,h1,rfl⟩ e (fun z=>nomatch z) h
 | @frz a ob xs ea =>
  cases (show u=Value.ref a from rx);obtain⟨_,_,_,n,_,h1⟩:=(show aT X.prog X.w H s.heap a (.frz ob (.lst xs)) from I.hok a _ ea);exact E4 PySem.W.kitx_list I.kIn ⟨_,h1,rfl⟩ e (fun z=>nomatch z) h
 | @tup a xs ea =>
  cases (show u=Value.ref a from rx);obtain⟨_,_,_,p⟩:=(show aT X.prog X.w H s.heap a (.tup xs) from I.hok a _ ea);obtain⟨o,h1,h2,_⟩:=p;exact E4 PySem.W.kitx_tuple I.kIn ⟨o,h1,h2⟩ e (fun z=>nomatch z) h
 | @dK a kvs ea =>
  cases (show u=Value.ref a from rx);obtain⟨_,_,vs,_,p⟩:=(show aT X.prog X.w H s.heap a (.dK kvs) from I.hok a _ ea);obtain⟨o,es,ep,h1,h2,_⟩:=p;exact E4 PySem.W.kitx_dict I.kIn ⟨o,h1,h2.1⟩ e (fun z=>nomatch z) h
 | @dT a kvs ea =>
  cases (show u=Value.ref a from rx);obtain⟨_,_,xs,_,o,es,ep,h1,h2,_⟩:=(show aT X.prog X.w H s.heap a (.dT kvs) from I.hok a _ ea);exact E4 PySem.W.kitx_dict I.kIn ⟨o,h1,h2.1⟩ e (fun z=>nomatch z) h
 | @ins a C dx fs ea cl ha hn htk hm =>
  cases (show u=Value.ref a from rx);obtain⟨mA,O,_⟩:=lJ I.hok ea;obtain⟨od,J,_⟩:=O.look;exact E4 (PySem.W.kitx_own (cl.get _) cl.hd ha hn htk hm) I.kIn J e (fun z=>nomatch z) h
end
structure bN (k:Nat)(A:Around):Prop where
 hd:A.handled=none
 dp:A.depth+3*k+5<recursionLimit
 un:A.units+16*k+200<cLine
theorem bN.mono {j k:Nat}{A:Around}(r:bN k A)(h:j<=k):bN j A:=⟨r.hd,by have:=r.dp;omega,by have:=r.un;omega⟩
theorem bN.deeper {k:Nat}{A:Around}(r:bN (k+1) A)(env:Env):bN k (A.deeper env) :=
 ⟨r.hd,by have:=r.dp;show A.depth+1+3*k+5<_;omega,by have:=r.un;show A.units+3+16*k+200<_;omega⟩
theorem ud {A:Around}{C:Addr}{us:List Value}{kw:List (Str×Value)}:(A.under (.builtin "type.__call__" ⟨.ref C::us,kw⟩)).depth=A.depth+1:=by
 first | rfl | simp[Around.under,Code.weight,Code.isCreation,Code.isGuard,Code.isCaller,Code.frames,Code.isFrame,guardIds]
theorem ue {A:Around}{C:Addr}{us:List Value}{kw:List (Str×Value)}:(A.under (.builtin "type.__call__" ⟨.ref C::us,kw⟩)).units=A.units+1:=by
 first | rfl | simp[Around.under,Code.cUnits,Code.frames,Code.isFrame]
theorem bN.make {k:Nat}{A:Around}(r:bN (k+1) A)(C:Addr)(us:List Value)(kw:List (Str×Value)):bN k (A.under (.builtin "type.__call__" ⟨.ref C::us,kw⟩)) :=
 ⟨r.hd,by have:=r.dp;rw[ud];omega,by have:=r.un;rw[ue];omega⟩
theorem bN.depth {k:Nat}{A:Around}(r:bN k A):A.depth<recursionLimit:=by have:=r.dp;omega
theorem bN.units {k:Nat}{A:Around}(r:bN k A):A.units+64<cLine:=by have:=r.un;omega
def lF:TA:=fun _ H Q=>Q [] H
def i6 (ta:TE)(tr:TA):TA:=fun σ H Q=>ta σ H fun x H1=>tr σ H1 fun xs H2=>Q (x::xs) H2
section
variable {X:Cx}{e:Expr}{es:List Expr}{te:TE}{t:TA}{pos:Pos}
theorem aF:PA X [] lF:=fun _ _ _ _ H Q I h=>Ff ⟨[],H,I,.nil,h⟩
theorem ak (ha:PE X e te)(hr:PA X es t)(hs:starEach (e::es) X.env=(false,eval e X.env)::starEach es X.env:=by rfl):PA X (e::es) (i6 te t):=by
 intro pos pins s σ H Q I h;rw[hs]
 show wpAny _ _ (spliced ((false,eval e X.env)::backTo pos (starEach es X.env))) _ _ s
 refine EM (aU (ha pins s σ H _ I h) fun u s1 ⟨x,H1,I1,r1,q1⟩=>?_);exact aU (hr pos pins s1 σ H1 _ I1 q1) fun us s2 ⟨xs,H2,I2,r2,q2⟩=>⟨x::xs,H2,I2,.cons r1 r2,q2⟩
def Du (t:TA):TE:=fun σ H Q=>t σ H fun xs H1=>xs.length<=sizeLine/\∀ p,H1 p=none->Q (.ref p) (upd H1 p (.tup xs))
def Dr (t:TA):TE:=fun σ H Q=>t σ H fun xs H1=>xs.length<=sizeLine/\∀ p,H1 p=none->Q (.ref p) (upd H1 p (.lst xs))
theorem aP {x1}(h:PA X es t):PE X (.Tuple es x1 pos) (Du t):=by
 intro pins s σ H Q I hq;refine wpAny_Tuple_spliced (aU (h pos pins s σ H _ I hq) fun us s1 ⟨xs,H1,I1,r,z,q⟩=>⟨by rw[<-r.length];exact z,?_⟩);have hf:H1 s1.heap.objs.size=none:=I1.hok.fresh (D9 _);refine⟨.ref s1.heap.objs.size,upd H1 s1.heap.objs.size (.tup xs),I1.laid (t':=s1.toks) (fun b u e=>Heap.get?_push_of_some _ e) (D9 _) ?_,rfl,q _ hf⟩;exact⟨z,us,r,⟨_,Heap.get?_push_size _ rfl,rfl,_,rfl⟩⟩
theorem fA (h:PA X es t):PE X (.List es pos) (Dr t):=by
 intro pins s σ H Q I hq;refine wpAny_List_spliced (aU (h pos pins s σ H _ I hq) fun us s1 ⟨xs,H1,I1,r,z,q⟩=>⟨by rw[<-r.length];exact z,?_⟩);have hf:H1 s1.heap.objs.size=none:=I1.hok.fresh (D9 _);refine⟨.ref s1.heap.objs.size,upd H1 s1.heap.objs.size (.lst xs),I1.laid (t':=s1.toks) (fun b u e=>Heap.get?_push_of_some _ e) (D9 _) ?_,rfl,q _ hf⟩;exact⟨z,us,0,r,Heap.get?_push_size _ rfl⟩
end
abbrev Sp:=List V->Hp->VK->XK->Prop
abbrev sY:=List Env->Hp->Shared->XK->Value->Shared->Prop
structure tf (P:Program)(w:World)(K:PySem.W.Frag)(mg:Str->Option Value)(base:Heap)(A:Around)(outer:List Env)(s:Shared)(H:Hp):Prop where
 frames:A.frames=some outer
 mod:Mod K mg base
 bs:∀ b o,base.get? b=some o->s.heap.get? b=some o/\H b=none
 bsz:base.objs.size<=s.heap.objs.size
 funs:s.heap.FunFrames base outer
 frf:∀ b∈hG outer,H b=none
 hok:gO P w H s.heap
 bare:AllBare s.gens
def CE (outer:List Env)(P:Program)(w:World)(H:Hp)(s:Shared)(Q:VK)(u:Value)(s':Shared):Prop :=
 ∃ v H',s'.os=s.os/\AllBare s'.gens/\Un (hG outer) [] H H' s.heap s'.heap/\gO P w H' s'.heap/\aI v u/\Q v H'
def CR (CX:sY)(outer:List Env)(P:Program)(w:World)(H:Hp)(s:Shared)(Q:VK)(E:XK)(r:Result)(s':Shared):Prop :=
 match r with
 | .ok (.ret u)=>CE outer P w H s Q u s'
 | .ok _=>False
 | .error e=>CX outer H s E e s'
structure aV (P:Program)(w:World)(K:PySem.W.Frag)(mg:Str->Option Value)(base:Heap)(CX:sY)(k:Nat)(f:Addr)(fd:FuncData)(ps:List Str)(sp:Sp):Prop where
 len:∀ vs H Q E,sp vs H Q E->vs.length=ps.length
 run:∀ (A:Around)(outer:List Env)(s:Shared)(H:Hp)(args:Args)(us:List Value)(vs:List V)(Q:VK)(E:XK),bN k A->tf P w K mg base A outer s H->BindsTo s fd args (ps.zip us)->aL vs us->sp vs H Q E ->
  codeAny (model P w) A (.call (.ref f) args) (CR CX outer P w H s Q E) s
theorem tf.make {P:Program}{w:World}{K:PySem.W.Frag}{mg:Str->Option Value}{base:Heap}{A:Around}{outer:List Env}{s:Shared}{H:Hp}(e:tf P w K mg base A outer s H)(C:Addr)(us:List Value)(kw:List (Str×Value)) :
  tf P w K mg base (A.under (.builtin "type.__call__" ⟨.ref C::us,kw⟩)) outer s H:=⟨by first | exact e.frames | (simpa [Around.under,Code.envs,Code.isFrame,pushEnvs] using e.frames),e.mod,e.bs,e.bsz,e.funs,e.frf,e.hok,e.bare⟩
section
variable {X:Cx}{pins:List (Addr×Obj)}{σ:St}{H:Hp}{s s':Shared}
theorem ar.env0 (I:ar X pins σ H s):tf X.prog X.w X.K X.mg X.base X.A X.stack s H :=
 ⟨I.ok.frames,I.ok.mod,I.bs,EC I.ok.bsz I.sz,I.stack,I.stkFree,I.hok,I.bare⟩
theorem ar.after {Q:VK}{u:Value}(I:ar X pins σ H s)(h:CE X.stack X.prog X.w H s Q u s'):EP X pins σ Q u s':=by
 obtain⟨v,H',os,bare,un,hok,r,q⟩:=h;obtain⟨hh,g,d,t,os'⟩:=s';obtain rfl:os'=s.os:=os;exact⟨v,H',I.call (h':=hh) (g':=g) (d':=d) (t':=t) (ch:=[]) un hok bare (fun b z=>absurd z (by simp)),r,q⟩
end
def yr (sp:Sp)(dvs:List V)(E:XK)(t:TA):TE:=fun σ H Q=>t σ H fun vs H1=>sp (vs++dvs) H1 Q E
inductive DF (C:Addr) (m:Str) (sp:Sp) (dvs:List V) (E:XK) (t:TA) (σ:St) (Q:VK) (x:V) (H:Hp):Prop
 | mk (a dx:Addr) (fs:List (Str×V)) (e:x=.ref a) (o:H a=some (.ins C dx fs)) (l:fs.lookup m=none) (h:t σ H fun vs H2=>sp (x::(vs++dvs)) H2 Q E):DF C m sp dvs E t σ Q x H
def vE (C:Addr)(m:Str)(sp:Sp)(dvs:List V)(E:XK)(ta:TE)(t:TA):TE:=fun σ H Q=>ta σ H fun x H1=>DF C m sp dvs E t σ Q x H1
def Ak (C:Addr)(sp:Sp)(dvs:List V)(E:XK)(t:TA):TE:=fun σ H Q=>t σ H fun vs H1=>∀ x dx,H1 x=none->H1 dx=none->dx≠x ->
 sp (.ref x::(vs++dvs)) (upd (upd H1 dx (.own x)) x (.ins C dx [])) (fun v H2=>v=.non/\Q (.ref x) H2) E
def dy (K:PySem.W.Frag)(fd:FuncData)(ps:List Str)(ds:List Value):Prop :=
 ∀ (s:Shared)(us:List Value),K.In s.heap->(us++ds).length=ps.length->BindsTo s fd ⟨us,[]⟩ (ps.zip (us++ds))
theorem dy.all {K:PySem.W.Frag}{fd:FuncData}{ps:List Str}(h:∀ us:List Value,us.length=ps.length->bindArgs fd ⟨us,[]⟩=pure (ps.zip us)):dy K fd ps []:=fun s us _ hl=>by
 rw[Fy]at hl ⊢;exact .of_eq (h us hl)
def dL (CX:sY)(X:Cx)(E:XK):Prop:=∀ (pins:List (Addr×Obj))(σ:St)(H:Hp)(s:Shared)(e:Value)(s':Shared),ar X pins σ H s->CX X.stack H s E e s'->X.xe e s'
section
variable {X:Cx}{CX:sY}{k:Nat}{f C:Addr}{fd:FuncData}{ps:List Str}{sp:Sp}{dvs:List V}{ds:List Value}{E:XK}{x m:Str}{p pos apos:Pos}{e o:Expr}{es:List Expr}{ta:TE}{t:TA}
theorem uA {pins:List (Addr×Obj)}{σ:St}{H:Hp}{s:Shared}{Q:VK}{us:List Value}{vs:List V}(F:aV X.prog X.w X.K X.mg X.base CX k f fd ps sp)(hr:bN k X.A)(hb:dy X.K fd ps ds)(hd:aL dvs ds)(hx:dL CX X E)
  (I:ar X pins σ H s) (r:aL vs us) (h:sp (vs++dvs) H Q E):wpAny (model X.prog X.w) X.A (call (.ref f) us) (EP X pins σ Q) X.xe s:=by
 have r2:aL (vs++dvs) (us++ds):=r.append hd
 have hl:(us++ds).length=ps.length:=by rw[<-r2.length];exact F.len _ _ _ _ h
 refine FR (Fo (F.run X.A X.stack s H ⟨us,[]⟩ (us++ds) (vs++dvs) Q E hr I.env0 (hb s us I.kIn hl) r2 h) fun r s' hq=>?_)
 cases r with
 | error e=>exact hx pins σ H s e s' I hq
 | ok fl =>
  cases fl with
  | ret u=>exact I.after hq
  | next=>exact False.elim hq
  | brk=>exact False.elim hq
  | cont=>exact False.elim hq
theorem vj (F:aV X.prog X.w X.K X.mg X.base CX k f fd ps sp)(hr:bN k X.A)(hg:Gl X x)(hm:X.mg x=some (.ref f))(hk:PySem.W.keepIn X.K (.ref f)=true)(hb:dy X.K fd ps ds)(hd:aL dvs ds)(hx:dL CX X E)
  (ha:PA X (e::es) t) (hdb:(x == ("__debug__" : Str))=false:=by decide) (he:starEach (e::es) X.env=(false,eval e X.env)::starEach es X.env:=by rfl) (hpl:(backTo pos (starEach es X.env)).any (·.1)=false:=by rfl) :
  PE X (.Call (.Name x p) (e::es) [] pos) (yr sp dvs E t):=by
 intro pins s σ H Q I h;refine Fl (dq I hg hm ?_ hdb);refine PySem.W.callWith_K (h₀:=X.base) I.ok.mod.kin hk (aU (ha pos pins s σ H _ I h) fun us s1 ⟨vs,H1,I1,r,q⟩=>⟨I1.kIn,?_⟩) he hpl;exact uA F hr hb hd hx I1 r q
theorem zI {pl:Sem Bool}(he:PE X o ta)(c:vL X.K C)(hm:yR X.K C m f)(F:aV X.prog X.w X.K X.mg X.base CX k f fd ps sp)(hr:bN k X.A)(hb:dy X.K fd ps ds)(hd:aL dvs ds)(hx:dL CX X E)(ha:PA X (e::es) t)
  (hst:starEach (e::es) X.env=(false,eval e X.env)::starEach es X.env:=by rfl) (hpl:(backTo pos (starEach es X.env)).any (·.1)=false:=by rfl)
  (ht:eval (.Call (.Attribute o m apos) (e::es) [] pos) X.env=(do
   let ov <-eval o X.env
   standAt apos.atName
   let (f,first) <-holding [ov] (getMethod ov m pl)
   callWith pos f first (backTo pos (starEach (e::es) X.env)) (backToKw pos (keywordEach [] X.env))):=by rfl) :
  PE X (.Call (.Attribute o m apos) (e::es) [] pos) (vE C m sp dvs E ta t):=by
 intro pins s σ H Q I h;refine PySem.W.methodCall_KW (pl:=pl) (aU (he pins s σ H _ I h) fun u s1 ⟨x,H1,I1,rx,a,dx,fs,ex,ea,l,q⟩=>?_) ht;subst ex;obtain rfl:u=Value.ref a:=rx;refine mH I1 ea c hm l ?_;refine PySem.W.callWith_K (first:=[.ref a]) (h₀:=X.base) I.ok.mod.kin hm.kp (aU (ha pos pins s1 σ H1 _ I1 q) fun us s2 ⟨vs,H2,I2,r,q2⟩=>⟨I2.kIn,?_⟩) hst hpl;exact uA (us:=.ref a::us) (vs:=.ref a::vs) F hr hb hd hx I2 (.cons rfl r) q2
theorem x5 {pl:Sem Bool}(he:PE X o ta)(c:vL X.K C)(hm:yR X.K C m f)(F:aV X.prog X.w X.K X.mg X.base CX k f fd ps sp)(hr:bN k X.A)(hb:dy X.K fd ps ds)(hd:aL dvs ds)(hx:dL CX X E)
  (ht:eval (.Call (.Attribute o m apos) [] [] pos) X.env=(do
   let ov <-eval o X.env
   standAt apos.atName
   let (f,first) <-holding [ov] (getMethod ov m pl)
   callWith pos f first (backTo pos (starEach [] X.env)) (backToKw pos (keywordEach [] X.env))):=by rfl) :
  PE X (.Call (.Attribute o m apos) [] [] pos) (vE C m sp dvs E ta lF):=by
 intro pins s σ H Q I h;refine PySem.W.methodCall_KW (pl:=pl) (aU (he pins s σ H _ I h) fun u s1 ⟨x,H1,I1,rx,a,dx,fs,ex,ea,l,q⟩=>?_) ht;subst ex;obtain rfl:u=Value.ref a:=rx;refine mH I1 ea c hm l ?_;exact PySem.W.callWith_K0 (first:=[.ref a]) I1.kIn hm.kp (uA (us:=[.ref a]) (vs:=[.ref a]) F hr hb hd hx I1 (.cons rfl .nil) q)
structure Mk (K:PySem.W.Frag)(C f:Addr):Prop where
 makes:PySem.W.makesIn K C=true
 init:PySem.W.findIn K (.ref C) "__init__" = some (some (.ref f))
 fn:PySem.W.isFn K (.ref f)=true
 kp:PySem.W.keepIn K (.ref C)=true
theorem ym {pins:List (Addr×Obj)}{σ:St}{H:Hp}{s:Shared}{Q:VK}{us:List Value}{vs:List V}(M:Mk X.K C f)(F:aV X.prog X.w X.K X.mg X.base CX k f fd ps sp)(hr:bN (k+1) X.A)(hb:dy X.K fd ps ds)(hd:aL dvs ds)
  (hx:dL CX X E) (I:ar X pins σ H s) (r:aL vs us)
  (h:∀ x dx,H x=none->H dx=none->dx≠x->sp (.ref x::(vs++dvs)) (upd (upd H dx (.own x)) x (.ins C dx [])) (fun v H2=>v=.non/\Q (.ref x) H2) E) :
  wpAny (model X.prog X.w) X.A (call (.ref C) us) (EP X pins σ Q) X.xe s:=by
 have hq:=h (s.heap.objs.size+1) s.heap.objs.size (I.hok.fresh (Fw _)) (I.hok.fresh (D9 _)) (Em (Nat.lt_succ_self _));have I2:=ar.made (C:=C) I;have r2:aL (V.ref (s.heap.objs.size+1)::(vs++dvs)) (Value.ref (s.heap.objs.size+1)::(us++ds)):=.cons rfl (r.append hd)
 have hl:(Value.ref (s.heap.objs.size+1)::us++ds).length=ps.length:=by
  have e:=r2.length;rw[F.len _ _ _ _ hq]at e;exact e.symm
 refine FR (xL (f:=f) I.kIn M.makes M.init (FH.mp M.fn) (Fo (F.run _ X.stack _ _ ⟨Value.ref (s.heap.objs.size+1)::us,[]⟩ (Value.ref (s.heap.objs.size+1)::(us++ds)) _ _ E (hr.make C us [])
  (I2.env0.make C us []) (hb _ (Value.ref (s.heap.objs.size+1)::us) I2.kIn hl) r2 hq) fun r s' hq'=>?_))
 cases r with
 | error e=>exact hx pins σ _ _ e s' I2 hq'
 | ok fl =>
  cases fl with
  | ret u =>
   obtain⟨v,H',I3,rv,ev,q3⟩:=I2.after hq';subst ev;exact⟨rv,⟨V.ref (s.heap.objs.size+1),H',I3,rfl,q3⟩⟩
  | next=>exact False.elim hq'
  | brk=>exact False.elim hq'
  | cont=>exact False.elim hq'
theorem x4 (M:Mk X.K C f)(F:aV X.prog X.w X.K X.mg X.base CX k f fd ps sp)(hr:bN (k+1) X.A)(hg:Gl X x)(hm:X.mg x=some (.ref C))(hb:dy X.K fd ps ds)(hd:aL dvs ds)(hx:dL CX X E)
  (hdb:(x == ("__debug__" : Str))=false:=by decide):PE X (.Call (.Name x p) [] [] pos) (Ak C sp dvs E lF):=by
 intro pins s σ H Q I h;refine Fl (dq I hg hm ?_ hdb);exact PySem.W.callWith_K0 I.kIn M.kp (ym (us:=[]) M F hr hb hd hx I .nil h)
end
def PK (X:Cx)(kws:List Keyword)(t:TA):Prop :=
 ∀ (pos:Pos)(pins:List (Addr×Obj))(s:Shared)(σ:St)(H:Hp)(Q:List V->Hp->Prop),ar X pins σ H s->t σ H Q->wpAny (model X.prog X.w) X.A (evalAll ((backToKw pos (keywordEach kws X.env)).map (·.2))) (AP X pins σ Q) X.xe s
section
variable {X:Cx}{CX:sY}{k:Nat}{f C:Addr}{fd:FuncData}{ps ks:List Str}{sp:Sp}{E:XK}{x m:Str}{p pos apos kpos:Pos}{e o:Expr}{es:List Expr}{kws:List Keyword}{te ta:TE}{t tk:TA}{nm:Option Str}
theorem Bc:PK X [] lF:=fun _ _ _ _ H Q I h=>wpAny_evalAll_nil ⟨[],H,I,.nil,h⟩
theorem zL (ha:PE X e te)(hr:PK X kws t):PK X (⟨nm,e,kpos⟩::kws) (i6 te t):=by
 intro pos pins s σ H Q I h
 show wpAny _ _ (evalAll ((do let v <-eval e X.env;standAt pos;pure v)::(backToKw pos (keywordEach kws X.env)).map (·.2))) _ _ s
 refine wpAny_evalAll_cons (D5 (aU (ha pins s σ H _ I h) fun u s1 ⟨x,H1,I1,r1,q1⟩=>D5 (EU (Ea ?_))));exact aU (hr pos pins s1 σ H1 _ I1 q1) fun us s2 ⟨xs,H2,I2,r2,q2⟩=>⟨x::xs,H2,I2,.cons r1 r2,q2⟩
variable {g:List Value->List Value->List Value}{gV:List V->List V->List V}
end
structure ay (N P:List Str)(sc:Scope):Prop where
 kind:sc.kind=.function
 co:sc.isCoroutine=false
 gen:sc.isGenerator=false
 nd:N.Nodup
 pre:N.take P.length=P
 par:∀ x∈P,sc.names.lookup x=some .local\/sc.names.lookup x=some .cell
 nofree:∀ y∈sc.names,y.2≠.free
theorem pj {kindOf:Str->Option NameKind}{x:Str}:∀ {binds:List (Str×Value)}{m:Str->Option Value},(∀ v,(x,v)∉binds)->bindL kindOf binds m x=m x
 | [],_,_=>rfl
 | (n,v)::r,m,h=>by
  unfold bindL;rw[pj fun w hw=>h w (Eb _ hw)];split
  ·have:x≠n:=by rintro rfl;exact h v Ec
   simp[this]
  ·rfl
theorem pf {kindOf:Str->Option NameKind}{x:Str}:∀ {binds:List (Str×Value)}{m:Str->Option Value},(∀ v,(x,v)∉binds)->bindC kindOf binds m x=m x
 | [],_,_=>rfl
 | (n,v)::r,m,h=>by
  unfold bindC;rw[pf fun w hw=>h w (Eb _ hw)];split
  ·rfl
  ·have:x≠n:=by rintro rfl;exact h v Ec
   simp[this]
theorem ph {kindOf:Str->Option NameKind}{x:Str}{v:Value}:∀ {P:List Str}{vs:List Value}{i:Nat}{m:Str->Option Value},P.Nodup->P[i]? = some x->vs[i]? = some v->kindOf x=some .local ->
  bindL kindOf (P.zip vs) m x=some v
 | [],_,_,_,_,h,_,_=>by simp at h
 | _::_,[],_,_,_,_,h,_=>by simp at h
 | p::P,w::vs,0,m,nd,h1,h2,hk=>by
  simp at h1 h2;subst h1;subst h2
  show bindL kindOf ((p,w)::P.zip vs) m p=_
  unfold bindL;rw[pj fun v hv=>(EI.mp nd).1 (List.of_mem_zip hv).1,D8 hk];simp
 | p::P,w::vs,i+1,m,nd,h1,h2,hk=>by
  show bindL kindOf ((p,w)::P.zip vs) m x=_
  unfold bindL;exact ph (i:=i) (EI.mp nd).2 (by simpa using h1) (by simpa using h2) hk
theorem pe {kindOf:Str->Option NameKind}{x:Str}{v:Value}:∀ {P:List Str}{vs:List Value}{i:Nat}{m:Str->Option Value},P.Nodup->P[i]? = some x->vs[i]? = some v->kindOf x≠some .local ->
  bindC kindOf (P.zip vs) m x=some v
 | [],_,_,_,_,h,_,_=>by simp at h
 | _::_,[],_,_,_,_,h,_=>by simp at h
 | p::P,w::vs,0,m,nd,h1,h2,hk=>by
  simp at h1 h2;subst h1;subst h2
  show bindC kindOf ((p,w)::P.zip vs) m p=_
  unfold bindC;rw[pf fun v hv=>(EI.mp nd).1 (List.of_mem_zip hv).1,D7 hk];simp
 | p::P,w::vs,i+1,m,nd,h1,h2,hk=>by
  show bindC kindOf ((p,w)::P.zip vs) m x=_
  unfold bindC;exact pe (i:=i) (EI.mp nd).2 (by simpa using h1) (by simpa using h2) hk
def jX (N:List Str)(vs:List V):St:=vs.map some++List.replicate (N.length-vs.length) none
def mr (CX:sY)(P:Program)(w:World)(K:PySem.W.Frag)(mg:Str->Option Value)(base:Heap)(N:List Str)(qual:Str)(scope:Scope)(f:Addr)(cd:Value)(A:Around)(outer:List Env)(s:Shared)(H:Hp)(E:XK):Cx where
 prog:=P
 w:=w
 K:=K
 mg:=mg
 base:=base
 A:=A.deeper (envOfC qual scope s.heap.objs.size f cd)
 N:=N
 s₀:=s
 H₀:=H
 env:=envOfC qual scope s.heap.objs.size f cd
 outer:=outer
 stack:=envOfC qual scope s.heap.objs.size f cd::outer
 ex:=[]
 calm:=true
 fn:=fun _=>true
 pn:=[]
 xe:=fun e s'=>wpAny (model P w) (A.deeper (envOfC qual scope s.heap.objs.size f cd)) (leaving (envOfC qual scope s.heap.objs.size f cd) e) (fun _ s''=>CX outer H s E e s'') (fun e' s''=>CX outer H s E e' s'') s'
theorem rC {sc:Scope}{n:Nat}{x:Str}(h:sc.names.lookup x=some .cell):∃ c,(cellsFrom n sc.names []).lookup x=some c:=by
 have q:=PySem.W.cellsFrom_some sc.names n [] (.inl h);exact EW.mp q
theorem vZ {CX:sY}{P:Program}{w:World}{K:PySem.W.Frag}{mg:Str->Option Value}{base:Heap}{N ps:List Str}{qual:Str}{scope:Scope}{f:Addr}{cd:Value}{A:Around}{outer:List Env}{s s1:Shared}{H:Hp}{E:XK}{us:List Value}{vs:List V}
  (S:ay N ps scope) (hd:A.handled=none) (e0:tf P w K mg base A outer s H) (hl:vs.length=ps.length) (r:aL vs us)
  (x:InCallC s s.heap.objs.size (bindL (envOfC qual scope s.heap.objs.size f cd).kindOf (ps.zip us) fun _=>none) (cellsFrom (s.heap.objs.size+1) scope.names []) (bindC (envOfC qual scope s.heap.objs.size f cd).kindOf (ps.zip us) fun _=>none) s1) :
  ar (mr CX P w K mg base N qual scope f cd A outer s H E) [] (jX N vs) H s1:=by
 have hpl:ps.length<=N.length:=by have:=E9 List.length S.pre;rw[EE]at this;omega
 obtain⟨h1,tk,rfl,hk⟩:=x.done;have noA:∀ b:Addr,b∉(mr CX P w K mg base N qual scope f cd A outer s H E).ex:=fun b z=>absurd (show b∈([]:List Addr) from z) (by simp)
 refine⟨⟨e0.mod,S.kind,rfl,rfl,D9 _,fun y z c h1 h2=>?_,fun y hy=>?_,fun y c _ h=>?_,fun _=>hd,Around.frames_deeper e0.frames,.inr ⟨rfl,rfl⟩,fun b z=>absurd z (noA b),e0.bs,e0.bsz,fun b _ _=>noA b,fun b z=>absurd z (noA b),e0.funs,e0.frf⟩,
  rfl,e0.bare,Un.kept hk,⟨_,x.toInCall.ns,fun i y v h1 h2 h3=>?_⟩,fun y c h=>⟨_,x.cell y c h⟩,e0.hok.fresh (D9 _),fun y c h=>?_,fun p hp=>absurd (show p∈([]:List (Addr×Obj)) from hp) (by simp),e0.hok.kept hk,?_⟩
 ·exact name_of_addr x.apart (Fv h1) (Fv h2)
 ·have hy:scope.names.lookup y=some .cell\/scope.names.lookup y=some .free:=hy
  rcases hy with hy | hy
  ·exact rC hy
  ·exact absurd rfl (S.nofree _ (Fv hy))
 ·exact Nat.le_of_lt (x.above y c (Fv h))
 ·have hi:i<vs.length:=by
   unfold jX at h2
   by_cases hi:i<vs.length
   ·exact hi
   ·rw[List.getElem?_append_right (by simpa using hi)]at h2
    rw[List.getElem?_replicate]at h2;split at h2<;>cases h2
  have ha:vs[i]? = some v:=by
   unfold jX at h2;rw[List.getElem?_append_left (by simpa using hi),List.getElem?_map]at h2
   cases e:vs[i]? with
   | none=>rw[e]at h2;cases h2
   | some a=>rw[e]at h2;cases h2;rfl
  obtain⟨u,hu,rv⟩:=r.get ha
  have hp:ps[i]? = some y:=by
   rw[<-S.pre,List.getElem?_take_of_lt (by omega)];exact h1
  have ndP:ps.Nodup:=by rw[<-S.pre];exact S.nd.sublist (List.take_sublist _ _)
  refine⟨u,rv,?_⟩;rcases S.par y (EB hp) with k | k
  ·exact .inl ⟨k,ph ndP hp hu k⟩
  ·obtain⟨c,e⟩:=rC (n:=s.heap.objs.size+1) k
   refine .inr ⟨.inl k,c,e,?_⟩;have q:=x.cell y c e;rw[pe ndP hp hu (by show scope.names.lookup y≠_;rw[k];decide)]at q;exact q
 ·exact e0.hok.fresh (Nat.le_of_lt (x.above y c (Fv h)))
 ·unfold jX
  show _=N.length
  rw[El,D6,List.length_replicate];omega
theorem Ab {CX:sY}{P:Program}{w:World}{K:PySem.W.Frag}{mg:Str->Option Value}{base:Heap}{k:Nat}{f:Addr}{name qual:Str}{params:Arguments}{body:List Stmt}{scope:Scope}{dV kV doc pm cdv ct oc:Value}{an od:Option Addr}
  {osl:Array (Option Value)} {N ps:List Str} {sp:Sp} (lk:K.lookup f=some ⟨oc,od,.func (PySem.W.fnOf name qual params body scope dV kV doc pm an cdv ct),osl⟩) (hcd:PySem.W.codeIn K cdv qual=true) (S:ay N ps scope)
  (len:∀ vs H Q E,sp vs H Q E->vs.length=ps.length)
  (hbody:∀ (A:Around)(outer:List Env)(s:Shared)(H:Hp)(vs:List V)(Q:VK)(E:XK),bN k (A.deeper (envOfC qual scope s.heap.objs.size f cdv))->sp vs H Q E ->
   ∃ t,rq (mr CX P w K mg base N qual scope f cdv A outer s H E) body t/\t { nx:=fun _ H'=>Q .non H',rt:=Q } (jX N vs) H) :
  aV P w K mg base CX (k+1) f (PySem.W.fnOf name qual params body scope dV kV doc pm an cdv ct) ps sp:=by
 refine⟨len,fun A outer s H args us vs Q E hr e0 hb r hsp=>?_⟩;have hl:=len _ _ _ _ hsp;have KX:K.In s.heap:=e0.mod.kin.keeps fun b o e=>(e0.bs b o e).1;have lim:s.heap.NoLimit:=e0.mod.nolimit.keeps fun b o e=>(e0.bs b o e).1
 have hkind:∀ y∈ps.zip us,scope.names.lookup y.1=some .local\/(scope.names.lookup y.1=some .cell/\((cellsFrom (s.heap.objs.size+1) scope.names []).lookup y.1).isSome=true):=fun ⟨n,v⟩ hy=>by
  rcases S.par n (List.of_mem_zip hy).1 with q | q
  ·exact .inl q
  ·exact .inr ⟨q,PySem.W.cellsFrom_some _ _ _ (.inl q)⟩
 refine codeAny_call_function hr.depth (KX _ _ lk) rfl S.co S.gen rfl (PySem.W.codeRec_of KX hcd) (hb _ _ _ _ ?_);refine wpAny_newFunctionEnv_cells S.kind hkind fun env he s1 x=>?_;subst he;refine⟨lim.keeps x.toInCall.keep,codeAny_func ?_⟩;obtain⟨t,ht,hq⟩:=hbody A outer s H vs Q E (hr.deeper _) hsp;have I:ar (mr CX P w K mg base N qual scope f cdv A outer s H E) [] (jX N vs) H s1:=vZ S hr.hd e0 hl r x;refine Ew (ht [] s1 (jX N vs) H _ I hq) (fun fl s' hs=>?_) fun e s' hs=>hs
 have fin:∀ {σ':St}{H':Hp}{v:V}{u:Value},ar (mr CX P w K mg base N qual scope f cdv A outer s H E) [] σ' H' s'->aI v u->Q v H'->CE outer P w H s Q u s' :=
  fun {σ' H' v u} J rv q=>⟨v,H',J.os,J.bare,J.base,J.hok,rv,q⟩
 cases fl with
 | ret u =>
  obtain⟨v,σ',H',J,rv,q⟩:=hs;exact fin J rv q
 | next =>
  obtain⟨σ',H',J,q⟩:=hs;exact fin (v:=V.non) (u:=Value.none) J rfl q
 | brk =>
  obtain⟨_,_,_,q⟩:=hs;exact False.elim q
 | cont =>
  obtain⟨_,_,_,q⟩:=hs;exact False.elim q
section
variable {X:Cx}{x:Str}{p pos:Pos}{e:Expr}{es:List Expr}{t:TA}{id T:String}{r:List V->Hp->VK->Prop}
def DJ (r:List V->Hp->VK->Prop)(t:TA):TE:=fun σ H Q=>t σ H fun vs H1=>r vs H1 Q
theorem bg (hc:gF X (.builtin id) r)(hg:Gl X x)(hm:X.mg x=none)(hv:bootBuiltins x=some (.builtin id))(ha:PA X (e::es) t)(hn:x≠"__name__":=by decide)(hdb:(x == ("__debug__" : Str))=false:=by decide)
  (he:starEach (e::es) X.env=(false,eval e X.env)::starEach es X.env:=by rfl) (hpl:(backTo pos (starEach es X.env)).any (·.1)=false:=by rfl):PE X (.Call (.Name x p) (e::es) [] pos) (DJ r t):=by
 intro pins s σ H Q I h;refine Fl (mK I hg hm hv ?_ hn hdb);exact PyProof.Rows.callWith_builtin1 (aU (ha pos pins s σ H _ I h) fun us s1 ⟨vs,H1,I1,r1,q1⟩=>hc pins s1 σ H1 vs us Q I1 r1 q1) he hpl
theorem iB (hc:gF X (.type T) r)(hg:Gl X x)(hm:X.mg x=none)(hv:bootBuiltins x=some (.type T))(ha:PA X (e::es) t)(hn:x≠"__name__":=by decide)(hdb:(x == ("__debug__" : Str))=false:=by decide)
  (he:starEach (e::es) X.env=(false,eval e X.env)::starEach es X.env:=by rfl) (hpl:(backTo pos (starEach es X.env)).any (·.1)=false:=by rfl):PE X (.Call (.Name x p) (e::es) [] pos) (DJ r t):=by
 intro pins s σ H Q I h;refine Fl (mK I hg hm hv ?_ hn hdb);exact PyProof.Rows.callWith_type1 (aU (ha pos pins s σ H _ I h) fun us s1 ⟨vs,H1,I1,r1,q1⟩=>hc pins s1 σ H1 vs us Q I1 r1 q1) he hpl
end
end L2
namespace HT
open PySem PyProof.Rows
section
variable {prog:Program}{w:World}{A:Around}{E:Value->Shared->Prop}{s:Shared}
theorem cat_tup {t b:Addr}{vs ws:List Value}{Q:Value->Shared->Prop}(ht:IsTup s.heap t vs.toArray)(hb:IsTup s.heap b ws.toArray)(hv:vs≠[])
  (h1:ws=[]->Q (.ref t) s) (h2:ws≠[]->Q (.ref s.heap.objs.size) { s with heap:=s.heap.push { cls:=.type "tuple",data:=.seq (vs++ws).toArray } })
  (hsz:vs.length+ws.length<=sizeLine):wpAny (model prog w) A (binaryOp .Add (.ref t) (.ref b)) Q E s:=by
 obtain⟨⟨cls,dd,data,sl⟩,ho,hc,n,hd⟩:=id ht;obtain⟨⟨cls2,dd2,data2,sl2⟩,ho2,hc2,n2,hd2⟩:=id hb;simp only at hc hd hc2 hd2;subst hc hd hc2 hd2
 have e:vs.toArray++ws.toArray=(vs++ws).toArray:=by simp
 by_cases hw:ws=[]
 ·exact concat_meets ⟨_,ho,rfl⟩ ⟨_,ho2,rfl⟩ noFill_tuple_add seq_tuple_add PySem.F.slot_tuple_add PySem.F.entry_tuple_add (PySem.F.args_tuple_add_2 _ _)
   (tuple_addW1 t b vs.toArray ws.toArray n n2 dd dd2 sl sl2 (by simpa using hv) (by simp[hw])) ⟨ho,ho2,h1 hw⟩
 ·refine concat_meets ⟨_,ho,rfl⟩ ⟨_,ho2,rfl⟩ noFill_tuple_add seq_tuple_add PySem.F.slot_tuple_add PySem.F.entry_tuple_add (PySem.F.args_tuple_add_2 _ _)
   (tuple_addW2 t b vs.toArray ws.toArray n n2 dd dd2 sl sl2 (by simpa using hv) (by simpa using hw) (by rw[Ek,Ek];exact hsz)) ⟨ho,ho2,?_⟩
  rw[e];exact h2 hw
def sIx (n d:Nat):Option Int->Nat
 | none=>d
 | some v=>if v<0 then (v+(n:Int)).toNat else min v.toNat n
theorem sIx_none (n d:Nat):sIx n d none=d:=rfl
theorem sIx_nat (n d k:Nat):sIx n d (some (k:Int))=min k n:=by
 show (if (k:Int)<0 then ((k:Int)+(n:Int)).toNat else min (k:Int).toNat n)=min k n
 rw[D7 (by omega),FN]
theorem Bh (n d:Nat)(hd:d<=n)(o:Option Int):sIx n d o<=n:=by
 cases o with
 | none=>exact hd
 | some v =>
  show (if v<0 then (v+(n:Int)).toNat else min v.toNat n)<=n
  by_cases hv:v<0
  ·rw[D8 hv];omega
  ·rw[D7 hv];exact Nat.min_le_right _ _
theorem uS (v:Int)(n d:Nat):(if v<0 then max (v+(n:Int)) 0 else min v (n:Int))=((sIx n d (some v):Nat):Int):=by
 show (if v<0 then max (v+(n:Int)) 0 else min v (n:Int))=(((if v<0 then (v+(n:Int)).toNat else min v.toNat n):Nat):Int)
 by_cases hv:v<0
 ·simp only[D8 hv];omega
 ·simp only[D7 hv];omega
theorem tD (lo hi:Option Int)(n:Nat):Builtin.Slice.sliceAdjust lo hi 1 (n:Int)=(((sIx n 0 lo:Nat):Int),((sIx n n hi:Nat):Int)):=by
 have h1:¬ ((1:Int)<0):=by omega
 unfold Builtin.Slice.sliceAdjust;simp only[h1,if_false];refine Prod.ext ?_ ?_
 ·cases lo with
  | none=>rfl
  | some v=>exact uS v n 0
 ·cases hi with
  | none=>rfl
  | some v=>exact uS v n n
theorem uw (i j:Nat):Builtin.Slice.slicePlaces (i:Int) (j:Int) 1=j-i:=by
 unfold Builtin.Slice.slicePlaces
 have h1:(1:Int)>0:=by omega
 simp only[h1,if_true,Int.ediv_one];split<;>omega
theorem oj {v:Value}{o:Option Int}{Q:Option Int->Shared->Prop}(p:IsPart v o)(h:Q o s):wpAny (model prog w) A (Builtin.Slice.slicePartIndex v) Q E s:=by
 cases p with
 | none=>exact slicePart_none h
 | int i t=>exact slicePart_int h
theorem kG {sl:Addr}{vl vu:Value}{lo hi:Option Int}{n:Nat}{Q:Int×Int×Nat->Shared->Prop}(hs:s.heap.IsSliceOf sl vl vu .none)(pl:IsPart vl lo)(pu:IsPart vu hi)
  (h:Q (((sIx n 0 lo:Nat):Int),1,sIx n n hi-sIx n 0 lo) s):wpAny (model prog w) A (Builtin.Slice.sliceApplied (.ref sl) (pure (n:Int))) Q E s:=by
 obtain⟨os,hos,hcs,hds⟩:=id hs;unfold Builtin.Slice.sliceApplied Builtin.Slice.sliceFields;refine D5 (D5 (FL hos hds (x:=vl) rfl (D5 (FL hos hds (x:=vu) rfl (D5 (FL hos hds (x:=.none) rfl (Ea ?_)))))));refine D5 (slicePart_none ?_)
 show wpAny _ _ (if ((1:Int) == 0)=true then _ else _) _ _ s
 rw[D7 (by decide)];refine D5 (oj pl (D5 (oj pu (D5 (Ea ?_)))))
 show wpAny _ _ (match Builtin.Slice.sliceAdjust lo hi 1 (n:Int) with | (lo,hi)=>pure (lo,(1:Int),Builtin.Slice.slicePlaces lo hi 1)) _ _ s
 rw[tD lo hi n]
 show wpAny _ _ (pure (((sIx n 0 lo:Nat):Int),(1:Int),Builtin.Slice.slicePlaces ((sIx n 0 lo:Nat):Int) ((sIx n n hi:Nat):Int) 1)) _ _ s
 rw[uw];exact Ea h
theorem yb (xs:Array Value)(i k:Nat):((List.range k).filterMap fun (m:Nat)=>xs[((i:Int)+(m:Int)*1).toNat]?).toArray=((xs.toList.drop i).take k).toArray:=by
 have e:(fun (m:Nat)=>xs[((i:Int)+(m:Int)*1).toNat]?)=fun m=>xs[i+m]?:=by
  funext m
  have:((i:Int)+(m:Int)*1).toNat=i+m:=by omega
  rw[this]
 rw[e];have:=pick_run xs i k;rw[List.filterMap_map]at this;have e2:((fun x=>xs[x]?) ∘ fun x=>i+x)=fun m=>xs[i+m]?:=rfl;rw[e2]at this;rw[this]
theorem getItem_tuple_cut {t sl:Addr}{items:Array Value}{vl vu:Value}{lo hi:Option Int}{Q:Value->Shared->Prop}(ht:IsTup s.heap t items)(hs:s.heap.IsSliceOf sl vl vu .none)(pl:IsPart vl lo)(pu:IsPart vu hi)
  (hw:¬ (sIx items.size 0 lo=0/\sIx items.size items.size hi=items.size))
  (h:Q (.ref s.heap.objs.size) { s with heap:=s.heap.push { cls:=.type "tuple",data:=.seq ((items.toList.drop (sIx items.size 0 lo)).take (sIx items.size items.size hi-sIx items.size 0 lo)).toArray } })
  (hsz:items.size<=sizeLine):wpAny (model prog w) A (getItem (.ref t) (.ref sl)) Q E s:=by
 have htake:sizeOk (.seq ((items.toList.drop (sIx items.size 0 lo)).take (sIx items.size items.size hi-sIx items.size 0 lo)).toArray):=by
  show ((items.toList.drop (sIx items.size 0 lo)).take (sIx items.size items.size hi-sIx items.size 0 lo)).toArray.size<=sizeLine
  rw[Ek,EE,Fk,ED];omega
 have hj:sIx items.size items.size hi<=items.size:=Bh _ _ (D9 _) hi;obtain⟨os,hos,hcs,hds⟩:=id hs;have hTs:s.TypeIs (.ref sl) "slice":=⟨os,hos,hcs⟩;unfold getItem
 try with_reducible refine EK ?_
 first | refine D5 (Ea ?_) | skip
 refine D5 (wpAny_sequenceKey ht.typeIs (by decide) ?_)
 refine D5 (wpAny_callSpecial?_slot (name:=Str.ofString "__getitem__") ht.typeIs PyProof.Rows.slot_tuple_getitem
  (FE PyProof.Rows.slot_tuple_getitem ht.typeIs entry_tuple_getitem ?_ (args_tuple_getitem _ _)))
 show wpAny _ _ (Builtin.Tuple.tupleItemsOf (.ref t) >>= _) _ _ s
 refine D5 (tupleItemsOf_ ht ?_);refine D5 (wpAny_typeOf hTs ?_);rw[D8 (by decide)];refine D5 (kG hs pl pu ?_)
 have hno:¬ ((((sIx items.size 0 lo:Nat):Int) == 0&&(1:Int) == 1&&(sIx items.size items.size hi-sIx items.size 0 lo) == items.size)=true):=by
  intro q;rw[EN,EN]at q;have q1:((sIx items.size 0 lo:Nat):Int)=0:=eq_of_beq q.1.1;have q2:sIx items.size items.size hi-sIx items.size 0 lo=items.size:=eq_of_beq q.2;exact hw ⟨by omega,by omega⟩
 show wpAny _ _ (if (((sIx items.size 0 lo:Nat):Int) == 0&&(1:Int) == 1&&(sIx items.size items.size hi-sIx items.size 0 lo) == items.size)=true then _ else _) _ _ s
 rw[D7 hno,yb]
 first
  | exact D5 (m:=Builtin.Tuple.tupleExact _) (EL (Ea ⟨_,rfl,Ea h⟩) htake)
  | exact D5 (m:=Builtin.Tuple.tupleExact _) (EL (D5 (Ea (Ea ⟨_,rfl,Ea h⟩))) htake)
  | exact D5 (D5 (m:=Builtin.Tuple.tupleExact _) (EL (Ea (Ea ⟨_,rfl,Ea h⟩)) htake))
  | exact D5 (D5 (m:=Builtin.Tuple.tupleExact _) (EL (Ea ⟨_,rfl,Ea h⟩) htake))
end
end HT
namespace L2
open PySem PySem.Spec PyProof.Rows
abbrev TO:=St->Hp->(Option Int->Hp->Prop)->Prop
def PO (X:Cx)(e:Option Expr)(t:TO):Prop :=
 ∀ (pins:List (Addr×Obj))(s:Shared)(σ:St)(H:Hp)(Q:Option Int->Hp->Prop),ar X pins σ H s->t σ H Q ->
  wpAny (model X.prog X.w) X.A (evalPart e X.env) (fun u s'=>∃ o H',ar X pins σ H' s'/\IsPart u o/\Q o H') X.xe s
def vF:TO:=fun _ H Q=>Q none H
def Cw (t:TE):TO:=fun σ H Q=>t σ H fun x H1=>∃ i,x=.int i/\Q (some i) H1
section
variable {X:Cx}{e:Expr}{te:TE}{lo hi:Option Expr}{tl th:TO}{pos p2:Pos}
theorem cX:PO X none vF:=by
 intro pins s σ H Q I h;rw[evalPart_none];exact Ea ⟨none,H,I,.none,h⟩
theorem cu (h:PE X e te):PO X (some e) (Cw te):=by
 intro pins s σ H Q I hw;rw[evalPart_some];refine aU (h pins s σ H _ I hw) fun u s1 ⟨x,H1,I1,r1,q1⟩=>?_;obtain⟨i,rfl,q⟩:=q1;obtain⟨t,rfl⟩:=r1;exact⟨some i,H1,I1,.int i t,q⟩
def CV (X:Cx)(r:V->Option Int->Option Int->Hp->VK->Prop):Prop :=
 ∀ (pins:List (Addr×Obj))(s:Shared)(σ:St)(H:Hp)(x:V)(v vl vu:Value)(lo hi:Option Int)(sl:Addr)(Q:VK),ar X pins σ H s->aI x v->s.heap.IsSliceOf sl vl vu .none->IsPart vl lo->IsPart vu hi->r x lo hi H Q ->
  ∃ T id,typeLookup (.type T) "__getitem__" = pure (some (.builtin id))/\s.TypeIs v T/\wpAny (model X.prog X.w) X.A (getItem v (.ref sl)) (EP X pins σ Q) X.xe s
def DZ (r:V->Option Int->Option Int->Hp->VK->Prop)(te:TE)(tl th:TO):TE:=fun σ H Q=>te σ H fun x H1=>tl σ H1 fun l H2=>th σ H2 fun u H3=>r x l u H3 Q
theorem bW {r:V->Option Int->Option Int->Hp->VK->Prop}(hr:CV X r)(he:PE X e te)(hl:PO X lo tl)(hu:PO X hi th):PE X (.Subscript e (.Slice lo hi none p2) pos) (DZ r te tl th):=by
 intro pins s σ H Q I h;refine Subscript_ (aU (he pins s σ H _ I h) fun v s1 ⟨x,H1,I1,r1,q1⟩=>?_);refine wpAny_Slice (aU (hl pins s1 σ H1 _ I1 q1) fun vl s2 ⟨l,H2,I2,pl,q2⟩=>aU (hu pins s2 σ H2 _ I2 q2) fun vu s3 ⟨u,H3,I3,pu,q3⟩=>?_);rw[evalPart_none];refine Ea ?_;have I4:ar X pins σ H3 { s3 with heap:=s3.heap.push { cls:=.type "slice",data:=.fields #[vl,vu,.none] } }:=I3.kept (t':=s3.toks) fun b ob q=>Heap.get?_push_of_some _ q;obtain⟨T,id,hT,ht,hg⟩:=hr pins { s3 with heap:=s3.heap.push { cls:=.type "slice",data:=.fields #[vl,vu,.none] } } σ H3 x v vl vu l u s3.heap.objs.size Q I4 r1 (Heap.IsSliceOf.new ..) pl pu q3
 show wpAny (model X.prog X.w) X.A (subscriptTail e (.Slice lo hi none p2) v (.ref s3.heap.objs.size)) (EP X pins σ Q) X.xe { s3 with heap:=s3.heap.push { cls:=.type "slice",data:=.fields #[vl,vu,.none] } }
 exact tail_any (ops:=[.ref s3.heap.objs.size,v]) ht hT hg (by with_unfolding_all rfl)
def dM (xs:List V)(lo hi:Option Int):List V:=(xs.drop (HT.sIx xs.length 0 lo)).take (HT.sIx xs.length xs.length hi-HT.sIx xs.length 0 lo)
theorem kW (xs:List V)(lo hi:Option Int):(dM xs lo hi).length<=xs.length:=by
 unfold dM;rw[EE,Fk];omega
def Dh (K:PySem.W.Frag):V->Option Int->Option Int->Hp->VK->Prop:=fun x lo hi H Q=>∃ a xs,x=.ref a/\bZ K H a xs /\
 ¬ (HT.sIx xs.length 0 lo=0/\HT.sIx xs.length xs.length hi=xs.length)/\∀ p,H p=none->Q (.ref p) (upd H p (.tup (dM xs lo hi)))
theorem yp:CV X (Dh X.K):=by
 intro pins s σ H x v vl vu lo hi sl Q I rx hs pl pu h;obtain⟨a,xs,rfl,hx,hw,q⟩:=h;cases rx;obtain⟨its,r,ht,hz⟩:=I.tuple hx
 have hlen:its.toArray.size=xs.length:=by rw[Ek];exact r.length.symm
 refine⟨"tuple",_,PyProof.Rows.slot_tuple_getitem.lookup,ht.typeIs,?_⟩;refine HT.getItem_tuple_cut ht hs pl pu (by rw[hlen];exact hw) ?_ (by rw[hlen];exact hz);rw[hlen];refine⟨.ref s.heap.objs.size,_,I.laid (t':=s.toks) (o:=.tup (dM xs lo hi)) (fun b ob q=>Heap.get?_push_of_some _ q) (D9 _) ?_,rfl,q _ (I.hok.fresh (D9 _))⟩;exact⟨EC (kW xs lo hi) hz,_,(r.drop (HT.sIx xs.length 0 lo)).take (HT.sIx xs.length xs.length hi-HT.sIx xs.length 0 lo),IsTup.new _ _⟩
def Cj (K:PySem.W.Frag):R2:=fun x y H Q=>∃ a b xs ys,x=.ref a/\y=.ref b/\bZ K H a xs/\bZ K H b ys/\xs≠[]/\xs.length+ys.length<=sizeLine /\
 (ys=[]->Q (.ref a) H)/\(ys≠[]->∀ p,H p=none->Q (.ref p) (upd H p (.tup (xs++ys))))
theorem aL.nil_iff {xs:List V}{us:List Value}(r:aL xs us):us=[]↔xs=[]:=by
 cases r with
 | nil=>simp
 | cons _ _=>simp
theorem zF:js X (binaryOp .Add) (Cj X.K):=by
 intro pins s σ H x y v u Q I rx ry h;obtain⟨a,b,xs,ys,rfl,rfl,ha,hb,hx,hz,q1,q2⟩:=h;cases rx;cases ry;obtain⟨its,r1,p1,_⟩:=I.tuple ha;obtain⟨its2,r2,p2,_⟩:=I.tuple hb;refine HT.cat_tup p1 p2 (fun z=>hx (r1.nil_iff.mp z)) (fun z=>⟨.ref a,H,I,rfl,q1 (r2.nil_iff.mp z)⟩) (fun z=>?_) (by rw[<-r1.length,<-r2.length];exact hz);refine⟨.ref s.heap.objs.size,_,I.laid (t':=s.toks) (o:=.tup (xs++ys)) (fun b ob q=>Heap.get?_push_of_some _ q) (D9 _) ?_,rfl,q2 (fun w=>z (r2.nil_iff.mpr w)) _ (I.hok.fresh (D9 _))⟩;exact⟨by rw[El];exact hz,_,r1.append r2,IsTup.new _ _⟩
end
def yM (n:Nat)(i:Int):Option Nat:=if 0<=i then (if i<n then some i.toNat else none) else if -(n:Int)<=i then some (i+n).toNat else none
def yL {α:Type}(xs:List α)(i:Int):Option α:=(yM xs.length i).bind fun j=>xs[j]?
theorem u6 {n:Nat}{i:Int}{j:Nat}(h:yM n i=some j):seqIndex? i n=some j/\j<n/\-(n:Int)<=i/\i<n:=by
 unfold yM at h
 by_cases h0:0<=i
 ·rw[D8 h0]at h
  by_cases h1:i<n
  ·rw[D8 h1]at h
   have e:i.toNat=j:=Ef h;exact⟨by rw[seqIndex_of h0 h1,e],by omega,by omega,h1⟩
  ·rw[D7 h1]at h;cases h
 ·rw[D7 h0]at h
  by_cases h1 : -(n:Int)<=i
  ·rw[D8 h1]at h
   have e:(i+n).toNat=j:=Ef h;exact⟨by rw[seqIndex_neg (by omega) h1,e],by omega,h1,by omega⟩
  ·rw[D7 h1]at h;cases h
theorem p0 {α:Type}{xs:List α}{i:Int}{v:α}(h:yL xs i=some v):∃ j,seqIndex? i xs.length=some j/\xs[j]? = some v/\j<xs.length/\-(xs.length:Int)<=i/\i<xs.length:=by
 unfold yL at h
 cases e:yM xs.length i with
 | none=>rw[e]at h;cases h
 | some j =>
  rw[e]at h;obtain⟨h1,h2,h3,h4⟩:=u6 e;exact⟨j,h1,h,h2,h3,h4⟩
theorem bV {α:Type}{xs:List α}{j:Nat}{v:α}(h:xs[j]? = some v):yL xs (j:Int)=some v:=by
 have hj:j<xs.length:=(List.getElem?_eq_some_iff.mp h).1
 have e:yM xs.length (j:Int)=some j:=by
  unfold yM;rw[D8 (by omega),D8 (by omega)];simp
 unfold yL;rw[e];exact h
theorem xb {α:Type}(xs:List α)(v:α):yL (xs++[v]) (-1)=some v:=by
 have hl:(xs++[v]).length=xs.length+1:=by simp
 have e:yM (xs++[v]).length (-1)=some xs.length:=by
  unfold yM;rw[hl,D7 (by decide),D8 (by omega)]
  congr 1
  omega
 unfold yL;rw[e]
 show (xs++[v])[xs.length]? = some v
 simp
def yS (b:Expr):Prop:=∀ o i,subscripted b false o i=operate [o,i] (getItem o i)
def CI (X:Cx)(r:R2):Prop :=
 ∀ (value slice:Expr)(pins:List (Addr×Obj))(s:Shared)(σ:St)(H:Hp)(x y:V)(v u:Value)(Q:VK),ar X pins σ H s->aI x v->aI y u->r x y H Q ->
  subscripted slice false v u=operate [v,u] (getItem v u)->wpAny (model X.prog X.w) X.A (subscriptTail value slice v u) (EP X pins σ Q) X.xe s
def CU (X:Cx)(id:String)(r:V->List V->Hp->VK->Prop):Prop :=
 ∀ (pins:List (Addr×Obj))(s:Shared)(σ:St)(H:Hp)(x:V)(xs:List V)(v:Value)(us:List Value)(Q:VK),ar X pins σ H s->aI x v->aL xs us->r x xs H Q ->
  wpAny (model X.prog X.w) X.A (call (.builtin id) (v::us)) (EP X pins σ Q) X.xe s
section
variable {X:Cx}{a b:Expr}{ta tb:TE}{pos:Pos}
theorem aW {r:R2}(hr:CI X r)(ha:PE X a ta)(hb:PE X b tb)(hs:yS b):PE X (.Subscript a b pos) (Cv r ta tb):=by
 intro pins s σ H Q I h;exact Subscript_ (AG ha hb I h fun v u s2 x y H2 I2 rx ry q=>hr a b pins s2 σ H2 x y v u Q I2 rx ry q (hs _ _))
inductive DB (K:PySem.W.Frag) (x y:V) (H:Hp) (Q:VK):Prop
 | mk (p:Addr) (xs:List V) (i:Int) (v:V) (e1:x=.ref p) (e2:y=.int i) (q:be K H p xs) (a:yL xs i=some v) (h:Q v H):DB K x y H Q
def De (K:PySem.W.Frag):R2:=fun x y H Q=>DB K x y H Q
inductive DC (K:PySem.W.Frag) (x y:V) (H:Hp) (Q:VK):Prop
 | mk (p:Addr) (xs:List V) (i:Int) (v:V) (e1:x=.ref p) (e2:y=.int i) (q:bZ K H p xs) (a:yL xs i=some v) (h:Q v H):DC K x y H Q
def Dg (K:PySem.W.Frag):R2:=fun x y H Q=>DC K x y H Q
def Df:R2:=fun x y H Q=>∃ z i c,x=.str z/\y=.int i/\z.length<=sizeLine/\yL z.cps.toList i=some c/\Q (.str ⟨#[c]⟩) H
theorem iy:CI X (De X.K):=by
 intro value slice pins s σ H x y v u Q I rx ry h hs;obtain⟨p,xs,i,z,rfl,rfl,hq,he,q⟩:=h;cases rx;obtain⟨t,rfl⟩:=ry;obtain⟨its,r,pl,hz⟩:=I.list hq;obtain⟨j,h1,h2,h3,h4,h5⟩:=p0 he;obtain⟨w,ew,rw'⟩:=r.get h2;have hl:=r.length;have hn:=kh;have fin:EP X pins σ Q w s:=⟨z,H,I,rw',q⟩
 by_cases h0:0<=i
 ·have hj:i.toNat=j:=by
   rw[seqIndex_of h0 h5]at h1;exact Ef h1
  exact item_listR pl.isList h0 (by omega) (by rw[hj];simpa using ew) fin hs
 ·have hj:(i+(its.toArray.size:Int)).toNat=j:=by
   rw[seqIndex_neg (by omega) h4]at h1;rw[Ek,<-hl];exact Ef h1
  exact subscriptTail_builtinR (x:=w) pl.isList.typeIs slot_list_getitem.lookup
   (wpAny_getItem_list_neg (Q:=fun r s'=>r=w/\EP X pins σ Q r s') pl.isList (by omega) (by rw[Ek]<;>omega) (by omega) (by rw[hj];simpa using ew) ⟨rfl,fin⟩) hs
theorem aN:CI X (Dg X.K):=by
 intro value slice pins s σ H x y v u Q I rx ry h hs;obtain⟨p,xs,i,z,rfl,rfl,hq,he,q⟩:=h;cases rx;obtain⟨t,rfl⟩:=ry;obtain⟨its,r,pl,hz⟩:=I.tuple hq;obtain⟨j,h1,h2,h3,h4,h5⟩:=p0 he;obtain⟨w,ew,rw'⟩:=r.get h2;have hl:=r.length;have hn:=kh;have fin:EP X pins σ Q w s:=⟨z,H,I,rw',q⟩
 exact subscriptTail_builtinR (x:=w) pl.typeIs slot_tuple_getitem.lookup
  (getItem_tuple (j:=j) (Q:=fun r s'=>r=w/\EP X pins σ Q r s') pl (by omega) (by omega) (by rw[Ek,<-hl];exact h1) (by simpa using ew) ⟨rfl,fin⟩) hs
theorem AQ:CI X Df:=by
 intro value slice pins s σ H x y v u Q I rx ry h hs;obtain⟨z,i,c,rfl,rfl,hz,he,q⟩:=h;obtain⟨t,rfl⟩:=rx;obtain⟨t',rfl⟩:=ry;obtain⟨j,h1,h2,h3,h4,h5⟩:=p0 he
 have hl:z.cps.toList.length=z.length:=by simp[Str.length]
 rw[hl]at h1 h4 h5;have hn:=kh
 exact tail_any (typeIs_str s z t) slot_str_getitem.lookup (getItem_str (c:=c) (by
  have e1:decide (i < -(2 ^ 63:Int))=false:=Ei (by omega);have e2:decide (i>=2 ^ 63)=false:=Ei (by omega)
  rw[e1,e2,Bool.or_false]) (by rw[h1];simpa using h2) ⟨.str ⟨#[c]⟩,H,I.tok _,⟨_,rfl⟩,q⟩) hs
theorem uf (its:List Value)(n j:Nat)(u:Value):Obj.mapSeq (·.setIfInBounds j u) { cls:=.type "list",data:=.seq its.toArray n }={ cls:=.type "list",data:=.seq (its.set j u).toArray n }:=by
 simp[Obj.mapSeq]
theorem ar.lst {pins:List (Addr×Obj)}{σ:St}{H:Hp}{s:Shared}{p:Addr}{xs:List V}(I:ar X pins σ H s)(h:H p=some (.lst xs)) :
  ∃ (its:List Value)(n:Nat),aL xs its/\s.heap.get? p=some { cls:=.type "list",data:=.seq its.toArray n }/\xs.length<=sizeLine:=by
 obtain⟨z,its,n,r,e⟩:=I.hok p _ h;exact⟨its,n,r,e,z⟩
theorem ar.lstUpd {pins:List (Addr×Obj)}{σ:St}{H:Hp}{s:Shared}{p:Addr}{xs ys:List V}{its its':List Value}{n n':Nat}{f:Obj->Obj}(I:ar X pins σ H s)(h:H p=some (.lst xs))
  (ho:s.heap.get? p=some { cls:=.type "list",data:=.seq its.toArray n }) (hf:f { cls:=.type "list",data:=.seq its.toArray n }={ cls:=.type "list",data:=.seq its'.toArray n' }) (r:aL ys its') (hz:ys.length<=sizeLine) (t:Nat) :
  ar X pins σ (upd H p (.lst ys)) { s with heap:=s.heap.update p f,toks:=t }:=by
 have e:(s.heap.update p f).get? p=some { cls:=.type "list",data:=.seq its'.toArray n' }:=by
  rw[Heap.get?_update_self f ho (by rw[hf]<;>rfl),hf]
 refine I.write (x:=p) (e:=p) (by rw[h];trivial) (.inl rfl) (fun b u hb q=>(Heap.get?_update_other _ _ (Eo hb)).trans q) ⟨_,e⟩ ?_;exact⟨hz,its',n',r,e⟩
def Cm:V->V->V->Hp->(Hp->Prop)->Prop:=fun o i v H Q=>∃ p xs k j,o=.ref p/\i=.int k/\H p=some (.lst xs)/\yM xs.length k=some j/\Q (upd H p (.lst (xs.set j v)))
theorem yo:BM X Cm:=by
 intro pins s σ H o i v ov iv u Q I ro ri rv h;obtain⟨p,xs,k,j,rfl,rfl,hp,hj,q⟩:=h;cases ro;obtain⟨t,rfl⟩:=ri;obtain⟨its,n,r,ho,hz⟩:=I.lst hp;obtain⟨h1,h2,h3,h4⟩:=u6 hj;have hl:=r.length;have hn:=kh
 have I':ar X pins σ (upd H p (.lst (xs.set j v))) { s with heap:=s.heap.update p (Obj.mapSeq (·.setIfInBounds j u)) } :=
  I.lstUpd hp ho (uf its n j u) (r.set rv j) (by rw[List.length_set];exact hz) s.toks
 by_cases h0:0<=k
 ·have hk:k.toNat=j:=by
   rw[seqIndex_of h0 h4]at h1;exact Ef h1
  exact PySem.W.ki_setAt ho h0 (by omega) (by rw[Ek,<-hl];exact h4) (by rw[hk];exact⟨_,I',q⟩)
 ·have hk:(k+(its.toArray.size:Int)).toNat=j:=by
   rw[seqIndex_neg (by omega) h3]at h1;rw[Ek,<-hl];exact Ef h1
  exact PySem.W.ki_setBack ho (by omega) (by rw[Ek,<-hl];exact h3) (by omega) (by rw[hk];exact⟨_,I',q⟩)
theorem qV (lo hi:Option Int)(n:Nat):(sliceBounds lo hi none n).1=((HT.sIx n 0 lo:Nat):Int)/\(sliceBounds lo hi none n).2.1=((HT.sIx n n hi:Nat):Int)/\(sliceBounds lo hi none n).2.2=1:=by
 refine⟨?_,?_,rfl⟩
 ·cases lo with
  | none=>simp[sliceBounds,HT.sIx]
  | some i =>
   simp only[sliceBounds,HT.sIx,Option.getD_none,show (1:Int)>0 by decide,if_true]
   by_cases h:i<0
   ·simp only[h,if_true]<;>omega
   ·simp only[h,if_false]<;>omega
 ·cases hi with
  | none=>simp[sliceBounds,HT.sIx]
  | some i =>
   simp only[sliceBounds,HT.sIx,Option.getD_none,show (1:Int)>0 by decide,if_true]
   by_cases h:i<0
   ·simp only[h,if_true]<;>omega
   ·simp only[h,if_false]<;>omega
theorem o0 (its:List Value)(lo hi:Option Int):slicePick its.toArray lo hi none=((its.drop (HT.sIx its.length 0 lo)).take (HT.sIx its.length its.length hi-HT.sIx its.length 0 lo)).toArray:=by
 obtain⟨h1,h2,h3⟩:=qV lo hi its.toArray.size;unfold slicePick;rw[h1,h2,h3];simp only[sliceRange_one,pick_run,Ek]<;>rfl
inductive zQ (K:PySem.W.Frag) (x:V) (lo:Option Int) (hi:Option Int) (H:Hp) (Q:VK):Prop
 | mk (a:Addr) (xs:List V) (h_0:x=.ref a) (h_1:be K H a xs) (h_2:∀ p,H p=none->Q (.ref p) (upd H p (.lst (dM xs lo hi)))):zQ K x lo hi H Q
theorem dv:CV X (zQ X.K):=by
 intro pins s σ H x v vl vu lo hi sl Q I rx hs pl pu h;obtain⟨a,xs,rfl,hx,q⟩:=h;cases rx;obtain⟨its,r,ht,hz⟩:=I.list hx;have hlen:=r.length;refine⟨"list",_,slot_list_getitem.lookup,ht.isList.typeIs,?_⟩;refine wpAny_getItem_list_slice ht.isList hs pl pu .none (by simp) ?_ (by rw[Ek]<;>omega);rw[o0,<-hlen];refine⟨.ref s.heap.objs.size,_,I.laid (t':=s.toks) (o:=.lst (dM xs lo hi)) (fun b ob q=>Heap.get?_push_of_some _ q) (D9 _) ?_,rfl,q _ (I.hok.fresh (D9 _))⟩;exact⟨EC (kW xs lo hi) hz,_,0,(r.drop (HT.sIx xs.length 0 lo)).take (HT.sIx xs.length xs.length hi-HT.sIx xs.length 0 lo),Heap.get?_push_size _ rfl⟩
def iW:V->Bool
 | .non=>true
 | .bl _=>true
 | .int _=>true
 | .str _=>true
 | _=>false
def xt:V->V->Bool
 | .non,.non=>true
 | .bl a,.bl b=>a == b
 | .bl a,.int b=>(if a then 1 else 0) == b
 | .int a,.bl b=>a == (if b then 1 else 0)
 | .int a,.int b=>a == b
 | .str a,.str b=>a == b
 | _,_=>false
theorem xq {A:Around}{s:Shared}{y x:V}{u v:Value}(ry:aI y u)(rx:aI x v)(fy:iW y=true)(fx:iW x=true):SeqAt.EqAt A s u v (xt y x):=by
 cases y with
 | non =>
  cases ry
  cases x with
  | non=>cases rx;exact SeqAt.EqAt.same _
  | bl b=>cases rx;exact SeqAt.EqAt.none_bool b
  | int b=>obtain⟨t,rfl⟩:=rx;exact SeqAt.EqAt.none_int b t
  | str b=>obtain⟨t,rfl⟩:=rx;exact SeqAt.EqAt.none_str b t
  | _=>exact absurd (show false=true from fx) Ed
 | bl a =>
  cases ry
  cases x with
  | non=>cases rx;exact SeqAt.EqAt.bool_none a
  | bl b=>cases rx;exact SeqAt.EqAt.bool_bool a b
  | int b=>obtain⟨t,rfl⟩:=rx;exact SeqAt.EqAt.bool_int a b t
  | str b=>obtain⟨t,rfl⟩:=rx;exact SeqAt.EqAt.bool_str a b t
  | _=>exact absurd (show false=true from fx) Ed
 | int a =>
  obtain⟨t',rfl⟩:=ry
  cases x with
  | non=>cases rx;exact SeqAt.EqAt.int_none a t'
  | bl b=>cases rx;exact SeqAt.EqAt.int_bool a t' b
  | int b=>obtain⟨t,rfl⟩:=rx;exact SeqAt.EqAt.int_int a t' b t
  | str b=>obtain⟨t,rfl⟩:=rx;exact SeqAt.EqAt.int_str a t' b t
  | _=>exact absurd (show false=true from fx) Ed
 | str a =>
  obtain⟨t',rfl⟩:=ry
  cases x with
  | non=>cases rx;exact SeqAt.EqAt.str_none a t'
  | bl b=>cases rx;exact SeqAt.EqAt.str_bool a t' b
  | int b=>obtain⟨t,rfl⟩:=rx;exact SeqAt.EqAt.str_int a t' b t
  | str b=>obtain⟨t,rfl⟩:=rx;exact SeqAt.EqAt.str_str a t' b t
  | _=>exact absurd (show false=true from fx) Ed
 | _=>exact absurd (show false=true from fy) Ed
def y0 (x:V)(u:Value):Bool:=match u with
 | .none=>xt .non x
 | .bool b=>xt (.bl b) x
 | .int i _=>xt (.int i) x
 | .str z _=>xt (.str z) x
 | _=>false
theorem xr {x y:V}{u:Value}(r:aI y u)(f:iW y=true):y0 x u=xt y x:=by
 cases y with
 | non=>cases r;rfl
 | bl b=>cases r;rfl
 | int i=>obtain⟨t,rfl⟩:=r;rfl
 | str z=>obtain⟨t,rfl⟩:=r;rfl
 | _=>exact absurd (show false=true from f) Ed
theorem pZ {x:V}:∀ {xs:List V}{us:List Value},aL xs us->xs.all iW=true->us.any (y0 x)=xs.any fun y=>xt y x
 | _,_,.nil,_=>rfl
 | y::xs,u::us,.cons r t,f=>by
  rw[List.all_cons,EN]at f;rw[Fj,Fj,xr r f.1,pZ t f.2]
theorem mR {A:Around}{s:Shared}{x:V}{v:Value}(rx:aI x v)(fx:iW x=true):∀ {xs:List V}{us:List Value},aL xs us->xs.all iW=true->∀ u∈us,SeqAt.EqAt A s u v (y0 x u)
 | _,_,.nil,_=>fun u hu=>by cases hu
 | y::xs,u::us,.cons r t,f=>fun u' hu=>by
  rw[List.all_cons,EN]at f;rcases Eh.mp hu with rfl | hu
  ·rw[xr r f.1];exact xq r rx f.1 fx
  ·exact mR rx fx t f.2 u' hu
def B2 (x:V)(xs:List V):Bool:=xs.any fun y=>xt y x
inductive DH (K:PySem.W.Frag) (neg:Bool) (x:V) (y:V) (H:Hp) (Q:VK):Prop
 | mk (p:Addr) (xs:List V) (h_0:y=.ref p) (h_1:(be K H p xs\/bZ K H p xs)) (h_2:iW x=true) (h_3:xs.all iW=true) (h_4:Q (.bl (if neg then !B2 x xs else B2 x xs)) H):DH K neg x y H Q
theorem wy:js X (compareOp .In) (DH X.K false):=by
 intro pins s σ H x y v u Q I rx ry h;obtain⟨p,xs,rfl,hq,fx,fs,q⟩:=h;cases ry;rcases hq with hq | hq
 ·obtain⟨its,r,pl,hz⟩:=I.list hq
  refine SeqAt.in_listAt (y0 x) pl.isList (fun w hw=>mR rx fx r fs w (by simpa using hw)) ⟨.bl _,H,I,rfl,?_⟩;rw[show its.toArray.any (y0 x)=its.any (y0 x) by simp,pZ r fs];exact q
 ·obtain⟨its,r,pl,hz⟩:=I.tuple hq
  refine SeqAt.in_tupleAt (y0 x) pl (fun w hw=>mR rx fx r fs w (by simpa using hw)) ⟨.bl _,H,I,rfl,?_⟩;rw[show its.toArray.any (y0 x)=its.any (y0 x) by simp,pZ r fs];exact q
theorem bj:gF X (.builtin "len") (fun xs H Q=>∃ p ys,xs=[.ref p]/\(be X.K H p ys\/bZ X.K H p ys)/\Q (.int ys.length) H):=by
 intro pins s σ H xs us Q I r h;obtain⟨p,ys,rfl,hq,q⟩:=h;obtain⟨u,rfl,rx⟩:=eO r;cases rx;have hn:=kh;rcases hq with hq | hq
 ·obtain⟨its,r',pl,hz⟩:=I.list hq
  have hlen:=r'.length;exact Calls.call_len_list pl.isList (by simp only[Ek]<;>omega) ⟨.int ys.length,H,I.tok _,⟨s.toks+1,by rw[Ek,hlen]⟩,q⟩
 ·obtain⟨its,r',pl,hz⟩:=I.tuple hq
  have hlen:=r'.length;exact len_tuple pl (by simp only[Ek]<;>omega) ⟨.int ys.length,H,I.tok _,⟨s.toks+1,by rw[Ek,hlen]⟩,q⟩
theorem qb:gF X (.builtin "len") (fun xs H Q=>∃ z,xs=[.str z]/\z.length<=sizeLine/\Q (.int z.length) H):=by
 intro pins s σ H xs us Q I r h;obtain⟨z,rfl,hz,q⟩:=h;obtain⟨u,rfl,t,rfl⟩:=eO r;have hn:=kh;exact len_str (by omega) ⟨.int z.length,H,I.tok _,⟨_,rfl⟩,q⟩
theorem qc:gF X (.type "list") (fun xs H Q=>∃ p ys,xs=[.ref p]/\(be X.K H p ys\/bZ X.K H p ys)/\∀ l,H l=none->Q (.ref l) (upd H l (.lst ys))):=by
 intro pins s σ H xs us Q I r h;obtain⟨p,ys,rfl,hq,q⟩:=h;obtain⟨u,rfl,rx⟩:=eO r;cases rx
 have fin:∀ (its:List Value),aL ys its->ys.length<=sizeLine->∀ (h':Heap)(c':Nat),(∀ b o',s.heap.get? b=some o'->h'.get? b=some o') ->
   h'.get? s.heap.objs.size=some { cls:=.type "list",dict:=none,data:=.seq its.toArray c',slots:=#[] }->EP X pins σ Q (.ref s.heap.objs.size) { s with heap:=h' }:=fun its r' hz h' c' kp e =>
  ⟨.ref s.heap.objs.size,_,I.laid (t':=s.toks) kp (D9 _) (show aT X.prog X.w _ h' _ (.lst ys) from ⟨hz,its,c',r',e⟩),rfl,q _ (I.hok.fresh (D9 _))⟩
 rcases hq with hq | hq
 ·obtain⟨its,r',pl,hz⟩:=I.list hq
  have hlen:=r'.length;obtain⟨o,ho,hc,n,hd⟩:=pl.isList;exact call_list_seq p (.inl rfl) ho hc hd (fun h' c' kp e=>fin its r' hz h' c' kp e) (by simp only[Ek]<;>omega)
 ·obtain⟨its,r',pl,hz⟩:=I.tuple hq
  have hlen:=r'.length;obtain⟨o,ho,hc,n,hd⟩:=pl;exact call_list_seq p (.inr rfl) ho hc hd (fun h' c' kp e=>fin its r' hz h' c' kp e) (by simp only[Ek]<;>omega)
theorem oA:gF X (.type "tuple") (fun xs H Q=>∃ p ys,xs=[.ref p]/\((be X.K H p ys/\∀ l,H l=none->Q (.ref l) (upd H l (.tup ys)))\/(bZ X.K H p ys/\Q (.ref p) H))):=by
 intro pins s σ H xs us Q I r h;obtain⟨p,ys,rfl,h⟩:=h;obtain⟨u,rfl,rx⟩:=eO r;cases rx;rcases h with ⟨hq,q⟩ | ⟨hq,q⟩
 ·obtain⟨its,r',pl,hz⟩:=I.list hq
  have hlen:=r'.length;refine call_tuple_list pl.isList (fun h' kp=>?_) (by simp only[Ek]<;>omega);have I1:ar X pins σ H { s with heap:=h' }:=I.kept (t':=s.toks) kp
  have I2:ar X pins σ (upd H h'.objs.size (.tup ys)) { s with heap:=h'.push { cls:=.type "tuple",data:=.seq its.toArray } } :=
   I1.laid (t':=s.toks) (fun b o e=>Heap.get?_push_of_some _ e) (D9 _) (show aT X.prog X.w _ _ _ (.tup ys) from ⟨hz,its,r',IsTup.new _ _⟩)
  exact⟨.ref h'.objs.size,_,I2,rfl,q _ (I1.hok.fresh (D9 _))⟩
 ·obtain⟨its,r',pl,hz⟩:=I.tuple hq
  exact call_tuple_same pl ⟨.ref p,H,I,rfl,q⟩
def DK (K:PySem.W.Frag)(T:String)(x:V)(H:Hp):Prop:=match x with
 | .str _=>T="str"
 | .int _=>T="int"
 | .ref p=>(T="list"/\∃ xs,be K H p xs)\/(T="tuple"/\∃ o,K.lookup p=some o/\o.cls=.type "tuple"/\o.dict=none) \/
   (T="dict"/\((∃ kvs,H p=some (.dK kvs))\/∃ kvs,H p=some (.dT kvs)))\/(T="set"/\∃ S n,H p=some (.set S n))
 | _=>False
theorem Bu {pins:List (Addr×Obj)}{σ:St}{H:Hp}{s:Shared}{T:String}{x:V}{v:Value}(I:ar X pins σ H s)(r:aI x v)(ty:DK X.K T x H) :
  s.TypeIs v T/\∀ a,v=.ref a->∃ ob,s.heap.get? a=some ob/\ob.dict=none:=by
 cases x with
 | str z =>
  obtain⟨t,rfl⟩:=r;cases (show T="str" from ty);exact⟨typeIs_str s z t,fun _ e=>nomatch e⟩
 | int i =>
  obtain⟨t,rfl⟩:=r;cases (show T="int" from ty);exact⟨typeIs_int s i t,fun _ e=>nomatch e⟩
 | ref p =>
  cases r;rcases ty with ⟨rfl,xs,hq⟩ | ⟨rfl,o,hk,hc,hd⟩ | ⟨rfl,hk⟩ | ⟨rfl,S,n,hk⟩
  ·obtain⟨its,_,pl,_⟩:=I.list hq
   refine⟨pl.isList.typeIs,fun a e=>?_⟩;cases e;obtain⟨o,n,e,c,hd,_⟩:=pl;exact⟨o,e,hd⟩
  ·refine⟨⟨o,I.kIn p o hk,hc⟩,fun a e=>?_⟩
   cases e;exact⟨o,I.kIn _ o hk,hd⟩
  ·have z:∃ o,s.heap.get? p=some o/\o.ExactDict:=by
    rcases hk with ⟨kvs,hk⟩ | ⟨kvs,hk⟩
    ·obtain⟨_,_,_,_,o,_,_,e,ex,_⟩:=I.hok p _ hk
     exact⟨o,e,ex⟩
    ·obtain⟨_,_,_,_,o,_,_,e,ex,_⟩:=I.hok p _ hk
     exact⟨o,e,ex⟩
   obtain⟨o,e,ex⟩:=z;refine⟨⟨o,e,ex.1⟩,fun a e2=>?_⟩;cases e2;exact⟨o,e,ex.2.1⟩
  ·obtain⟨o,_,_,_,e,ex,_⟩:=I.hok p _ hk
   refine⟨⟨o,e,ex.1⟩,fun a e2=>?_⟩;cases e2;exact⟨o,e,ex.2.1⟩
 | _=>exact False.elim ty
def Dl (K:PySem.W.Frag)(T:String)(r:V->List V->Hp->VK->Prop)(to:TE)(t:TA):TE:=fun σ H Q=>to σ H fun x H1=>DK K T x H1/\t σ H1 fun xs H2=>r x xs H2 Q
variable {o e:Expr}{es:List Expr}{to:TE}{t:TA}{name:Str}{apos cpos:Pos}{T id:String}{r:V->List V->Hp->VK->Prop}
theorem jF (pa:PlainAttrs T)(slot:Slot T name id)(hty:typeOf (.builtin id)=pure (.type "method_descriptor"))(hm:CU X id r)(ho:PE X o to)(ha:PA X (e::es) t)
  (hbase:attributeBase o name X.env (eval o X.env)=eval o X.env:=by rfl)
  (hfew:((backTo cpos (starEach (e::es) X.env)).all (fun x=>!x.1)&&(backToKw cpos (keywordEach [] X.env)).all (fun x=>x.1.isSome)
   && decide ((e::es).length+([]:List Keyword).length+(if ([]:List Keyword).isEmpty then 0 else 1)<30))=true:=by rfl)
  (hline:(apos.endLine == cpos.line)=true:=by rfl) (hs:starEach (e::es) X.env=(false,eval e X.env)::starEach es X.env:=by rfl) (hplain:(backTo cpos (starEach es X.env)).any (·.1)=false:=by rfl) :
  PE X (.Call (.Attribute o name apos) (e::es) [] cpos) (Dl X.K T r to t):=by
 intro pins s σ H Q I h;refine wpAny_Call_method_late hbase hfew hline rfl (aU (ho pins s σ H _ I h) fun v s1 ⟨x,H1,I1,r1,ty,q1⟩=>?_);obtain⟨h1,h2⟩:=Bu I1 r1 ty;refine⟨T,id,pa,slot,hty,h1,h2,?_⟩;have hA:=ha cpos pins s1 σ H1 _ I1 q1;rw[hs]at hA ⊢;refine Fi (by show (false||(backTo cpos (starEach es X.env)).any (·.1))=false;rw[hplain]<;>rfl) (E6 ?_);exact aU hA fun us s2 ⟨vs,H2,I2,r2,q2⟩=>hm pins s2 σ H2 x vs v us Q I2 r1 r2 q2
end
def DM (X:Cx)(id:String)(r:V->List V->Hp->VK->Prop):Prop :=
 ∀ (pins:List (Addr×Obj))(s:Shared)(σ:St)(H:Hp)(x:V)(xs:List V)(v:Value)(us:List Value)(Q:VK),ar X pins σ H s->aI x v->aL xs us->r x xs H Q ->
  wpAny (model X.prog X.w) X.A (call (.builtin id) (v::us)) (EP X pins σ Q) X.xe s
theorem aL.one:∀ {x:V}{us:List Value},aL [x] us->∃ u,us=[u]/\aI x u
 | _,_,.cons r .nil=>⟨_,rfl,r⟩
theorem aL.two:∀ {x y:V}{us:List Value},aL [x,y] us->∃ u v,us=[u,v]/\aI x u/\aI y v
 | _,_,_,.cons r (.cons q .nil)=>⟨_,_,rfl,r,q⟩
section
variable {X:Cx}{pins:List (Addr×Obj)}{σ:St}{H:Hp}{s:Shared}{l b:Addr}{xs ys zs:List V}
theorem ar.lset {its its':List Value}{n:Nat}{f:Array Value->Array Value}{t':Nat}(I:ar X pins σ H s)(hH:H l=some (.lst xs))
  (e:s.heap.get? l=some { cls:=.type "list",data:=.seq its.toArray n }) (hf:f its.toArray=its'.toArray) (hv:aL ys its') (hz:ys.length<=sizeLine) :
  ar X pins σ (upd H l (.lst ys)) { s with heap:=s.heap.update l (Obj.mapSeq f),toks:=t' }:=by
 have q:=PySem.IsL.update e f;rw[hf]at q;refine I.write (x:=l) (e:=l) (by rw[hH];exact trivial) (.inl rfl) (fun b' u hb hu=>(Heap.get?_update_other s.heap (Obj.mapSeq f) (Eo hb)).trans hu) ⟨_,q⟩ ?_;exact⟨hz,its',_,hv,q⟩
theorem ar.lnew {its:List Value}{t':Nat}(I:ar X pins σ H s)(hv:aL ys its)(hz:ys.length<=sizeLine) :
  ar X pins σ (upd H s.heap.objs.size (.lst ys)) { s with heap:=s.heap.push { cls:=.type "list",data:=.seq its.toArray },toks:=t' } :=
 I.laid (fun _ _ q=>Heap.get?_push_of_some _ q) (D9 _) ⟨hz,its,0,hv,Heap.get?_push_size _ rfl⟩
theorem ar.fresh (I:ar X pins σ H s):H s.heap.objs.size=none:=I.hok.fresh (D9 _)
theorem ar.lstM (I:ar X pins σ H s)(hH:H l=some (.lst xs)):xs.length<=sizeLine/\∃ (its:List Value)(n:Nat),aL xs its/\xs.length=its.length/\s.heap.get? l=some { cls:=.type "list",data:=.seq its.toArray n }:=by
 obtain⟨z,its,n,r,e⟩:=I.hok l _ hH;exact⟨z,its,n,r,r.length,e⟩
end
section
variable {X:Cx}
inductive vq (x:V) (vs:List V) (H:Hp) (Q:VK):Prop
 | mk (l:Addr) (xs:List V) (y:V) (h_0:x=.ref l) (h_1:vs=[y]) (h_2:H l=some (.lst xs)) (h_3:xs.length<sizeLine) (h_4:Q .non (upd H l (.lst (xs++[y])))):vq x vs H Q
theorem db:DM X "list.append" vq:=by
 intro pins s σ H x vs v us Q I rx rv h;obtain⟨l,xs,y,rfl,rfl,hH,hz,q⟩:=h;cases rx;obtain⟨u,rfl,ru⟩:=rv.one;obtain⟨z,its,n,r,hl,e⟩:=I.lstM hH;refine call_meets F.slot_list_append ⟨_,e,rfl⟩ F.entry_list_append (F.args_list_append_2 _ _) (PySem.list_append l its.toArray n u (by rw[Ek];omega)) ⟨e,?_⟩;refine⟨.non,_,I.lset (its':=its++[u]) hH e (by simp) (r.append (.cons ru .nil)) ?_,rfl,q⟩;rw[El,EG];omega
inductive Be (x:V) (y:V) (H:Hp) (Q:VK):Prop
 | mk (l b:Addr) (xs zs:List V) (h_0:x=.ref l) (h_1:y=.ref b) (h_2:H l=some (.lst xs)) (h_3:H b=some (.lst zs)) (h_4:xs.length+zs.length<=sizeLine) (h_5:∀ p,H p=none->Q (.ref p) (upd H p (.lst (xs++zs)))):Be x y H Q
theorem hZ:js X (binaryOp .Add) Be:=by
 intro pins s σ H x y v u Q I rx ry h;obtain⟨l,b,xs,zs,rfl,rfl,hH,hB,hz,q⟩:=h;cases rx;cases ry;obtain⟨z,its,n,r,hl,e⟩:=I.lstM hH;obtain⟨z2,its2,n2,r2,hl2,e2⟩:=I.lstM hB;refine PySem.P.add_list e e2 ?_ (by rw[Ek,Ek];omega)
 have ea:its.toArray++its2.toArray=(its++its2).toArray:=by simp
 rw[ea];exact⟨.ref _,_,I.lnew (t':=s.toks) (r.append r2) (by rw[El];omega),rfl,q _ I.fresh⟩
end
section
variable {κ:Type} [DecidableEq κ]
def cK (kvs:List (κ×V))(k:κ):Option V:=(kvs.find? fun kv=>decide (kv.1=k)).map (·.2)
def eU (kvs:List (κ×V))(k:κ)(v:V):List (κ×V) :=
 if (kvs.any fun kv=>decide (kv.1=k))=true then kvs.map (fun kv=>if kv.1=k then (kv.1,v) else kv) else kvs++[(k,v)]
def my (kvs:List (κ×V))(k:κ):List (κ×V):=kvs.filter fun kv=>decide (kv.1≠k)
theorem ip {p:κ×V}{r:List (κ×V)}{k:κ}(e:p.1=k):cK (p::r) k=some p.2:=by simp[cK,List.find?_cons,e]
theorem io {p:κ×V}{r:List (κ×V)}{k:κ}(e:¬ p.1=k):cK (p::r) k=cK r k:=by simp[cK,List.find?_cons,e]
theorem im (k:κ):∀ kvs:List (κ×V),(kvs.any fun kv=>decide (kv.1=k))=(cK kvs k).isSome
 | []=>rfl
 | p::r=>by
  rw[Fj]
  by_cases e:p.1=k
  ·simp only[ip e,Ee e,Bool.true_or,Option.isSome_some]
  ·rw[io e,Ei e,Bool.false_or];exact im k r
theorem hU (kvs:List (κ×V))(k:κ)(v:V):(eU kvs k v).length<=kvs.length+1:=by
 unfold eU;split
 ·rw[D6];omega
 ·rw[El,Eu,List.length_nil];omega
theorem ye {kvs:List (κ×V)}{k:κ}(v:V)(h:cK kvs k=none):eU kvs k v=kvs++[(k,v)]:=by
 unfold eU;rw[im,h];exact D7 (by decide)
theorem fw.isSome_eq {o:Option V}{u:Option Value}(r:fw o u):o.isSome=u.isSome:=by
 cases o with
 | none=>cases u with
  | none=>rfl
  | some _=>exact (show False from r).elim
 | some _=>cases u with
  | none=>exact (show False from r).elim
  | some _=>rfl
theorem fw.getD {o:Option V}{u:Option Value}{d:V}{d':Value}(r:fw o u)(rd:aI d d'):aI (o.getD d) (u.getD d'):=by
 cases o with
 | none=>cases u with
  | none=>exact rd
  | some _=>exact (show False from r).elim
 | some _=>cases u with
  | none=>exact (show False from r).elim
  | some _=>exact r
theorem KV.val {kvs:List (κ×V)}{vs:List (κ×Value)}(r:KV kvs vs)(k:κ):fw (cK kvs k) (valueAt vs k):=by
 unfold KV at r
 induction r with
 | nil=>exact True.intro
 | @cons p q ps qs h t ih =>
  obtain⟨h1,h2⟩:=h
  by_cases e:p.1=k
  ·have e':q.1=k:=h1.symm.trans e
   have b:valueAt (q::qs) k=some q.2:=by simp[valueAt,List.find?_cons,e']
   rw[ip e,b];exact h2
  ·have e':¬ q.1=k:=fun z=>e (h1.trans z)
   have b:valueAt (q::qs) k=valueAt qs k:=by simp[valueAt,List.find?_cons,e']
   rw[io e,b];exact ih
theorem KV.any {kvs:List (κ×V)}{vs:List (κ×Value)}(r:KV kvs vs)(k:κ):(kvs.any fun kv=>decide (kv.1=k))=vs.any fun kv=>decide (kv.1=k):=by
 unfold KV at r
 induction r with
 | nil=>rfl
 | cons h t ih=>rw[Fj,Fj,ih,h.1]
theorem KV.repl {kvs:List (κ×V)}{vs:List (κ×Value)}(r:KV kvs vs)(k:κ){y:V}{u:Value}(ry:aI y u) :
  KV (kvs.map fun kv=>if kv.1=k then (kv.1,y) else kv) (vs.map fun kv=>if kv.1=k then (kv.1,u) else kv):=by
 unfold KV at r ⊢
 induction r with
 | nil=>exact .nil
 | @cons p q ps qs h t ih =>
  rw[Er,Er];refine .cons ?_ ih;obtain⟨h1,h2⟩:=h
  by_cases e:p.1=k
  ·rw[D8 e,D8 (h1.symm.trans e)];exact⟨h1,ry⟩
  ·rw[D7 e,D7 (fun z=>e (h1.trans z))];exact⟨h1,h2⟩
theorem KV.put {kvs:List (κ×V)}{vs:List (κ×Value)}(r:KV kvs vs)(k:κ){y:V}{u:Value}(ry:aI y u):KV (eU kvs k y) (stored vs k u):=by
 unfold eU stored;rw[r.any k]
 by_cases e:(vs.any fun kv=>decide (kv.1=k))=true
 ·rw[D8 e,D8 e];exact r.repl k ry
 ·rw[D7 e,D7 e];exact Paired.snoc r ⟨rfl,ry⟩
theorem KV.drop {kvs:List (κ×V)}{vs:List (κ×Value)}(r:KV kvs vs)(k:κ):KV (my kvs k) (without vs k):=by
 unfold KV at r ⊢;unfold my without
 induction r with
 | nil=>exact .nil
 | @cons p q ps qs h t ih =>
  obtain⟨h1,h2⟩:=h;rw[List.filter_cons,List.filter_cons]
  by_cases e:p.1=k
  ·have a:¬ decide (p.1≠k)=true:=by simp[e]
   have b:¬ decide (q.1≠k)=true:=by simp[h1.symm.trans e]
   rw[D7 a,D7 b];exact ih
  ·have e':¬ q.1=k:=fun z=>e (h1.trans z)
   have a:decide (p.1≠k)=true:=by simp[e]
   have b:decide (q.1≠k)=true:=by simp[e']
   rw[D8 a,D8 b];exact .cons ⟨h1,h2⟩ ih
theorem KV.keys {kvs:List (κ×V)}{vs:List (κ×Value)}(r:KV kvs vs):kvs.map (·.1)=vs.map (·.1):=by
 unfold KV at r
 induction r with
 | nil=>rfl
 | cons h t ih=>rw[Er,Er,ih,h.1]
theorem KV.length {kvs:List (κ×V)}{vs:List (κ×Value)}(r:KV kvs vs):kvs.length=vs.length:=Ej r
theorem xn (kvs:List (κ×V))(k:κ):(my kvs k).length<=kvs.length:=List.length_filter_le _ _
end
theorem kX {P:Program}{w:World}{k:bK}{u:Value}(r:aI (kV k) u):(aX P w).is k u=true:=by
 cases k with
 | inl i=>obtain⟨t,e⟩:=(show ∃ t,u=Value.int i t from r);subst e;exact rQ P w i t
 | inr x=>obtain⟨t,e⟩:=(show ∃ t,u=Value.str x t from r);subst e;exact eX P w x t
theorem pA {P:Program}{w:World}:∀ {ks:List bK}{us:List Value},aL (ks.map kV) us->ItemsAre (aX P w) ks us
 | [],_,r=>by rw[List.map_nil]at r;cases r;exact .nil
 | k::ks,_,r=>by
  rw[Er]at r
  cases r with
  | cons h t=>exact .cons (kX h) (pA t)
abbrev KT (H:Hp):List (List bK×V)->List (List bK×Addr×Value)->Prop:=Paired fun p q=>p.1=q.1/\H q.2.1=some (.tup (p.1.map kV))/\aI p.2 q.2.2
theorem KT.val {H:Hp}{kvs:List (List bK×V)}{xs:List (List bK×Addr×Value)}(r:KT H kvs xs)(k:List bK):fw (cK kvs k) ((atKey xs k).map (·.2)):=by
 induction r with
 | nil=>exact True.intro
 | @cons p q ps qs h t ih =>
  obtain⟨h1,_,h2⟩:=h
  by_cases e:p.1=k
  ·have e':q.1=k:=h1.symm.trans e
   have b:atKey (q::qs) k=some q.2:=by simp[atKey,List.find?_cons,e']
   rw[ip e,b];exact h2
  ·have e':¬ q.1=k:=fun z=>e (h1.trans z)
   have b:atKey (q::qs) k=atKey qs k:=by simp[atKey,List.find?_cons,e']
   rw[io e,b];exact ih
theorem KT.repl {H:Hp}{kvs:List (List bK×V)}{xs:List (List bK×Addr×Value)}(r:KT H kvs xs)(k:List bK){y:V}{u:Value}(ry:aI y u) :
  KT H (kvs.map fun kv=>if kv.1=k then (kv.1,y) else kv) (xs.map (putAt k u)):=by
 induction r with
 | nil=>exact .nil
 | @cons p q ps qs h t ih =>
  rw[Er,Er];refine .cons ?_ ih;obtain⟨h1,h2,h3⟩:=h;unfold putAt
  by_cases e:p.1=k
  ·rw[D8 e,D8 (h1.symm.trans e)];exact⟨h1,h2,ry⟩
  ·rw[D7 e,D7 (fun z=>e (h1.trans z))];exact⟨h1,h2,h3⟩
theorem KT.put {H:Hp}{kvs:List (List bK×V)}{xs:List (List bK×Addr×Value)}(r:KT H kvs xs)(k:List bK){b:Addr}{y:V}{u:Value}(hb:H b=some (.tup (k.map kV)))(ry:aI y u) :
  KT H (eU kvs k y) (storedH xs k b u):=by
 have e:(kvs.any fun kv=>decide (kv.1=k))=(atKey xs k).isSome:=by
  rw[im,(r.val k).isSome_eq,Option.isSome_map]
 unfold eU storedH;rw[e]
 by_cases q:(atKey xs k).isSome=true
 ·rw[D8 q,D8 q];exact r.repl k ry
 ·rw[D7 q,D7 q];exact Paired.snoc r ⟨rfl,hb,ry⟩
theorem KT.keeps {H H':Hp}{kvs:List (List bK×V)}{xs:List (List bK×Addr×Value)}(r:KT H kvs xs)(ht:∀ b ys,H b=some (.tup ys)->H' b=some (.tup ys)):KT H' kvs xs :=
 Paired.mapP r fun _ _ z=>⟨z.1,ht _ _ z.2.1,z.2.2⟩
section
variable {P:Program}{w:World}{H:Hp}{h:Heap}{a:Addr}
theorem Ai {u:HO}(ok:gO P w H h)(e:Rd H a u):aT P w H h a u:=e.ok ok
theorem mx {kvs:List (bK×V)}(ok:gO P w H h)(e:Rd H a (.dK kvs)):kvs.length<=sizeLine/\(a == sysModules)=false/\∃ vs,KV kvs vs/\h.DictOf (aX P w) a vs :=
 show aT P w H h a (.dK kvs) from Ai ok e
theorem xl {kvs:List (bK×V)}(ok:gO P w H h)(e:H a=some (.dK kvs)):kvs.length<=sizeLine/\(a == sysModules)=false/\∃ vs,KV kvs vs/\h.DictOf (aX P w) a vs:=mx ok (.inl e)
theorem kf {ks:List bK}(ok:gO P w H h)(e:H a=some (.tup (ks.map kV))):(tupleKind (aX P w)).is h ks a:=by
 obtain⟨_,its,r,o,h1,h2,n,h3⟩:=(show aT P w H h a (.tup (ks.map kV)) from ok a _ e);exact⟨o,its.toArray,n,h1,h2,h3,by simpa using pA r⟩
theorem mB {kvs:List (List bK×V)}(ok:gO P w H h)(e:Rd H a (.dT kvs)):kvs.length<=sizeLine/\(a == sysModules)=false /\
  ∃ xs,KT H kvs xs/\h.DictOfH (tupleKind (aX P w)) a xs:=by
 obtain⟨z,y,xs,r,o,es,ep,h1,h2,h3,h4,h5⟩:=(show aT P w H h a (.dT kvs) from Ai ok e);refine⟨z,y,xs,r,o,es,ep,h1,h2,h3,h4,fun x hx=>?_,h5⟩
 have all:∀ {l:List (List bK×V)}{m:List (List bK×Addr×Value)},KT H l m->∀ x∈m,(tupleKind (aX P w)).is h x.1 x.2.1:=by
  intro l m q
  induction q with
  | nil=>intro x hx;exact nomatch hx
  | @cons p q ps qs hq t ih =>
   intro x hx;rcases Eh.mp hx with e | hx
   ·subst e
    exact kf ok (by rw[<-hq.1];exact hq.2.1)
   ·exact ih x hx
 exact all r x hx
theorem BV {kvs:List (List bK×V)}(ok:gO P w H h)(e:H a=some (.dT kvs)):kvs.length<=sizeLine/\(a == sysModules)=false /\
  ∃ xs,KT H kvs xs/\h.DictOfH (tupleKind (aX P w)) a xs:=mB ok (.inl e)
end
def cv (H:Hp)(a:Addr)(y:V)(r:Option V):Prop :=
 (∃ kvs k,Rd H a (.dK kvs)/\y=kV k/\r=cK kvs k)\/∃ kvs k b,Rd H a (.dT kvs)/\y=.ref b/\H b=some (.tup (k.map kV))/\r=cK kvs k
def jk (H:Hp)(a:Addr)(y v:V)(H':Hp):Prop :=
 (∃ kvs k,H a=some (.dK kvs)/\y=kV k/\kvs.length<sizeLine/\H'=upd H a (.dK (eU kvs k v))) \/
 ∃ kvs k b,H a=some (.dT kvs)/\y=.ref b/\H b=some (.tup (k.map kV))/\kvs.length<sizeLine/\H'=upd H a (.dT (eU kvs k v))
theorem cv.k {H:Hp}{a:Addr}{kvs:List (bK×V)}{k:bK}(e:H a=some (.dK kvs)):cv H a (kV k) (cK kvs k):=.inl ⟨kvs,k,.inl e,rfl,rfl⟩
theorem cv.t {H:Hp}{a b:Addr}{kvs:List (List bK×V)}{k:List bK}(e:H a=some (.dT kvs))(eb:H b=some (.tup (k.map kV))):cv H a (.ref b) (cK kvs k):=.inr ⟨kvs,k,b,.inl e,rfl,eb,rfl⟩
theorem jk.k {H:Hp}{a:Addr}{kvs:List (bK×V)}{k:bK}{v:V}(e:H a=some (.dK kvs))(hl:kvs.length<sizeLine):jk H a (kV k) v (upd H a (.dK (eU kvs k v))):=.inl ⟨kvs,k,e,rfl,hl,rfl⟩
theorem jk.t {H:Hp}{a b:Addr}{kvs:List (List bK×V)}{k:List bK}{v:V}(e:H a=some (.dT kvs))(eb:H b=some (.tup (k.map kV)))(hl:kvs.length<sizeLine) :
  jk H a (.ref b) v (upd H a (.dT (eU kvs k v))):=.inr ⟨kvs,k,b,e,rfl,eb,hl,rfl⟩
section
variable {X:Cx}{pins:List (Addr×Obj)}{σ:St}{H:Hp}{s:Shared}{a:Addr}{y v:V}{u r:Value}{o:Option V}{A:Around}{E:Value->Shared->Prop}
theorem ar.big (I:ar X pins σ H s):sysModules<s.heap.objs.size:=by
 have h:mainGlobals<s.heap.objs.size:=(I.mod.glob.keeps I.bk).lt;exact Nat.lt_trans (by decide) h
theorem vR {Q:Value->Shared->Prop}(hu:A.units+1<cLine)(I:ar X pins σ H s)(g:cv H a y (some v))(ry:aI y u)(h:∀ w' s',ar X pins σ H s'->aI v w'->Q w' s') :
  wpAny (model X.prog X.w) A (getItem (.ref a) u) Q E s:=by
 rcases g with ⟨kvs,k,e,ey,l⟩ | ⟨kvs,k,b,e,ey,eb,l⟩
 ·subst ey
  obtain⟨z,hd,vs,rel,dd⟩:=mx I.hok e;obtain⟨w',hw,rw'⟩:=fw.some_of (v:=v) (o:=valueAt vs k) (by rw[l];exact rel.val k);exact wpAny_getItem_of (kX ry) dd.mapOf hw (h w' _ (I.tok _) rw')
 ·subst ey
  cases (show u=Value.ref b from ry);obtain⟨z,hd,xs,rel,dd⟩:=mB I.hok e;obtain⟨w',hw,rw'⟩:=fw.some_of (v:=v) (o:=(atKey xs k).map (·.2)) (by rw[l];exact rel.val k);obtain⟨p,hp,hp2⟩:=Option.map_eq_some_iff.mp hw;refine wpAny_getItem_heap (FI hu) (kf I.hok eb) dd hp ?_;rw[hp2];exact h w' _ (I.tok _) rw'
theorem C3 {Q:Value->Shared->Prop}(hu:A.units+1<cLine)(I:ar X pins σ H s)(g:cv H a y o)(ry:aI y u)(h:∀ s',ar X pins σ H s'->Q (.bool o.isSome) s') :
  wpAny (model X.prog X.w) A (compareOp .In u (.ref a)) Q E s:=by
 rcases g with ⟨kvs,k,e,ey,l⟩ | ⟨kvs,k,b,e,ey,eb,l⟩
 ·subst ey
  obtain⟨z,hd,vs,rel,dd⟩:=mx I.hok e;refine wpAny_in_of (kX ry) hd dd.mapOf ?_;rw[<-(rel.val k).isSome_eq,<-l];exact h _ (I.tok _)
 ·subst ey
  cases (show u=Value.ref b from ry);obtain⟨z,hd,xs,rel,dd⟩:=mB I.hok e;refine wpAny_in_heap (FI hu) (kf I.hok eb) hd dd ?_;have q:=(rel.val k).isSome_eq;rw[Option.isSome_map]at q;rw[<-q,<-l];exact h _ (I.tok _)
theorem yY {Q:Value->Shared->Prop}(hu:A.units+1<cLine)(I:ar X pins σ H s)(g:cv H a y o)(ry:aI y u)(h:∀ s',ar X pins σ H s'->Q (.bool (!o.isSome)) s') :
  wpAny (model X.prog X.w) A (compareOp .NotIn u (.ref a)) Q E s:=by
 rcases g with ⟨kvs,k,e,ey,l⟩ | ⟨kvs,k,b,e,ey,eb,l⟩
 ·subst ey
  obtain⟨z,hd,vs,rel,dd⟩:=mx I.hok e;refine wpAny_notIn_of (kX ry) hd dd.mapOf ?_;rw[<-(rel.val k).isSome_eq,<-l];exact h _ (I.tok _)
 ·subst ey
  cases (show u=Value.ref b from ry);obtain⟨z,hd,xs,rel,dd⟩:=mB I.hok e;refine wpAny_notIn_heap (FI hu) (kf I.hok eb) hd dd ?_;have q:=(rel.val k).isSome_eq;rw[Option.isSome_map]at q;rw[<-q,<-l];exact h _ (I.tok _)
theorem lH {h':Heap}{t':Nat}{ob:HO}(I:ar X pins σ H s)(mu:BJ (H a))(hs:Heap.SameBut a s.heap h')(he:∃ q,h'.get? a=some q)(new:aT X.prog X.w (upd H a ob) h' a ob) :
  ar X pins σ (upd H a ob) { s with heap:=h',toks:=t' } :=
 I.write (x:=a) (e:=a) mu (.inl rfl) (fun b q hb z=>(hs.2 b hb).trans z) he new
theorem tL {P:Program}{w:World}{H':Hp}{h':Heap}{kvs:List (bK×V)}{vs:List (bK×Value)}(z:kvs.length<=sizeLine)(hd:(a == sysModules)=false)(rel:KV kvs vs)(dd:h'.DictOf (aX P w) a vs) :
  aT P w H' h' a (.dK kvs):=⟨z,hd,vs,rel,dd⟩
theorem vS {H':Hp}{Q:Unit->Shared->Prop}(hu:A.units+1<cLine)(I:ar X pins σ H s)(g:jk H a y v H')(ry:aI y u)(rv:aI v r)(h:∀ s',ar X pins σ H' s'->Q () s') :
  wpAny (model X.prog X.w) A (setItem (.ref a) u r) Q E s:=by
 rcases g with ⟨kvs,k,e,ey,l,eH⟩ | ⟨kvs,k,b,e,ey,eb,l,eH⟩
 ·subst ey eH
  obtain⟨z,hd,vs,rel,dd⟩:=xl I.hok e
  have hz:vs.length<=sizeLine:=by rw[<-rel.length];exact z
  have hl:(eU kvs k v).length<=sizeLine:=by have:=hU kvs k v;omega
  refine wpAny_setItem_pairs (hsz:=hz) (kX ry) dd fun h' dd' hs=>h _ ?_;have he:∃ q,h'.get? a=some q:=let ⟨q,_,_,hq,_⟩:=dd';⟨q,hq⟩;exact lH I (by rw[e];exact True.intro) hs he (tL hl hd (rel.put k rv) dd')
 ·subst ey eH
  cases (show u=Value.ref b from ry);obtain⟨z,hd,xs,rel,dd⟩:=BV I.hok e
  have hz:xs.length<=sizeLine:=by rw[<-Ej rel];exact z
  have hl:(eU kvs k v).length<=sizeLine:=by have:=hU kvs k v;omega
  refine wpAny_setItem_heap (hsz:=hz) (FI hu) (kf I.hok eb) dd fun h' dd' hs=>h _ ?_;obtain⟨q,es,ep,hq,h2,h3,h4,_,h5⟩:=dd';refine lH I (by rw[e];exact True.intro) hs ⟨q,hq⟩ ⟨hl,hd,_,(rel.put k eb rv).keeps fun c ys ec=>?_,q,es,ep,hq,h2,h3,h4,h5⟩;rw[ae (b5 ec e (fun z=>nomatch z))];exact ec
end
section
variable {X:Cx}{pins:List (Addr×Obj)}{σ:St}{H:Hp}{s:Shared}{a:Addr}{kvs:List (bK×V)}{k:bK}{u:Value}{A:Around}{E:Value->Shared->Prop}
theorem BU {v:V}{more:List Value}{Q:Value->Shared->Prop}(I:ar X pins σ H s)(e:H a=some (.dK kvs))(ry:aI (kV k) u)(l:cK kvs k=some v)(hm:more=[]\/∃ x,more=[x])
  (h:∀ w' s',ar X pins σ (upd H a (.dK (my kvs k))) s'->aI v w'->Q w' s'):wpAny (model X.prog X.w) A (call (.builtin "dict.pop") (.ref a::u::more)) Q E s:=by
 obtain⟨z,hd,vs,rel,dd⟩:=xl I.hok e;obtain⟨w',hw,rw'⟩:=fw.some_of (v:=v) (o:=valueAt vs k) (by rw[<-l];exact rel.val k)
 have hp:(keyPart u).isSome=true:=by
  cases k with
  | inl i=>obtain⟨t,q⟩:=(show ∃ t,u=Value.int i t from ry);subst q;rfl
  | inr x=>obtain⟨t,q⟩:=(show ∃ t,u=Value.str x t from ry);subst q;rfl
 have ha:argsOk "dict.pop" ⟨.ref a::u::more,[]⟩:=by
  rcases hm with q | ⟨x,q⟩
  ·subst q;exact PySem.F.args_dict_pop_2 _ _
  ·subst q;exact PySem.F.args_dict_pop_3 _ _ _
 refine call_meetsIn PySem.F.slot_dict_pop dd.typeIs PySem.F.entry_dict_pop ha (meets_dict_pop_there (aX X.prog X.w) a (kX ry) more hm hp)
  ⟨vs,w',dd,by rw[<-rel.length];exact z,hw,fun h' dd' hs=>h w' _ ?_ rw'⟩
 have he:∃ q,h'.get? a=some q:=let ⟨q,_,_,hq,_⟩:=dd';⟨q,hq⟩;exact lH I (by rw[e];exact True.intro) hs he (tL (EC (xn kvs k) z) hd (rel.drop k) dd')
end
def BK (i:Expr):Prop:=∀ ov iv,subscripted i false ov iv=operate [ov,iv] (getItem ov iv)
theorem zZ {prog:Program}{w:World}{A:Around}{E:Value->Shared->Prop}{s:Shared}{env:Env}{value slice:Expr}{pos:Pos}{T id:String}{Q:Value->Shared->Prop}
  (hl:typeLookup (.type T) "__getitem__" = pure (some (.builtin id))) (hs:BK slice)
  (h:wpAny (model prog w) A (eval value env) (fun o s₁=>wpAny (model prog w) A (eval slice env) (fun i s₂=>s₂.TypeIs o T/\wpAny (model prog w) A (getItem o i) Q E s₂) E s₁) E s) :
  wpAny (model prog w) A (eval (.Subscript value slice pos) env) Q E s:=by
 refine Subscript_ (Ew h (fun o s₁ h₁=>Ew h₁ (fun i s₂ h₂=>?_) fun _ _ x=>x) fun _ _ x=>x);obtain⟨hT,h₂⟩:=h₂;unfold subscriptTail;refine D5 ?_;rw[getitemInPython_of_ne hT.not_modules];refine D5 (wpAny_specialOf hT hl ?_)
 have fin:wpAny (model prog w) A (subscripted slice false o i) (fun r s₃=>wpAny (model prog w) A (letTemporaryGo value o r >>= fun _=>pure r) Q E s₃) E s₂:=by
  rw[hs o i];exact wpAny_operating (Ew h₂ (fun r s₃ h₃=>D5 (wpAny_letTemporaryGo (Ea h₃))) fun _ _ x=>x)
 first
  | exact Ea (D5 fin)
  | exact D5 (Ea (D5 fin))
  | exact D5 fin
theorem rF {X:Cx}{pins:List (Addr×Obj)}{σ:St}{H:Hp}{s:Shared}{a:Addr}{y:V}{o:Option V}(I:ar X pins σ H s)(g:cv H a y o):s.TypeIs (.ref a) "dict":=by
 rcases g with ⟨kvs,k,e,_,_⟩ | ⟨kvs,k,b,e,_,_,_⟩
 ·obtain⟨_,_,vs,_,dd⟩:=mx I.hok e
  exact dd.typeIs
 ·obtain⟨_,_,xs,_,dd⟩:=mB I.hok e
  exact dd.typeIs
inductive DD (x y:V) (Q:VK) (H:Hp):Prop
 | mk (a:Addr) (v:V) (e:x=.ref a) (g:cv H a y (some v)) (h:Q v H):DD x y Q H
def Cq (td ty:TE):TE:=fun σ H Q=>td σ H fun x H1=>ty σ H1 fun y H2=>DD x y Q H2
def Dm (ty td:TE):TE:=fun σ H Q=>ty σ H fun y H1=>td σ H1 fun x H2=>∃ a o,x=.ref a/\cv H2 a y o/\Q (.bl o.isSome) H2
def z4 (ty td:TE):TE:=fun σ H Q=>ty σ H fun y H1=>td σ H1 fun x H2=>∃ a o,x=.ref a/\cv H2 a y o/\Q (.bl (!o.isSome)) H2
def Cn (td ty tv:TE):TS:=fun D σ H=>tv σ H fun v H1=>td σ H1 fun x H2=>ty σ H2 fun y H3=>∃ a H4,x=.ref a/\jk H3 a y v H4/\D.nx σ H4
section
variable {X:Cx}{o i e value:Expr}{pos pos' tpos:Pos}{td ty tv:TE}
theorem gk (hu:X.A.units+1<cLine)(ho:PE X o td)(hi:PE X i ty)(hs:BK i):PE X (.Subscript o i pos) (Cq td ty):=by
 intro pins s σ H Q I h;refine zZ PySem.F.slot_dict_getitem.lookup hs (aU (ho pins s σ H _ I h) fun u s1 ⟨x,H1,I1,rx,q1⟩=>aU (hi pins s1 σ H1 _ I1 q1) fun iv s2 ⟨y,H2,I2,ry,a,v,ex,g,q2⟩=>?_);subst ex;obtain rfl:u=Value.ref a:=rx;exact⟨rF I2 g,vR hu I2 g ry fun w' s3 I3 rw'=>⟨v,H2,I3,rw',q2⟩⟩
theorem nF (hu:X.A.units+1<cLine)(hi:PE X i ty)(ho:PE X o td):PC X .In i o (Dm ty td):=by
 intro pins s σ H Q I h;refine aU (hi pins s σ H _ I h) fun iv s1 ⟨y,H1,I1,ry,q1⟩=>aU (ho pins s1 σ H1 _ I1 q1) fun u s2 ⟨x,H2,I2,rx,a,ov,ex,g,q2⟩=>?_;subst ex;obtain rfl:u=Value.ref a:=rx;exact C3 hu I2 g ry fun s3 I3=>⟨.bl ov.isSome,H2,I3,rfl,q2⟩
theorem kz (hu:X.A.units+1<cLine)(hi:PE X i ty)(ho:PE X o td):PC X .NotIn i o (z4 ty td):=by
 intro pins s σ H Q I h;refine aU (hi pins s σ H _ I h) fun iv s1 ⟨y,H1,I1,ry,q1⟩=>aU (ho pins s1 σ H1 _ I1 q1) fun u s2 ⟨x,H2,I2,rx,a,ov,ex,g,q2⟩=>?_;subst ex;obtain rfl:u=Value.ref a:=rx;exact yY hu I2 g ry fun s3 I3=>⟨.bl (!ov.isSome),H2,I3,rfl,q2⟩
theorem gm (hu:X.A.units+1<cLine)(ho:PE X o td)(hi:PE X i ty)(hv:PE X value tv)(hs:swapsWith value (some (.Subscript o i pos')) pos.line X.env=pure false) :
  PS X (.Assign [.Subscript o i pos'] value pos) (Cn td ty tv):=by
 intro pins s σ H D I h;refine wpAny_Assign_Subscript (aU (hv pins s σ H _ I h) fun r s1 ⟨v,H1,I1,rv,q1⟩=>aU (ho pins s1 σ H1 _ I1 q1) fun u s2 ⟨x,H2,I2,rx,q2⟩=>aU (hi pins s2 σ H2 _ I2 q2) fun iv s3 ⟨y,H3,I3,ry,a,H4,ex,g,q3⟩=>?_) hs;subst ex;obtain rfl:u=Value.ref a:=rx;exact vS hu I3 g ry rv fun s4 I4=>⟨σ,H4,I4,q3⟩
end
theorem xk {P:Program}{w:World}{H:Hp}(h:Heap)(hb:sysModules<h.objs.size):aT P w H (h.push { cls:=.type "dict",data:=.dict #[] }) h.objs.size (.dK []) :=
 ⟨Ey _,Fh.mpr (Eo (Em hb)),[],.nil,Heap.DictOf.new h⟩
theorem xo {P:Program}{w:World}{H:Hp}(h:Heap)(hb:sysModules<h.objs.size):aT P w H (h.push { cls:=.type "dict",data:=.dict #[] }) h.objs.size (.dT []) :=
 ⟨Ey _,Fh.mpr (Eo (Em hb)),[],.nil,_,#[],0,Heap.get?_push_size _ rfl,⟨rfl,rfl,rfl⟩,rfl,rfl,FP⟩
def Bo:TE:=fun _ H Q=>∀ p,H p=none->Q (.ref p) (upd H p (.dK []))
def Bp:TE:=fun _ H Q=>∀ p,H p=none->Q (.ref p) (upd H p (.dT []))
section
variable {X:Cx}{pos:Pos}
theorem dG:PE X (.Dict [] [] pos) Bo:=fun pins s σ H Q I h =>
 wpAny_Dict_empty ⟨.ref s.heap.objs.size,_,I.laid (a:=s.heap.objs.size) (o:=.dK []) (t':=s.toks) (fun _ _ q=>Heap.get?_push_of_some _ q) (D9 _) (xk s.heap I.big),rfl,h _ (I.hok.fresh (D9 _))⟩
theorem sr:PE X (.Dict [] [] pos) Bp:=fun pins s σ H Q I h =>
 wpAny_Dict_empty ⟨.ref s.heap.objs.size,_,I.laid (a:=s.heap.objs.size) (o:=.dT []) (t':=s.toks) (fun _ _ q=>Heap.get?_push_of_some _ q) (D9 _) (xo s.heap I.big),rfl,h _ (I.hok.fresh (D9 _))⟩
end
structure M1 (X:Cx)(o:Expr)(m:Str)(apos:Pos)(e:Expr)(cpos:Pos):Prop where
 base:attributeBase o m X.env (eval o X.env)=eval o X.env
 few:((backTo cpos (starEach [e] X.env)).all (fun x=>!x.1)&&(backToKw cpos (keywordEach [] X.env)).all (fun x=>x.1.isSome)
  && decide (([e]:List Expr).length+([]:List Keyword).length+(if ([]:List Keyword).isEmpty then 0 else 1)<30))=true
 line:(apos.endLine == cpos.line)=true
 trees:backTo cpos (starEach [e] X.env)=[(false,eval e X.env)]
structure M2 (X:Cx)(o:Expr)(m:Str)(apos:Pos)(e f:Expr)(cpos:Pos):Prop where
 base:attributeBase o m X.env (eval o X.env)=eval o X.env
 few:((backTo cpos (starEach [e,f] X.env)).all (fun x=>!x.1)&&(backToKw cpos (keywordEach [] X.env)).all (fun x=>x.1.isSome)
  && decide (([e,f]:List Expr).length+([]:List Keyword).length+(if ([]:List Keyword).isEmpty then 0 else 1)<30))=true
 line:(apos.endLine == cpos.line)=true
 trees:backTo cpos (starEach [e,f] X.env)=[(false,eval e X.env),(false,eval f X.env)]
def CH (H:Hp)(a:Addr):Prop:=(∃ kvs,Rd H a (.dK kvs))\/∃ kvs,Rd H a (.dT kvs)
theorem tV {X:Cx}{pins:List (Addr×Obj)}{σ:St}{H:Hp}{s:Shared}{a:Addr}(I:ar X pins σ H s)(d:CH H a) :
  s.TypeIs (.ref a) "dict"/\(∀ b,Value.ref a=.ref b->∃ ob,s.heap.get? b=some ob/\ob.dict=none)/\(a == sysModules)=false:=by
 rcases d with ⟨kvs,e⟩ | ⟨kvs,e⟩
 ·obtain⟨_,hd,vs,_,dd⟩:=mx I.hok e
  refine⟨dd.typeIs,fun b q=>?_,hd⟩;cases q;obtain⟨ob,_,_,h1,h2,_⟩:=dd;exact⟨ob,h1,h2.2.1⟩
 ·obtain⟨_,hd,xs,_,dd⟩:=mB I.hok e
  refine⟨dd.typeIs,fun b q=>?_,hd⟩;cases q;obtain⟨ob,_,_,h1,h2,_⟩:=dd;exact⟨ob,h1,h2.2.1⟩
section
variable {X:Cx}{pins:List (Addr×Obj)}{σ:St}{H:Hp}{s:Shared}{a:Addr}{y d:V}{u r:Value}{o:Option V}{A:Around}{E:Value->Shared->Prop}
theorem AH {Q:Value->Shared->Prop}(hu:A.units+1<cLine)(I:ar X pins σ H s)(g:cv H a y o)(ry:aI y u)(rd:aI d r)(h:∀ w' s',ar X pins σ H s'->aI (o.getD d) w'->Q w' s') :
  wpAny (model X.prog X.w) A (call (.builtin "dict.get") [.ref a,u,r]) Q E s:=by
 rcases g with ⟨kvs,k,e,ey,l⟩ | ⟨kvs,k,b,e,ey,eb,l⟩
 ·subst ey
  obtain⟨z,hd,vs,rel,dd⟩:=mx I.hok e;refine call_meetsIn Fz dd.typeIs PySem.F.entry_dict_get (PySem.F.args_dict_get_3 _ _ _) (meets_dict_get_default (aX X.prog X.w) a (kX ry) hd r) ⟨_,dd.mapOf,h _ _ (I.tok _) ?_⟩;rw[l];exact (rel.val k).getD rd
 ·subst ey
  cases (show u=Value.ref b from ry);obtain⟨z,hd,xs,rel,dd⟩:=mB I.hok e;refine call_meetsIn Fz dd.typeIs PySem.F.entry_dict_get (PySem.F.args_dict_get_3 _ _ _) (meetsH_dict_get_default (tupleKind (aX X.prog X.w)) a b hd r) ⟨FI hu,k,xs,kf I.hok eb,dd,h _ _ (I.tok _) ?_⟩;rw[l];exact (rel.val k).getD rd
end
def Bn (td ty tx:TE):TE:=fun σ H Q=>td σ H fun x H1=>∃ a,x=.ref a/\CH H1 a/\ty σ H1 fun y H2=>tx σ H2 fun z H3=>∃ o,cv H3 a y o/\Q (o.getD z) H3
def Bq (td ty:TE):TE:=fun σ H Q=>td σ H fun x H1=>∃ a,x=.ref a/\CH H1 a/\ty σ H1 fun y H2=>∃ kvs k v,H2 a=some (.dK kvs)/\y=kV k/\cK kvs k=some v/\Q v (upd H2 a (.dK (my kvs k)))
section
variable {X:Cx}{o e f:Expr}{apos cpos:Pos}{td ty tx:TE}
theorem sk (hu:X.A.units+1<cLine)(ho:PE X o td)(he:PE X e ty)(hf:PE X f tx)(m:M2 X o "get" apos e f cpos):PE X (.Call (.Attribute o "get" apos) [e,f] [] cpos) (Bn td ty tx):=by
 intro pins s σ H Q I h;refine wpAny_Call_method m.base m.few m.line PySem.F.plainAttrs_dict Fz PySem.F.type_dict_get (aU (ho pins s σ H _ I h) fun u s1 ⟨x,H1,I1,rx,a,ex,d,q1⟩=>?_);subst ex;obtain rfl:u=Value.ref a:=rx;obtain⟨t1,t2,_⟩:=tV I1 d;refine⟨t1,t2,?_⟩;rw[m.trees]
 refine Fi rfl (E6 (EM (aU (he pins s1 σ H1 _ I1 q1) fun iv s2 ⟨y,H2,I2,ry,q2⟩ =>
  EM (aU (hf pins s2 σ H2 _ I2 q2) fun fv s3 ⟨z,H3,I3,rz,ov,g,q3⟩=>Ff ?_))))
 exact AH hu I3 g ry rz fun w' s4 I4 rw'=>⟨_,H3,I4,rw',q3⟩
theorem nJ (ho:PE X o td)(he:PE X e ty)(m:M1 X o "pop" apos e cpos):PE X (.Call (.Attribute o "pop" apos) [e] [] cpos) (Bq td ty):=by
 intro pins s σ H Q I h;refine wpAny_Call_method m.base m.few m.line PySem.F.plainAttrs_dict PySem.F.slot_dict_pop PySem.F.type_dict_pop (aU (ho pins s σ H _ I h) fun u s1 ⟨x,H1,I1,rx,a,ex,d,q1⟩=>?_);subst ex;obtain rfl:u=Value.ref a:=rx;obtain⟨t1,t2,_⟩:=tV I1 d;refine⟨t1,t2,?_⟩;rw[m.trees];refine Fi rfl (E6 (EM (aU (he pins s1 σ H1 _ I1 q1) fun iv s2 ⟨y,H2,I2,ry,kvs,k,v,ea,ey,l,q2⟩=>Ff ?_)));subst ey;exact BU I2 ea ry l (.inl rfl) fun w' s3 I3 rw'=>⟨v,_,I3,rw',q2⟩
end
end L2
namespace Att
open PySem PySem.W PySem.Calls PyProof.Rows
theorem lu {P:Params}{h:Heap}:∀ (ns:List Int)(vs:List Value),WellAll P h vs (ns.map WData.int)->IntsAre vs ns:=by
 intro ns
 induction ns with
 | nil =>
  intro vs w;rw[List.map_nil]at w;cases w;exact .nil
 | cons n ns ih =>
  intro vs w;rw[Er]at w
  cases w with
  | cons a b =>
   cases a;exact .cons _ _ (ih _ b)
theorem wL {l:OpenLaw}{n:Nat}(hn:l.most=some n){P:Params}{h:Heap}{args:List WData}{vals:List Value}
  (hpre:l.row.toRowW.claim.pre args=true) (hwl:WellAll P h vals args) :
  ∃ a vs ns,vals=[Value.ref a]/\args=[WData.list (ns.map WData.int)]/\h.get? a=some { cls:=.type "list",data:=.seq vs.toArray }/\IntsAre vs ns/\ns.length<=n:=by
 have hsh:WShape.hasAll [] args [.list .int]=true:=(pre_splitW hpre).1;have hc:l.pre.holds [] { args:=args }=true:=(pre_splitW hpre).2;obtain⟨d,r,rfl,h1,h2⟩:=hasAllW_cons hsh;obtain rfl:=hasAllW_nil h2;obtain⟨xs,rfl,h3⟩:=hasW_list h1;obtain⟨ns,rfl⟩:=items_int h3
 have hlen:ns.length<=n:=by
  unfold OpenLaw.pre at hc
  have h4:(WTm.not (.lt (.lit (.int (n:Int))) (.len (.arg 0)))).holds [] { args:=[.list (ns.map .int)] }=true:=by
   have h4:=(holds_andW hc).1;rw[hn]at h4;exact h4
  have h5:=condW_of h4 (w_not (w_lt w_lit (w_len_list (w_arg rfl))));rw[D6]at h5;refine Nat.le_of_not_lt fun q=>?_
  have q':(n:Int)<((ns.length:Nat):Int):=by omega
  first
   | (rw[Ee q']at h5;exact absurd h5 (by decide))
   | (simp at h5;omega)
 cases hwl with
 | cons w1 w2 =>
  cases w2
  cases w1 with
  | list ho hall=>exact⟨_,_,ns,rfl,rfl,ho,lu ns _ hall,hlen⟩
theorem wE (l:OpenLaw)(args:List WData):l.row.toRowW.claim.post args (.bool true) args=true :=
 postW_of (r:=l.row.toRowW) (X:=(true == true))
  (show WShape.has [] (.bool true) .bool=true by first | rfl | decide | simp[WShape.has,WShape.arms,WShape.armsAll])
  (show (WTm.eq .res (.lit (.bool true))).value [] { args:=args,res:=some (.bool true),after:=args }=some (.bool (true == true)) from w_eq_bool (w_res rfl) w_lit) rfl
theorem attach_call {l:OpenLaw}{n:Nat}{q:Program}{loose:List Str}{XP:(Str->Option Value)->Heap->Prop}{YP:World->Heap->Prop}{d:DefRec}
  (hn:l.most=some n) (hdf:d.params.defaults=[])
  (call:∀ (w:World)(s₀ s₁:Shared)(mg mb:Str->Option Value)(fa:Addr)(o:Obj)(pm cd doc:Value)(a:Addr)(vs:List Value)(ns:List Int),
   Ground q loose [] XP w s₀ mg mb s₁.heap->YP w s₁.heap ->
   s₁.heap.get? fa=some o->o.data=.func (docDef d.name d.params d.body d.scope pm cd doc)->s₁.heap.CodeRec cd d.name->mg d.name=some (.ref fa) ->
   s₁.heap.get? a=some { cls:=.type "list",data:=.seq vs.toArray }->IntsAre vs ns->ns.length<=n->s₁.gens = #[] ->
   codeAny (model l.prog w) callerA (.call (.ref fa) ⟨[.ref a],[]⟩) (fun r s'=>r=.ok (.ret (.bool true))/\OldK s₁.heap s'.heap/\s'.os=s₁.os/\AllBare s'.gens) s₁) :
  WalkO q loose XP YP l.row.toRowW d [] (fun f vs=>PySem.call f vs):=by
 intro w s₀ s₁ mg mb G Y fa o pm cd doc dV kV ho hd hcd hD hmg hg args vals as hpre hlay hrd hwl hlo;obtain rfl:dV=.none:=Dflts.none hD hdf;obtain rfl:kV=.none:=Dflts.noKw hD;obtain⟨a,vs,ns,rfl,rfl,hobj,hints,hlen⟩:=wL hn hpre hwl;refine enter_call (Fo (call w s₀ s₁ mg mb fa o pm cd doc a vs ns G Y ho (fd_plain hd) hcd hmg hobj hints hlen hg) fun r s' hq=>?_);obtain⟨rfl,h2,h3,h4⟩:=hq;exact⟨.inl ⟨.bool true,.bool true,[],rfl,fun _=>rfl,.bool true,wE l _,fun _=>⟨List.Pairwise.nil,fun _ hm=>(nomatch hm)⟩⟩,h2,h3,h4⟩
section
variable {prog:Program}{w:World}{A:Around}{E:Value->Shared->Prop}{s:Shared}{K:Frag}
def Db (h:Heap):Heap:={ h with objs:=#[] }
def Da (h:Heap)(L d:Addr):List (Addr×Obj):=(List.range h.objs.size).filterMap fun a=>if a=L\/a=d then none else (h.get? a).map fun o=>(a,o)
end
end Att
namespace L2
open PySem PySem.Spec PyProof.Rows
theorem pP:∀ {vs:List Value}{ns:List Int},IntsAre vs ns->aL (ns.map V.int) vs
 | _,_,.nil=>.nil
 | _,_,.cons n t h=>.cons ⟨t,rfl⟩ (pP h)
def AA (H:Hp):Prop:=∀ b,H b=none\/∃ o xs,H b=some (.frz o (.lst xs))
theorem xG {P:Program}{w:World}{K:PySem.W.Frag}{mg mb:Str->Option Value}{CX:sY}{k:Nat}{fa a:Addr}{fd:FuncData}{x:Str}{sp:Sp}{s₁:Shared}{vs:List Value}{ns:List Int}
  (KX:K.In s₁.heap) (hns:s₁.heap.Ns mainGlobals mg) (hb:s₁.heap.Ns builtinsNs mb) (hbb:∀ x:Str,x≠"__name__"->mb x=bootBuiltins x) (hlim:s₁.heap.NoLimit) (hg:s₁.gens = #[])
  (ha:s₁.heap.get? a=some { cls:=.type "list",data:=.seq vs.toArray }) (hi:IntsAre vs ns) (hl:ns.length<=sizeLine) (hr:bN k callerA)
  (F:∀ base:Heap,K.In base->base.Ns mainGlobals mg->aV P w K mg base CX k fa fd [x] sp) (hbind:∀ (s:Shared)(u:Value),BindsTo s fd ⟨[u],[]⟩ [(x,u)])
  (hsp:∀ H:Hp,AA H->be K H a (ns.map V.int)->sp [.ref a] H (fun v _=>v=.bl true) fun _ _ _=>False)
  (hCX:∀ H e s',CX [] H s₁ (fun _ _ _=>False) e s'->False) :
  codeAny (model P w) callerA (.call (.ref fa) ⟨[.ref a],[]⟩) (fun r s'=>r=.ok (.ret (.bool true))/\OldK s₁.heap s'.heap/\s'.os=s₁.os/\AllBare s'.gens) s₁:=by
 have rv:=pP hi;have lenV:=hi.length
 have core:∀ H:Hp,AA H->be K H a (ns.map V.int)->gO P w H s₁.heap->(∀ b,H b≠none->b=a)->(H a≠none->K.lookup a=none) ->
   codeAny (model P w) callerA (.call (.ref fa) ⟨[.ref a],[]⟩) (fun r s'=>r=.ok (.ret (.bool true))/\OldK s₁.heap s'.heap/\s'.os=s₁.os/\AllBare s'.gens) s₁:=by
  intro H hO hS hok hA hK;have base_of:∀ {b:Addr}{o:Obj},s₁.heap.get? b=some o->H b=none->(qm s₁.heap H).get? b=some o:=fun e n=>xC e n
  have noA:∀ {b:Addr}{o:Obj}{es:Array DictEntry}{ep:Nat},s₁.heap.get? b=some o->o.data=.dict es ep->H b=none:=fun {b o es ep} e d=>by
   cases q:H b with
   | none=>rfl
   | some u =>
    have e':b=a:=hA b (by rw[q];simp);subst e';rw[ha]at e;cases e;have d':Data.seq vs.toArray _=Data.dict es ep:=d;cases d'
  have nsK:∀ {b:Addr}{m:Str->Option Value},s₁.heap.Ns b m->(qm s₁.heap H).Ns b m:=fun {b m} ⟨o,es,ep,e,d,r⟩=>⟨o,es,ep,base_of e (noA e d),d,r⟩
  have hKb:K.In (qm s₁.heap H):=fun b o e=>base_of (KX b o e) (by
   cases q:H b with
   | none=>rfl
   | some u =>
    have e':b=a:=hA b (by rw[q];simp);subst e'
    rw[hK (by rw[q];simp)]at e;cases e)
  have hM:Mod K mg (qm s₁.heap H):=⟨hKb,nsK hns,⟨mb,nsK hb,hbb⟩,let ⟨mc,h1,h2⟩:=hlim;⟨mc,nsK h1,h2⟩⟩;have e0:tf P w K mg (qm s₁.heap H) callerA [] s₁ H:=⟨rfl,hM,fun b o e=>zD e,Nat.le_of_eq (vY _ _),trivial,fun b hb=>absurd (show b∈([]:List Addr) from hb) (by simp),hok,.of_eq hg⟩;refine Fo ((F _ hKb (nsK hns)).run callerA [] s₁ H ⟨[.ref a],[]⟩ [.ref a] [.ref a] _ _ hr e0 (hbind s₁ (.ref a)) (.cons rfl .nil) (hsp H hO hS)) fun r s' h=>?_
  cases r with
  | error e=>exact (hCX H e s' h).elim
  | ok fl =>
   cases fl with
   | next=>exact False.elim h
   | brk=>exact False.elim h
   | cont=>exact False.elim h
   | ret u =>
    obtain⟨v,H',os,bare,un,hok',r',q⟩:=h;have q':v=.bl true:=q;subst q';obtain rfl:u=Value.bool true:=r';refine⟨rfl,OldK.of_keep fun b o e=>?_,os,bare⟩
    cases q:H b with
    | none=>exact un.keep b o e q (by intro z;exact absurd (show b∈([]:List Addr) from z) (by simp)) (by simp)
    | some u =>
     rcases hO b with z | ⟨ob,xs,z⟩
     ·rw[q]at z;cases z
     ·have z2:=un.frzs b ob _ z
      obtain⟨e1,_⟩:=hok b _ z;obtain⟨e2,_⟩:=hok' b _ z2;rw[e]at e1;cases e1;exact e2
 cases hk:K.lookup a with
 | some o =>
  have e:=KX a o hk;rw[ha]at e;cases e;refine core (fun _=>none) (fun _=>.inl rfl) (.inr ⟨_,vs.toArray,_,hk,rfl,rfl,rfl,by rw[Ek,lenV];exact hl,by simpa using rv⟩) (fun b u z=>by have z':(none:Option HO)=some u:=z;cases z') (fun b z=>absurd rfl z) fun z=>absurd rfl z
 | none =>
  refine core (fun b=>if b=a then some (.frz { cls:=.type "list",data:=.seq vs.toArray } (.lst (ns.map V.int))) else none) (fun b=>?_) (.inl (.inr ⟨{ cls:=.type "list",data:=.seq vs.toArray },D8 rfl⟩)) (fun b u z=>?_) (fun b z=>?_) fun _=>hk
  ·by_cases hb:b=a
   ·exact .inr ⟨_,_,D8 hb⟩
   ·exact .inl (D7 hb)
  ·by_cases hb:b=a
   ·have z':=(D8 hb).symm.trans z
    cases z';subst hb;exact⟨ha,by rw[D6];exact hl,vs,_,rv,ha⟩
   ·have z':=(D7 hb).symm.trans z
    cases z'
  ·by_cases hb:b=a
   ·exact hb
   ·exact absurd (D7 hb) z
theorem walk_of {l:PySem.W.OpenLaw}{n k:Nat}{q:Program}{loose:List Str}{XP:(Str->Option Value)->Heap->Prop}{YP:World->Heap->Prop}{d:DefRec}{K:Params->PySem.W.Frag}{CX:World->sY}{sp:World->Sp}{x:Str}
  (hn:l.most=some n) (hn2:n<=sizeLine) (hdf:d.params.defaults=[]) (hr:bN k callerA)
  (hY:∀ (w:World)(h:Heap),YP w h->(K w.params).In h)
  (F:∀ (w:World)(mg:Str->Option Value)(fa:Addr)(h:Heap),(K w.params).In h->h.Ns mainGlobals mg->mg d.name=some (.ref fa) ->
   ∃ fd:FuncData,(∀ (s:Shared)(u:Value),BindsTo s fd ⟨[u],[]⟩ [(x,u)]) /\
    ∀ base:Heap,(K w.params).In base->base.Ns mainGlobals mg->aV l.prog w (K w.params) mg base (CX w) k fa fd [x] (sp w))
  (hsp:∀ (w:World)(H:Hp)(a:Addr)(ns:List Int),ns.length<=n->AA H->be (K w.params) H a (ns.map V.int)->sp w [.ref a] H (fun v _=>v=.bl true) fun _ _ _=>False)
  (hCX:∀ (w:World)(H:Hp)(s:Shared)(e:Value)(s':Shared),CX w [] H s (fun _ _ _=>False) e s'->False) :
  PySem.W.WalkO q loose XP YP l.row.toRowW d [] (fun f vs=>PySem.call f vs):=by
 refine Att.attach_call hn hdf fun w s₀ s₁ mg mb fa o pm cd doc a vs ns G Y ho hd hcd hmg hobj hints hlen hg=>?_;have KX:=hY w _ Y;obtain⟨fd,hb,hF⟩:=F w mg fa _ KX G.T.g hmg;exact xG KX G.T.g G.T.b G.T.builtins G.T.nolimit hg hobj hints (EC hlen hn2) hr hF hb (fun H hO hS=>hsp w H a ns hlen hO hS) fun H e s'=>hCX w H s₁ e s'
def bH (s:Stmt)(j:Nat):Stmt:=match s with
 | .ClassDef _ _ _ body _ _ _ _ _ _ _=>body.getD j (.Pass ⟨0,0,0,0⟩)
 | _=>.Pass ⟨0,0,0,0⟩
def dR (s:Stmt):Arguments:=match s with
 | .FunctionDef _ a _ _ _ _ _ _ _ _=>a
 | _=>{ posonlyargs:=[],args:=[],vararg:=none,kwonlyargs:=[],kw_defaults:=[],kwarg:=none,defaults:=[] }
def cR (s:Stmt):List Stmt:=match s with
 | .FunctionDef _ _ b _ _ _ _ _ _ _=>b
 | _=>[]
def am (s:Stmt):Scope:=match s with
 | .FunctionDef _ _ _ _ _ _ sc _ _ _=>sc
 | _=>{ kind:=.function,names:=[],isGenerator:=false,isCoroutine:=false }
abbrev cz:sY:=fun _ _ _ _ _ _=>False
abbrev E0:XK:=fun _ _ _=>False
theorem e6 {X:Cx}:dL cz X E0:=fun _ _ _ _ _ _ _ h=>h.elim
structure dB (K:PySem.W.Frag)(x qual:Str)(st:Stmt)(f:Addr)(fd:FuncData):Prop where
 ex:∃ (oc:Value)(od:Option Addr)(kV doc pm:Value)(an:Option Addr)(cdv ct:Value)(osl:Array (Option Value)),
  fd=PySem.W.fnOf x qual (dR st) (cR st) (am st) .none kV doc pm an cdv ct/\K.lookup f=some ⟨oc,od,.func fd,osl⟩/\PySem.W.codeIn K cdv qual=true
 kp:PySem.W.keepIn K (.ref f)=true
section
variable {P:Program}{w:World}{K:PySem.W.Frag}{mg:Str->Option Value}{base:Heap}
theorem dB.ok {x qual:Str}{st:Stmt}{f:Addr}{fd:FuncData}{N ps:List Str}{k:Nat}{sp:Sp}(F:dB K x qual st f fd)(S:ay N ps (am st))(len:∀ vs H Q E,sp vs H Q E->vs.length=ps.length)
  (hbody:∀ (cdv:Value)(A:Around)(outer:List Env)(s:Shared)(H:Hp)(vs:List V)(Q:VK)(E:XK),bN k (A.deeper (envOfC qual (am st) s.heap.objs.size f cdv))->sp vs H Q E ->
   ∃ t,rq (mr cz P w K mg base N qual (am st) f cdv A outer s H E).nox (cR st) t/\t { nx:=fun _ H'=>Q .non H',rt:=Q } (jX N vs) H):aV P w K mg base cz (k+1) f fd ps sp:=by
 obtain⟨oc,od,kV,doc,pm,an,cdv,ct,osl,rfl,lk,hcd⟩:=F.ex;refine Ab lk hcd S len fun A outer s H vs Q E hr hsp=>?_;obtain⟨t,h,q⟩:=hbody cdv A outer s H vs Q E hr hsp;exact⟨t,h.nox,q⟩
theorem dB.binds {x qual:Str}{st:Stmt}{f:Addr}{fd:FuncData}{ps:List Str}(F:dB K x qual st f fd)
  (h:∀ (kV doc pm:Value)(an:Option Addr)(cdv ct:Value)(us:List Value),us.length=ps.length->bindArgs (PySem.W.fnOf x qual (dR st) (cR st) (am st) .none kV doc pm an cdv ct) ⟨us,[]⟩=pure (ps.zip us)):dy K fd ps []:=by
 obtain⟨oc,od,kV,doc,pm,an,cdv,ct,osl,rfl,lk,hcd⟩:=F.ex;exact .all (h kV doc pm an cdv ct)
theorem xy {x qual:Str}{st:Stmt}{f:Addr}{oc:Value}{od an:Option Addr}{osl:Array (Option Value)}{kV doc pm cdv ct:Value}(l:K.lookup f=some ⟨oc,od,.func (PySem.W.fnOf x qual (dR st) (cR st) (am st) .none kV doc pm an cdv ct),osl⟩)
  (c:PySem.W.codeIn K cdv qual=true) (k:PySem.W.keepIn K (.ref f)=true):dB K x qual st f (PySem.W.fnOf x qual (dR st) (cR st) (am st) .none kV doc pm an cdv ct):=⟨⟨oc,od,kV,doc,pm,an,cdv,ct,osl,rfl,l,c⟩,k⟩
end
theorem c8 {A:Around}{k:Nat}(hr:bN k A):A.units+1<cLine:=FJ (Nat.add_le_add_left (by decide:1<=64) _) hr.units
theorem aS {n:Nat}(h:n<=1000):n<sizeLine:=FJ h (by decide)
section
variable {X:Cx}
theorem pv (i:Nat){x:Str}{pos:Pos}(hN:X.N[i]? = some x:=by rfl)(hv:CZ X.env.scope x:=by first | exact Or.inl rfl | exact Or.inr (Or.inl rfl) | exact Or.inr (Or.inr rfl))(hd:(x == ("__debug__" : Str))=false:=by decide)
  (hcd:(x == ("__classdict__" : Str))=false:=by decide):PE X (.Name x pos) (CA i):=A8 hN hv hd hcd
end
theorem aD {A B:Prop}(h:B):if false=true then A else B:=by
 rw[D7 Ed];exact h
theorem ba {A B:Prop}(h:A):if true=true then A else B:=by
 rw[D8 rfl];exact h
theorem tW {c A B:Prop} [Decidable c] (h1:c->A)(h2:¬ c->B):if c then A else B:=by
 by_cases h:c
 ·rw[D8 h]
  exact h1 h
 ·rw[D7 h]
  exact h2 h
def aE (H H':Hp):Prop:=∀ b o,H b=some o->H' b=some o
theorem aE.refl (H:Hp):aE H H:=fun _ _ h=>h
theorem aE.trans {H H1 H2:Hp}(a:aE H H1)(b:aE H1 H2):aE H H2:=fun c o h=>b c o (a c o h)
theorem aE.free {H H':Hp}(e:aE H H'){l:Addr}(h:H' l=Option.none):H l=Option.none:=by
 cases q:H l with
 | none=>rfl
 | some o =>
  rw[e l o q]at h;cases h
theorem aE.seq {K:PySem.W.Frag}{H H':Hp}{a:Addr}{xs:List V}(e:aE H H')(h:be K H a xs):be K H' a xs:=by
 rcases h with (h | ⟨o,h⟩) | h
 ·exact .inl (.inl (e _ _ h))
 ·exact .inl (.inr ⟨o,e _ _ h⟩)
 ·exact .inr h
section
variable {κ:Type} [DecidableEq κ]
theorem lM:∀ {l:List κ}{k:κ},l.Nodup->¬ k∈l->(l++[k]).Nodup
 | [],k,_,_=>by simp
 | a::r,k,h,hk=>by
  obtain⟨h1,h2⟩:=EI.mp h
  show (a::(r++[k])).Nodup
  refine EI.mpr ⟨fun m=>?_,lM h2 fun m=>hk (Eh.mpr (Or.inr m))⟩;rcases EA.mp m with q | q
  ·exact h1 q
  ·exact hk (Eh.mpr (Or.inl (Et.mp q).symm))
end
end L2
set_option maxHeartbeats 4000000
namespace L2
open PySem PySem.Spec PyProof.Rows
structure rk (so sc:Scope)(N N':List Str)(src:List (Option Nat)):Prop where
 kind:sc.kind=.function
 nocell:∀ y∈sc.names,y.2≠.cell
 loc:∀ y∈sc.names,y.2=.local->sc.names.lookup y.1=some .local
 fre:∀ y∈sc.names,y.2=.free->so.names.lookup y.1=some .cell\/so.names.lookup y.1=some .free
 nd:N'.Nodup
 len:src.length=N'.length
 cap:∀ p∈N'.zip src,(match p.2 with | none=>true | some j=>decide (N[j]? = some p.1/\sc.names.lookup p.1=some .free))=true
def g9 (src:List (Option Nat))(σ:St):St:=src.map fun o=>o.bind fun j=>(σ[j]?).join
def cw (X:Cx)(sc:Scope)(cl:List (Str×Addr))(C:Addr)(N':List Str)(s:Shared)(H:Hp)(ex:List Addr):Cx where
 prog:=X.prog
 w:=X.w
 K:=X.K
 mg:=X.mg
 base:=X.base
 A:=X.A
 N:=N'
 s₀:=s
 H₀:=H
 env:=compEnvC sc cl C X.env
 outer:=X.stack
 stack:=X.stack
 ex:=ex
 fn:=fun _=>false
 calm:=X.calm
 pn:=[]
 xe:=fun _ _=>False
theorem gf {env:Env}:∀ (names:List (Str×NameKind))(cs:List (Str×Addr)),(∀ y∈names,y.2=.free->∃ c,env.cells.lookup y.1=some c) ->
  (∀ x c,cs.lookup x=some c->env.cells.lookup x=some c) ->
  ∃ cl:List (Str×Addr),(forIn names cs fun x r=>if (x.2 == NameKind.free)=true then (do let a <-cellOf env x.1;pure (ForInStep.yield ((x.1,a)::r))) else pure (ForInStep.yield r):Sem (List (Str×Addr)))=pure cl /\
   (∀ x c,cl.lookup x=some c->env.cells.lookup x=some c)/\(∀ x,(∃ c,cs.lookup x=some c)->∃ c,cl.lookup x=some c)/\∀ y∈names,y.2=.free->∃ c,cl.lookup y.1=some c
 | [],cs,_,h2=>⟨cs,by rw[List.forIn_nil],h2,fun _ h=>h,fun _ h=>nomatch h⟩
 | (n,k)::r,cs,h1,h2=>by
  by_cases hk:k=.free
  ·subst hk
   obtain⟨c,hc⟩:=h1 (n,.free) Ec rfl
   have h2':∀ x d,((n,c)::cs).lookup x=some d->env.cells.lookup x=some d:=fun x d e=>by
    rw[EO]at e;split at e
    ·rename_i hx
     cases e
     have:x=n:=by simpa using hx
     rw[this];exact hc
    ·exact h2 x d e
   obtain⟨cl,e,q1,q2,q3⟩:=gf r ((n,c)::cs) (fun y hy=>h1 y (Eb _ hy)) h2';have has:∃ d,((n,c)::cs).lookup n=some d:=⟨c,by simp⟩;refine⟨cl,?_,q1,fun x ⟨d,hd⟩=>q2 x ?_,fun y hy hf=>?_⟩
   ·rw[List.forIn_cons,<-e]
    simp[cellOf,hc]
   ·rw[EO]
    split
    ·exact⟨_,rfl⟩
    ·exact⟨d,hd⟩
   ·rcases Eh.mp hy with rfl | hy
    ·exact q2 _ has
    ·exact q3 y hy hf
  ·obtain⟨cl,e,q1,q2,q3⟩:=gf r cs (fun y hy=>h1 y (Eb _ hy)) h2
   have hb:(k == NameKind.free)=false:=by simpa using hk
   refine⟨cl,?_,q1,q2,fun y hy hf=>?_⟩
   ·rw[List.forIn_cons,<-e]
    simp[hb]
   ·rcases Eh.mp hy with rfl | hy
    ·exact absurd hf hk
    ·exact q3 y hy hf
theorem ja {sc:Scope}{env:Env}(h:∀ y∈sc.names,y.2=.free->∃ c,env.cells.lookup y.1=some c) :
  ∃ cl:List (Str×Addr),closureFor sc env=pure cl/\(∀ x c,cl.lookup x=some c->env.cells.lookup x=some c)/\∀ y∈sc.names,y.2=.free->∃ c,cl.lookup y.1=some c:=by
 obtain⟨cl,e,q1,_,q3⟩:=gf sc.names [] h (fun x c z=>by simp at z);refine⟨cl,?_,q1,q3⟩;unfold closureFor
 show (forIn sc.names [] _ >>= fun cs=>pure cs)=_
 refine Eq.trans (E9 (fun t=>t >>= fun cs=>pure cs) (Eq.trans ?_ e)) (by simp)
 congr 1
theorem jJ {env:Env}:∀ {names:List (Str×NameKind)}{x:Str},(∀ y∈names,y.2≠.cell) ->
  ((names.map fun (n,k)=>if (k == NameKind.free&&env.scope.kind == .function&&env.kindOf n == some .cell) then (n,NameKind.cell) else (n,k)).lookup x=some .cell \/
    (names.map fun (n,k)=>if (k == NameKind.free&&env.scope.kind == .function&&env.kindOf n == some .cell) then (n,NameKind.cell) else (n,k)).lookup x=some .free)->(x,NameKind.free)∈names
 | [],_,_,h=>by simp at h
 | (n,k)::r,x,hc,h=>by
  have ih:=@jJ env r x (fun y hy=>hc y (Eb _ hy));have h:List.lookup x ((if (k == NameKind.free&&env.scope.kind == .function&&env.kindOf n == some .cell)=true then (n,NameKind.cell) else (n,k))::_)=some .cell\/List.lookup x ((if (k == NameKind.free&&env.scope.kind == .function&&env.kindOf n == some .cell)=true then (n,NameKind.cell) else (n,k))::_)=some .free:=h
  by_cases hb:(k == NameKind.free&&env.scope.kind == .function&&env.kindOf n == some .cell)=true
  ·rw[D8 hb]at h
   cases hx:x == n with
   | true =>
    have e:x=n:=by simpa using hx
    subst e
    have:k=NameKind.free:=by
     simp only[EN,FH]at hb;exact hb.1.1
    subst this;exact Ec
   | false =>
    simp only[EO,hx]at h;exact Eb _ (ih h)
  ·rw[D7 hb]at h
   cases hx:x == n with
   | true =>
    have e:x=n:=by simpa using hx
    subst e;have hk:=hc (x,k) Ec;simp only[EO,beq_self_eq_true,Option.some.injEq]at h;rcases h with h | h
    ·exact absurd h hk
    ·subst h;exact Ec
   | false =>
    simp only[EO,hx]at h;exact Eb _ (ih h)
theorem iY {env:Env}:∀ {names:List (Str×NameKind)}{x:Str},names.lookup x=some .free ->
  ((names.map fun (n,k)=>if (k == NameKind.free&&env.scope.kind == .function&&env.kindOf n == some .cell) then (n,NameKind.cell) else (n,k)).lookup x=some .cell \/
    (names.map fun (n,k)=>if (k == NameKind.free&&env.scope.kind == .function&&env.kindOf n == some .cell) then (n,NameKind.cell) else (n,k)).lookup x=some .free)
 | [],_,h=>by simp at h
 | (n,k)::r,x,h=>by
  have ih:=@iY env r x
  show List.lookup x ((if (k == NameKind.free&&env.scope.kind == .function&&env.kindOf n == some .cell)=true then (n,NameKind.cell) else (n,k))::_)=some .cell\/List.lookup x ((if (k == NameKind.free&&env.scope.kind == .function&&env.kindOf n == some .cell)=true then (n,NameKind.cell) else (n,k))::_)=some .free
  cases hx:x == n with
  | true =>
   simp only[EO,hx,Option.some.injEq]at h;subst h
   by_cases hb:(NameKind.free == NameKind.free&&env.scope.kind == .function&&env.kindOf n == some .cell)=true
   ·rw[D8 hb];left;simp only[EO,hx]
   ·rw[D7 hb];right;simp only[EO,hx]
  | false =>
   simp only[EO,hx]at h
   by_cases hb:(k == NameKind.free&&env.scope.kind == .function&&env.kindOf n == some .cell)=true
   ·rw[D8 hb];simp only[EO,hx];exact ih h
   ·rw[D7 hb];simp only[EO,hx];exact ih h
theorem dD {prog:Program}{w:World}{A:Around}{R:Result->Shared->Prop}{s:Shared}{elt target iter:Expr}{ifs:List Expr}{scope:Scope}{pos:Pos}{it acc:Value}{env:Env}(I:Nat->Shared->Prop)
  (turn:∀ n s,I n s->wpAny (model prog w) A (pyNext it) (fun r s₁=>match r with
   | none=>R (.ok .next) s₁
   | some v=>wpAny (model prog w) A (letOwnedTupleGo target it v) (fun _ s₁'=>wpAny (model prog w) A (assign target env v) (fun _ s₂ =>
     wpAny (model prog w) A (forIn ifs true fun c r=>if r=true then do let ok <-isTrue c env (eval c env);pure (ForInStep.yield ok) else pure (ForInStep.yield r)) (fun ok s₃ =>
      if ok=true then wpAny (model prog w) A (eval elt env) (fun x s₄ =>
       wpAny (model prog w) A (call (.builtin "list.append") [acc,x]) (fun _ s₅=>∃ m,m<n/\I m s₅) (fun _ _=>False) s₄) (fun _ _=>False) s₃
      else ∃ m,m<n/\I m s₃) (fun _ _=>False) s₂) (fun _ _=>False) s₁') (fun _ _=>False) s₁) (fun _ _=>False) s)
  (n:Nat) (h:I n s) :
  codeAny (model prog w) A (.compLoop (.ListComp elt [⟨target,iter,ifs,0⟩] scope pos) 0 it acc env) R s:=by
 refine codeAny_loop rfl I (fun n s hI=>?_) n h
 show wpAny _ A ((compTurn (.ListComp elt [⟨target,iter,ifs,0⟩] scope pos) 0 it acc env).onRaise (fun x=>do noteFrame x env;theTreesLotGoes x)) _ _ s
 refine wpAny_noted ?_;rw[compTurn_list];refine D5 (EU (D5 (Ew (turn n s hI) (fun r s₁ h₁=>?_) fun _ _ h'=>h'.elim)))
 cases r with
 | none=>exact Ea h₁
 | some v =>
  refine D5 (Ew h₁ (fun _ s₁' h₁'=>?_) fun _ _ h'=>h'.elim);refine D5 (Ew h₁' (fun _ s₂ h₂=>D5 (Ew h₂ (fun ok s₃ h₃=>?_) fun _ _ h'=>h'.elim)) fun _ _ h'=>h'.elim)
  cases ok with
  | false=>exact Ea ⟨rfl,h₃⟩
  | true =>
   exact D5 (D5 (Ew h₃ (fun x s₄ h₄=>D5 (Ew h₄ (fun _ s₅ h₅=>Ea (Ea ⟨rfl,h₅⟩)) fun _ _ h'=>h'.elim)) fun _ _ h'=>h'.elim))
def AC (X:Cx)(ifs:List Expr)(t:TT):Prop :=
 ∀ (pins:List (Addr×Obj))(s:Shared)(σ:St)(H:Hp)(Q:Bool->Hp->Prop),ar X pins σ H s->t σ H Q ->
  wpAny (model X.prog X.w) X.A (forIn ifs true fun c r=>if r=true then do let ok <-isTrue c X.env (eval c X.env);pure (ForInStep.yield ok) else pure (ForInStep.yield r)) (TP X pins σ Q) X.xe s
def uJ:TT:=fun _ H Q=>Q true H
theorem fb {X:Cx}:AC X [] uJ:=fun pins s σ H Q I h=>wpAny_tests_nil ⟨H,I,h⟩
theorem vp {X:Cx}{c:Expr}{t:TT}(h:PT X c t):AC X [c] t:=fun pins s σ H Q I hq=>wpAny_tests_one (h pins s σ H Q I hq)
def yP (tt:TT)(te:TE)(a:Addr):TS:=fun D σ H=>tt σ H fun b H1=>if b=true then te σ H1 fun y H2=>∃ ys,H2 a=some (.lst ys)/\ys.length<sizeLine/\D.nx σ (upd H2 a (.lst (ys++[y]))) else D.nx σ H1
def kT (J:It)(g:TG)(tb:TS)(D:fg)(σ:St)(H:Hp):Prop:=∃ W:Nat->Nat->St->Hp->Prop,(∃ m,W 0 m σ H)/\∀ i m σ H,W i m σ H ->
 (J.stop i H/\D.nx σ H)\/(J.go i H/\∃ N:St->Hp->Prop,(∀ σ' H',N σ' H'->∃ m',m'<m/\W (i+1) m' σ' H')/\∀ x H',J.yld i H x H'->g x σ H' fun σ2 H2=>tb { D with nx:=N,ct:=N,bk:=D.nx } σ2 H2)
def Cp (wi:TI)(g:TG)(tt:TT)(te:TE)(src:List (Option Nat)):TE:=fun σ H Q=>wi σ H fun J H1=>∀ a,H1 a=none ->
 kT J g (yP tt te a) { nx:=fun _ H'=>Q (.ref a) H',rt:=fun _ _=>False } (g9 src σ) (upd H1 a (.lst []))
theorem mJ {X:Cx}{pins:List (Addr×Obj)}{σ:St}{H:Hp}{s:Shared}{sc so:Scope}{N':List Str}{src:List (Option Nat)}{cl:List (Str×Addr)}{fp:List Addr}{h':Heap}
  (I:ar X pins σ H s) (hso:X.env.scope=so) (S:rk so sc X.N N' src) (q1:∀ x c,cl.lookup x=some c->X.env.cells.lookup x=some c) (q3:∀ y∈sc.names,y.2=.free->∃ c,cl.lookup y.1=some c)
  (hf:∀ b∈fp,fh X pins H b) (hlt:∀ b∈fp,b<s.heap.objs.size) (hns:h'.Ns s.heap.objs.size fun _=>none) (hk:∀ b o,s.heap.get? b=some o->h'.get? b=some o) (tk:Nat) :
  ar (cw X sc cl s.heap.objs.size N' s H fp) [] (g9 src σ) H { s with heap:=h',toks:=tk }:=by
 have hb:∀ b∈fp,b≠s.heap.objs.size/\∀ x c,cl.lookup x=some c->c≠b:=fun b z=>⟨Em (hlt b z),fun x c e=>(hf b z).2.2.2.2.1 x c (q1 x c e)⟩
 refine⟨⟨I.ok.mod,?_,I.ok.glob,I.ok.blt,D9 _,fun x y c h1 h2=>I.ok.inj x y c (q1 _ _ h1) (q1 _ _ h2),fun x hx=>?_,fun x c hx _=>(by cases hx),I.ok.hd,I.ok.frames,.inl rfl,hb,I.bs,EC I.ok.bsz I.sz,fun b o e z=>?_,fun b z hz=>?_,I.stack,I.stkFree⟩,
  rfl,I.bare,Un.kept hk,⟨_,hns,fun i x v h1 h2 h3=>?_⟩,fun x c e=>?_,I.hok.fresh (D9 _),fun x c e=>I.freeC x c (q1 x c e),fun p hp=>absurd (show p∈([]:List (Addr×Obj)) from hp) (by simp),I.hok.kept hk,?_⟩
 ·show (relabel sc X.env).kind=_
  exact S.kind
 ·have hx':(x,NameKind.free)∈sc.names:=jJ S.nocell hx
  exact q3 _ hx' rfl
 ·rcases (hf b z).2.2.2.1 with y | y
  ·exact I.ok.noex b o e y
  ·exact absurd (Ep (Eg e) (EC I.ok.bsz y)) (Nat.lt_irrefl _)
 ·rcases Eh.mp (I.stkSub b hz) with y | y
  ·exact (hf b z).2.1 y
  ·exact (hf b z).2.2.1 y
 ·-- the captured names
  have h1':N'[i]? = some x:=h1;have h2':(g9 src σ)[i]? = some (some v):=h2;unfold g9 at h2';rw[List.getElem?_map]at h2'
  cases hs:src[i]? with
  | none=>rw[hs]at h2';cases h2'
  | some o =>
   rw[hs]at h2';have h2'':(o.bind fun j=>(σ[j]?).join)=some v:=Ef h2'
   cases o with
   | none=>cases h2''
   | some j =>
    have hj:(σ[j]?).join=some v:=h2''
    have hσ:σ[j]? = some (some v):=by
     cases e:σ[j]? with
     | none=>rw[e]at hj;cases hj
     | some z=>rw[e]at hj;rw[show z=some v from hj]
    have hzip:(x,some j)∈N'.zip src:=by
     have:(N'.zip src)[i]? = some (x,some j):=by
      rw[List.getElem?_zip_eq_some];exact⟨h1',hs⟩
     exact EB this
    have hc:=ER (S.cap _ hzip);obtain⟨hN,hfr⟩:X.N[j]? = some x/\sc.names.lookup x=some .free:=hc;have hmem:(x,NameKind.free)∈sc.names:=Fv hfr;have hvis:=S.fre _ hmem rfl;rw[<-hso]at hvis;obtain⟨m,hn,hl⟩:=I.loc;obtain⟨u,ru,lk⟩:=hl j x v hN hσ (.inr hvis);refine⟨u,ru,.inr ⟨iY hfr,?_⟩⟩;obtain⟨c,hcl⟩:=q3 _ hmem rfl;refine⟨c,hcl,?_⟩;rcases lk with ⟨k,_⟩ | ⟨_,c',e',z⟩
    ·have k:X.env.scope.names.lookup x=some .local:=k
     rcases hvis with y | y<;>(rw[k]at y;cases y)
    ·have:=q1 x c hcl
     rw[e']at this;cases this;obtain⟨ob,e1,e2⟩:=z;exact⟨ob,hk _ _ e1,e2⟩
 ·obtain⟨v,ob,e1,e2⟩:=I.cell x c (q1 x c e)
  exact⟨v,ob,hk _ _ e1,e2⟩
 ·show (g9 src σ).length=N'.length
  unfold g9;rw[D6];exact S.len
theorem gX {X:Cx}{pins:List (Addr×Obj)}{σ:St}{H:Hp}{s:Shared}{l:Addr}{xs:List V}{y:V}{u:Value}{E:Value->Shared->Prop}(I:ar X pins σ H s)(hH:H l=some (.lst xs))(hz:xs.length<sizeLine)(ru:aI y u) :
  wpAny (model X.prog X.w) X.A (call (.builtin "list.append") [.ref l,u]) (fun _ s'=>ar X pins σ (upd H l (.lst (xs++[y]))) s') E s:=by
 obtain⟨z,its,n,r,hl,e⟩:=I.lstM hH;refine call_meets F.slot_list_append ⟨_,e,rfl⟩ F.entry_list_append (F.args_list_append_2 _ _) (PySem.list_append l its.toArray n u (by rw[Ek];omega)) ⟨e,?_⟩;refine I.lset (its':=its++[u]) hH e (by simp) (r.append (.cons ru .nil)) ?_;rw[El,EG];omega
theorem lO {X:Cx}{elt tg iter:Expr}{ifs:List Expr}{sc so:Scope}{pos:Pos}{N':List Str}{src:List (Option Nat)}{wi:TI}{g:TG}{tt:TT}{te:TE}{N:List Str}(hso:X.env.scope=so)(hXN:X.N=N)(S:rk so sc N N' src)(hc:X.calm=true)(hi:PI X tg iter wi)
  (hb:∀ (cl:List (Str×Addr))(C:Addr)(s:Shared)(H:Hp)(ex:List Addr),PG (cw X sc cl C N' s H ex) tg g/\AC (cw X sc cl C N' s H ex) ifs tt/\PE (cw X sc cl C N' s H ex) elt te)
  (hs:∀ x,foldedSetIterable iter X.env x=pure x:=by intro _;rfl):PE X (.ListComp elt [⟨tg,iter,ifs,0⟩] sc pos) (Cp wi g tt te src):=by
 subst hXN;intro pins s σ H Q I h
 obtain⟨cl,hcl,q1,q3⟩:=ja (sc:=sc) (env:=X.env) fun y hy hf=>by
  have:=S.fre y hy hf;rw[<-hso]at this;exact I.ok.has y.1 this
 rw[eval_ListComp];refine wpAny_comprehension_free (use:=none) rfl hs hcl S.kind S.loc (aU (hi pins s σ H _ I h) fun v s1 h1=>aU h1 fun itv s2 h2=>?_);obtain⟨it,fp,tn,J,H2,e,I2,T,st2,f2,hR⟩:=h2;subst e;refine EL ?_
 have I3:ar X pins σ (upd H2 s2.heap.objs.size (.lst [])) { s2 with heap:=s2.heap.push { cls:=.type "list",dict:=none,data:=.seq ([]:List Value).toArray } } :=
  I2.laid (t':=s2.toks) (fun b u q=>Heap.get?_push_of_some _ q) (D9 _) ⟨Ey _,[],0,.nil,Heap.get?_push_size _ rfl⟩
 have hfr:=I2.hok.fresh (D9 s2.heap.objs.size);obtain⟨W,⟨m0,w0⟩,turn⟩:=hR _ hfr
 have flt:∀ b∈fp,b<s2.heap.objs.size:=fun b hb=>by obtain⟨o,e,_⟩:=T.obj _ _ st2 b hb;exact Eg e
 generalize hs3:({ s2 with heap:=s2.heap.push { cls:=.type "list",dict:=none,data:=.seq ([]:List Value).toArray } }:Shared)=s3 at I3 ⊢
 have e3:s3.heap=s2.heap.push { cls:=.type "list",dict:=none,data:=.seq ([]:List Value).toArray }:=by rw[<-hs3]
 have sz3:s3.heap.objs.size=s2.heap.objs.size+1:=by rw[e3,FD]
 have hf3:∀ b∈fp,fh X pins (upd H2 s2.heap.objs.size (.lst [])) b:=fun b hb=>⟨by rw[ae (Em (flt b hb))];exact (f2 b hb).1,(f2 b hb).2⟩
 have flt3:∀ b∈fp,b<s3.heap.objs.size:=fun b hb=>by rw[sz3];exact Ft (flt b hb)
 have st3:tn 0 s3.heap:=T.keep _ _ _ st2 fun b _ o e=>by rw[e3];exact Heap.get?_push_of_some _ e
 refine wpAny_newFunctionEnv S.nocell (by intro y hy;simp at hy) (fun h4 hns4 hsb4=>?_) S.kind;have kp4:∀ b o,s3.heap.get? b=some o->h4.get? b=some o:=fun b o e=>hsb4.extBut b o (Em (Eg e)) (Heap.get?_push_of_some _ e);have I4:=mJ (h':=h4) I3 hso S q1 q3 hf3 flt3 (by simpa using hns4) kp4 (s3.toks+([]:List (Str×Value)).length);have st4:tn 0 h4:=T.keep _ _ _ st3 fun b _ o e=>kp4 b o e;generalize hC:s3.heap.objs.size=C at I4 hns4 hsb4 ⊢;obtain⟨hg,ht,he⟩:=hb cl C s3 (upd H2 s2.heap.objs.size (.lst [])) fp
 let Y:Cx:=cw X sc cl C N' s3 (upd H2 s2.heap.objs.size (.lst [])) fp
 have loop:∀ s5:Shared,s5={ s3 with heap:=h4,toks:=s3.toks+([]:List (Str×Value)).length }->codeAny (model X.prog X.w) X.A (.compLoop (.ListComp elt [⟨tg,iter,ifs,0⟩] sc pos) 0 (.ref it) (.ref s2.heap.objs.size) (compEnvC sc cl C X.env))
   (compPost (model X.prog X.w) X.A X.xe none (EP X pins σ Q) (.ref s2.heap.objs.size) C) s5:=by
  rintro s5 rfl
  have stat:∀ {H':Hp},(∀ b∈fp,H' b=none)->∀ b∈fp,fh Y [] H' b:=fun {H'} hn b hb=>by
   obtain⟨f0,f1,f2',f3,f4,f5⟩:=hf3 b hb;refine⟨hn b hb,?_,fun z=>?_,.inl hb,fun x c e=>f4 x c (q1 x c e),fun p hp=>absurd (show p∈([]:List (Addr×Obj)) from hp) (by simp)⟩
   ·show b≠C
    rw[<-hC];exact Em (flt3 b hb)
   ·have z:b∈hG X.stack:=z
    rcases Eh.mp (I3.stkSub b z) with y | y
    ·exact f1 y
    ·exact f2' y
  refine dD (fun n s'=>∃ i σ' H',ar Y [] σ' H' s'/\tn i s'.heap/\(∀ b∈fp,H' b=none)/\W i n σ' H') ?_ m0 ⟨0,_,_,I4,st4,fun b hb=>(hf3 b hb).1,w0⟩;rintro n s6 ⟨i,σ6,H6,I6,st6,fr6,w6⟩;rcases turn i n σ6 H6 w6 with ⟨stop,qn⟩ | ⟨go,Nx,hN,step⟩
  ·refine aU (T.done Y rfl rfl rfl hc i [] s6 σ6 H6 _ I6 (stat fr6) st6 stop) fun r s7 ⟨hr,I7⟩=>?_
   subst hr;obtain⟨m,hn,_⟩:=id I7.loc;refine⟨m,hn,fun h' hsb=>?_⟩
   have neC:∀ b o,s3.heap.get? b=some o->b≠C:=fun b o e=>by rw[<-hC];exact Em (Eg e)
   have freeC:H6 C=none:=I7.free
   have un:Un (hG X.stack) fp (upd H2 s2.heap.objs.size (.lst [])) H6 s3.heap h' :=
    ⟨fun b o e n hb hx=>(hsb.2 b (neC b o e)).trans (I7.base.keep b o e n hb hx),fun b o e n hb hx=>by
      obtain⟨sl,q⟩:=I7.base.slot b o e n hb hx
      exact⟨sl,(hsb.2 b (neC b o e)).trans q⟩,I7.base.free,fun b o e hx=>by
      obtain⟨o',q⟩:=I7.base.there b o e hx
      exact⟨o',(hsb.2 b (neC b o e)).trans q⟩,I7.base.tups,I7.base.frzs,I7.base.tbls⟩
   have hok:gO X.prog X.w H6 h':=fun b ob e=>by
    refine (I7.hok b ob e).stay (fun c w' hc' q=>(hsb.2 c ?_).trans q) (fun _ q=>q) fun _ _ q=>q;rintro rfl;rcases hc' with z | z
    ·rw[<-z,freeC]at e;cases e
    ·rw[freeC]at z;cases z
   have J7:ar X pins σ H6 { s7 with heap:=h' }:=I3.call' (ch:=fp) (s':={ s7 with heap:=h' }) I7.os un hok I7.bare fun b hb=>⟨(hf3 b hb).2.2.2.1,(hf3 b hb).2.1,(hf3 b hb).2.2.2.2.1,(hf3 b hb).2.2.2.2.2⟩;exact⟨.ref s2.heap.objs.size,H6,J7,rfl,qn⟩
  ·refine aU (T.item Y rfl rfl rfl hc i [] s6 σ6 H6 _ I6 (stat fr6) st6 go) fun r s7 ⟨u,hr,h7⟩=>?_
   subst hr;refine aU h7 fun _ s8 ⟨x,H8,I8,r8,y8,st8,fr8⟩=>?_;have I8':=I8.pinned (stat fr8) (T.obj _ _ st8);refine aU (hg _ s8 σ6 H8 x u _ I8' r8 (step x H8 y8)) fun _ s9 ⟨σ9,H9,I9,q9⟩=>?_
   have again:∀ {s':Shared}{σ7:St}{H7:Hp},ar Y ([]++ig fp s8.heap) σ7 H7 s'->Nx σ7 H7->∃ m,m<n/\∃ i σ' H',ar Y [] σ' H' s'/\tn i s'.heap/\(∀ b∈fp,H' b=none)/\W i m σ' H':=fun {s' σ7 H7} I7 n7=>by
    obtain⟨m',hm,w7⟩:=hN σ7 H7 n7;refine⟨m',hm,i+1,σ7,H7,I7.unpinned,T.keep _ _ _ st8 fun b hb o e=>(I7.pin (b,o) (En _ (En _ (bJ hb e)))).1,fun b hb=>?_,w7⟩;obtain⟨o,e,d⟩:=T.obj _ _ st8 b hb;exact (I7.pin (b,o) (En _ (En _ (bJ hb e)))).2.1
   refine aU (ht _ s9 σ9 H9 _ I9 q9) fun ok s10 ⟨H10,I10,q10⟩=>?_
   cases ok with
   | false =>
    rw[D7 Ed]at q10 ⊢;exact again I10 q10
   | true =>
    rw[D8 rfl]at q10 ⊢;refine aU (he _ s10 σ9 H10 _ I10 q10) fun y s11 ⟨yv,H11,I11,ry,ys,hys,hlen,q11⟩=>?_;exact aU (gX (X:=Y) I11 hys hlen ry) fun _ s12 I12=>again I12 q11
 exact codeAny_compStart_list (loop _ rfl) (T.self _ 0 _ _ _ st4 (loop _ rfl))
def Bm (wi:TI)(g:TG)(tt:TT)(te:TE)(src:List (Option Nat))(i:Nat):TS:=fun D σ H=>wi σ H fun J H1=>∀ a,H1 a=none ->
 kT J g (yP tt te a) { nx:=fun _ H'=>D.nx (σ.set i (some (.ref a))) H',rt:=fun _ _=>False } (g9 src σ) (upd H1 a (.lst []))
theorem lQ {X:Cx}{ix:Nat}{x:Str}{px spos:Pos}{elt tg iter:Expr}{ifs:List Expr}{sc so:Scope}{pos:Pos}{N':List Str}{src:List (Option Nat)}{wi:TI}{g:TG}{tt:TT}{te:TE}{N:List Str}(hso:X.env.scope=so)(hXN:X.N=N)(S:rk so sc N N' src)(hc:X.calm=true)(hi:PI X tg iter wi)
  (hb:∀ (cl:List (Str×Addr))(C:Addr)(s:Shared)(H:Hp)(ex:List Addr),PG (cw X sc cl C N' s H ex) tg g/\AC (cw X sc cl C N' s H ex) ifs tt/\PE (cw X sc cl C N' s H ex) elt te)
  (hnd:X.N.Nodup) (hix:X.N[ix]? = some x) (hx:X.env.scope.names.lookup x=some .local)
  (hsw:swapsWith (.ListComp elt [⟨tg,iter,ifs,0⟩] sc pos) (some (.Name x px)) spos.line X.env=pure true:=by rfl)
  (hs:∀ x,foldedSetIterable iter X.env x=pure x:=by intro _;rfl):PS X (.Assign [.Name x px] (.ListComp elt [⟨tg,iter,ifs,0⟩] sc pos) spos) (Bm wi g tt te src ix):=by
 subst hXN;intro pins s σ H D I h
 obtain⟨cl,hcl,q1,q3⟩:=ja (sc:=sc) (env:=X.env) fun y hy hf=>by
  have:=S.fre y hy hf;rw[<-hso]at this;exact I.ok.has y.1 this
 rw[exec_Assign_Name_used _ _ _ _ hsw];refine D5 (EU (D5 ?_))
 show wpAny _ X.A (do let _ <-comprehension (.ListComp elt [⟨tg,iter,ifs,0⟩] sc pos) sc X.env _ (newList []) false (eval iter X.env) (some (assign (.Name x px) X.env))) _ _ s
 refine D5 (Ew (wpAny_comprehension_free (use:=some (assign (.Name x px) X.env)) (Q:=fun _ s'=>SP X pins D .next s') rfl hs hcl S.kind S.loc (aU (hi pins s σ H _ I h) fun v s1 h1=>aU h1 fun itv s2 h2=>?_)) (fun _ s' hq=>Ea (Ea hq)) fun _ _ e=>e);obtain⟨it,fp,tn,J,H2,e,I2,T,st2,f2,hR⟩:=h2;subst e;refine EL ?_
 have I3:ar X pins σ (upd H2 s2.heap.objs.size (.lst [])) { s2 with heap:=s2.heap.push { cls:=.type "list",dict:=none,data:=.seq ([]:List Value).toArray } } :=
  I2.laid (t':=s2.toks) (fun b u q=>Heap.get?_push_of_some _ q) (D9 _) ⟨Ey _,[],0,.nil,Heap.get?_push_size _ rfl⟩
 have hfr:=I2.hok.fresh (D9 s2.heap.objs.size);obtain⟨W,⟨m0,w0⟩,turn⟩:=hR _ hfr
 have flt:∀ b∈fp,b<s2.heap.objs.size:=fun b hb=>by obtain⟨o,e,_⟩:=T.obj _ _ st2 b hb;exact Eg e
 generalize hs3:({ s2 with heap:=s2.heap.push { cls:=.type "list",dict:=none,data:=.seq ([]:List Value).toArray } }:Shared)=s3 at I3 ⊢
 have e3:s3.heap=s2.heap.push { cls:=.type "list",dict:=none,data:=.seq ([]:List Value).toArray }:=by rw[<-hs3]
 have sz3:s3.heap.objs.size=s2.heap.objs.size+1:=by rw[e3,FD]
 have hf3:∀ b∈fp,fh X pins (upd H2 s2.heap.objs.size (.lst [])) b:=fun b hb=>⟨by rw[ae (Em (flt b hb))];exact (f2 b hb).1,(f2 b hb).2⟩
 have flt3:∀ b∈fp,b<s3.heap.objs.size:=fun b hb=>by rw[sz3];exact Ft (flt b hb)
 have st3:tn 0 s3.heap:=T.keep _ _ _ st2 fun b _ o e=>by rw[e3];exact Heap.get?_push_of_some _ e
 refine wpAny_newFunctionEnv S.nocell (by intro y hy;simp at hy) (fun h4 hns4 hsb4=>?_) S.kind;have kp4:∀ b o,s3.heap.get? b=some o->h4.get? b=some o:=fun b o e=>hsb4.extBut b o (Em (Eg e)) (Heap.get?_push_of_some _ e);have I4:=mJ (h':=h4) I3 hso S q1 q3 hf3 flt3 (by simpa using hns4) kp4 (s3.toks+([]:List (Str×Value)).length);have st4:tn 0 h4:=T.keep _ _ _ st3 fun b _ o e=>kp4 b o e;generalize hC:s3.heap.objs.size=C at I4 hns4 hsb4 ⊢;obtain⟨hg,ht,he⟩:=hb cl C s3 (upd H2 s2.heap.objs.size (.lst [])) fp
 let Y:Cx:=cw X sc cl C N' s3 (upd H2 s2.heap.objs.size (.lst [])) fp
 have loop:∀ s5:Shared,s5={ s3 with heap:=h4,toks:=s3.toks+([]:List (Str×Value)).length }->codeAny (model X.prog X.w) X.A (.compLoop (.ListComp elt [⟨tg,iter,ifs,0⟩] sc pos) 0 (.ref it) (.ref s2.heap.objs.size) (compEnvC sc cl C X.env))
   (compPost (model X.prog X.w) X.A X.xe (some (assign (.Name x px) X.env)) (fun _ s'=>SP X pins D .next s') (.ref s2.heap.objs.size) C) s5:=by
  rintro s5 rfl
  have stat:∀ {H':Hp},(∀ b∈fp,H' b=none)->∀ b∈fp,fh Y [] H' b:=fun {H'} hn b hb=>by
   obtain⟨f0,f1,f2',f3,f4,f5⟩:=hf3 b hb;refine⟨hn b hb,?_,fun z=>?_,.inl hb,fun x c e=>f4 x c (q1 x c e),fun p hp=>absurd (show p∈([]:List (Addr×Obj)) from hp) (by simp)⟩
   ·show b≠C
    rw[<-hC];exact Em (flt3 b hb)
   ·have z:b∈hG X.stack:=z
    rcases Eh.mp (I3.stkSub b z) with y | y
    ·exact f1 y
    ·exact f2' y
  refine dD (fun n s'=>∃ i σ' H',ar Y [] σ' H' s'/\tn i s'.heap/\(∀ b∈fp,H' b=none)/\W i n σ' H') ?_ m0 ⟨0,_,_,I4,st4,fun b hb=>(hf3 b hb).1,w0⟩;rintro n s6 ⟨i,σ6,H6,I6,st6,fr6,w6⟩;rcases turn i n σ6 H6 w6 with ⟨stop,qn⟩ | ⟨go,Nx,hN,step⟩
  ·refine aU (T.done Y rfl rfl rfl hc i [] s6 σ6 H6 _ I6 (stat fr6) st6 stop) fun r s7 ⟨hr,I7⟩=>?_
   subst hr;obtain⟨m,hn,_⟩:=id I7.loc;have freeC:H6 C=none:=I7.free;have J7:ar X pins σ H6 s7:=I3.call' (ch:=fp) (s':=s7) I7.os I7.base I7.hok I7.bare fun b hb=>⟨(hf3 b hb).2.2.2.1,(hf3 b hb).2.1,(hf3 b hb).2.2.2.2.1,(hf3 b hb).2.2.2.2.2⟩
   have hC3:∀ b o,s3.heap.get? b=some o->b≠C:=fun b o e=>by rw[<-hC];exact Em (Eg e)
   have hlC:X.env.locals≠C:=by obtain⟨m3,⟨o3,_,_,e3',_⟩,_⟩:=I3.loc;exact hC3 _ _ e3'
   have hcC:∀ y c,X.env.cells.lookup y=some c->c≠C:=fun y c e=>by obtain⟨v3,o3,e3',_⟩:=I3.cell y c e;exact hC3 _ _ e3'
   have hpC:∀ p∈X.pn++pins,p.1≠C:=fun p hp=>hC3 _ _ (I3.pin p hp).1;refine wpAny_assign_Name (pO (i:=ix) (v:=.ref s2.heap.objs.size) J7 hnd hix (.inl hx) rfl (fun s8 I8 ⟨a8,sb8,ha8⟩=>?_) (.inr hx))
   have ha8C:C≠a8:=by
    rcases ha8 with z | z
    ·rw[z];exact Eo hlC
    ·exact Eo (hcC _ _ z)
   refine⟨m,hn.sameBut sb8 ha8C,fun h' hsb=>?_⟩
   have I9:ar X pins (σ.set ix (some (.ref s2.heap.objs.size))) H6 { s8 with heap:=h' } :=
    I8.turned (it:=C) (t':=s8.toks) (fun b o hb e=>(hsb.2 b hb).trans e) freeC (Eo hlC) (.inr (by rw[<-hC];exact I3.sz)) hcC hpC
   exact⟨_,H6,I9,qn⟩
  ·refine aU (T.item Y rfl rfl rfl hc i [] s6 σ6 H6 _ I6 (stat fr6) st6 go) fun r s7 ⟨u,hr,h7⟩=>?_
   subst hr;refine aU h7 fun _ s8 ⟨x,H8,I8,r8,y8,st8,fr8⟩=>?_;have I8':=I8.pinned (stat fr8) (T.obj _ _ st8);refine aU (hg _ s8 σ6 H8 x u _ I8' r8 (step x H8 y8)) fun _ s9 ⟨σ9,H9,I9,q9⟩=>?_
   have again:∀ {s':Shared}{σ7:St}{H7:Hp},ar Y ([]++ig fp s8.heap) σ7 H7 s'->Nx σ7 H7->∃ m,m<n/\∃ i σ' H',ar Y [] σ' H' s'/\tn i s'.heap/\(∀ b∈fp,H' b=none)/\W i m σ' H':=fun {s' σ7 H7} I7 n7=>by
    obtain⟨m',hm,w7⟩:=hN σ7 H7 n7;refine⟨m',hm,i+1,σ7,H7,I7.unpinned,T.keep _ _ _ st8 fun b hb o e=>(I7.pin (b,o) (En _ (En _ (bJ hb e)))).1,fun b hb=>?_,w7⟩;obtain⟨o,e,d⟩:=T.obj _ _ st8 b hb;exact (I7.pin (b,o) (En _ (En _ (bJ hb e)))).2.1
   refine aU (ht _ s9 σ9 H9 _ I9 q9) fun ok s10 ⟨H10,I10,q10⟩=>?_
   cases ok with
   | false =>
    rw[D7 Ed]at q10 ⊢;exact again I10 q10
   | true =>
    rw[D8 rfl]at q10 ⊢;refine aU (he _ s10 σ9 H10 _ I10 q10) fun y s11 ⟨yv,H11,I11,ry,ys,hys,hlen,q11⟩=>?_;exact aU (gX (X:=Y) I11 hys hlen ry) fun _ s12 I12=>again I12 q11
 exact codeAny_compStart_list (loop _ rfl) (T.self _ 0 _ _ _ st4 (loop _ rfl))
section
variable {X:Cx}
def BD (i j:Int):Prop:=0<j/\j<1152921504606846976
theorem xU:js X (binaryOp .FloorDiv) (rI BD fun i j=>.int (i/j)):=Ca fun i j _ _ _ _ _ hc q=>by
 have h1:(0:Int)<j:=hc.1;have h2:j<1152921504606846976:=hc.2;refine floordiv_int (by omega) (by rw[Int.fdiv_eq_ediv_of_nonneg i (by omega)];exact q) (.inl (PyProof.noPylong_of_log2 ?_))
 have h0:j.natAbs≠0:=by omega
 have:j.natAbs.log2<60:=(Nat.log2_lt h0).mpr (by omega);omega
theorem sR {A:Around}{bs:List Bool}{its:List Value}(r:aL (bs.map V.bl) its) :
  TruthOf X.prog X.w A (fun i v=>its.toArray[i]? = some v) (fun i=>bs.getD i false):=by
 intro i v s Q E hv hq
 have hv':its[i]? = some v:=by simpa using hv
 have hi:i<its.length:=(List.getElem?_eq_some_iff.mp hv').1;have hl:=r.length;rw[D6]at hl;obtain⟨u,hu,ru⟩:=r.get (i:=i) (x:=V.bl (bs[i]'(by omega))) (by rw[List.getElem?_map,List.getElem?_eq_getElem (by omega)];rfl);rw[hv']at hu;cases hu;cases ru
 have e:bs.getD i false=bs[i]'(by omega):=by simp[List.getD,List.getElem?_eq_getElem (show i<bs.length by omega)]
 have hq':Q (bs.getD i false) s:=hq;rw[e]at hq';exact Fe hq'
theorem wF (bs:List Bool):(List.range bs.length).all (fun i=>bs.getD i false)=bs.all id:=by
 have h:(List.range bs.length).map (fun i=>bs.getD i false)=bs:=by
  apply List.ext_getElem
  ·simp
  ·intro i h1 h2;simp[List.getD,List.getElem?_eq_getElem h2]
 have e:(List.range bs.length).all (fun i=>bs.getD i false)=((List.range bs.length).map (fun i=>bs.getD i false)).all id:=by rw[List.all_map];rfl
 rw[e,h]
theorem wg {pins:List (Addr×Obj)}{σ:St}{H:Hp}{s:Shared}{A:Around}{E:Value->Shared->Prop}{p:Addr}{xs:List V}{its:List Value}{R:Value->Shared->Prop}(I:ar X pins σ H s)(hA:A.handled=none)(pl:PlainL s.heap p its.toArray)
  (h:∀ (I':Addr)(St:Nat->Heap->Prop)(s2:Shared),s2.heap.objs.size=s.heap.objs.size+1->I'=s.heap.objs.size->Walks X.prog X.w A I' [I',p] [I'] its.length (fun i v=>its.toArray[i]? = some v) St->St 0 s2.heap->(∀ b o,s.heap.get? b=some o->s2.heap.get? b=some o)->(∀ h' tk,(∀ b o,b∉[I']->s2.heap.get? b=some o->h'.get? b=some o)->ar X pins σ H { s2 with heap:=h',toks:=tk })->R (.ref I') s2) :
  wpAny (model X.prog X.w) A (pyIter (.ref p)) R E s:=by
 refine FM pl.isList ?_
 have hlt:p<s.heap.objs.size:=by obtain⟨o,n,e,_⟩:=pl;exact Eg e
 have W:=Walks.list (prog:=X.prog) (w:=X.w) hA s.heap.objs.size p (Em hlt) its.toArray;rw[Ek]at W;refine h _ _ _ (by rw[FD]) rfl W ⟨⟨_,Heap.get?_push_size _ rfl,rfl,rfl⟩,pl.isList.at fun o e=>Heap.get?_push_of_some _ e⟩ (fun b o e=>Heap.get?_push_of_some _ e) fun h' tk kp=>?_;exact I.kept (t':=tk) fun b o e=>kp b o (by simpa using Em (Eg e)) (Heap.get?_push_of_some _ e)
theorem vO (hc:X.calm=true):gF X (.builtin "all") (fun xs H Q=>∃ (p:Addr)(bs:List Bool),xs=[.ref p]/\be X.K H p (bs.map V.bl)/\Q (.bl (bs.all id)) H):=by
 intro pins s σ H xs us Q I r h;obtain⟨p,bs,rfl,hq,q⟩:=h;obtain⟨u,rfl,rx⟩:=eO r;cases rx;obtain⟨its,rv,pl,hz⟩:=I.list hq;have hl:=rv.length;rw[D6]at hl;refine call_all_walk (wg (xs:=bs.map V.bl) I (I.ok.hd hc) pl fun I' St s2 hs2 hI W st kp fin=>?_);refine⟨I',_,_,_,_,St,_,rfl,W,st,sR rv,fun h' tk k=>⟨.bl _,H,fin h' tk k,rfl,?_⟩⟩;rw[<-hl,wF];exact q
theorem jw:∀ {ns:List Int}{us:List Value},aL (ns.map V.int) us->IntsAre us ns
 | [],_,r=>by cases r;exact IntsAre.nil
 | n::ns,_,r=>by
  cases r with
  | cons r t=>obtain⟨tk,rfl⟩:=r;exact IntsAre.cons _ _ (jw t)
theorem rh:∀ {ns:List Int}{us:List Value},IntsAre us ns->aL (ns.map V.int) us:=by
 intro ns
 induction ns with
 | nil=>intro us h;cases h;exact .nil
 | cons n ns ih =>
  intro us h
  cases h with
  | cons _ _ t=>exact .cons ⟨_,rfl⟩ (ih t)
def bB:List Int->List Int:=fun l=>l.mergeSort (fun a b=>decide (a<=b))
theorem sL {l m:List Int}(hp:m.Perm l)(hs:m.Pairwise (·<=·)):m=bB l:=by
 have h1:(bB l).Pairwise (fun a b=>decide (a<=b)=true):=List.pairwise_mergeSort (by intro a b c;simp;omega) (by intro a b;simp;omega) l;have h2:(bB l).Pairwise (·<=·):=h1.imp (by simp);have h3:m.Perm (bB l):=hp.trans (List.mergeSort_perm l _).symm;exact h3.eq_of_pairwise (fun a b _ _ h1 h2=>Int.le_antisymm h1 h2) hs h2
theorem vI:∀ {xs:List V}{us:List Value},xs.length=us.length->(∀ (i:Nat) x u,xs[i]? = some x->us[i]? = some u->aI x u)->aL xs us
 | [],[],_,_=>.nil
 | x::xs,u::us,hl,h=>.cons (h 0 x u rfl rfl) (vI (by simpa using hl) fun i y v e1 e2=>h (i+1) y v (by simpa using e1) (by simpa using e2))
 | [],_::_,hl,_=>by simp at hl
 | _::_,[],hl,_=>by simp at hl
theorem dQ (hc:X.calm=true):gF X (.builtin "sorted") (fun xs H Q=>∃ (p:Addr)(kvs:List (bK×V))(ns:List Int),xs=[.ref p]/\H p=some (.dK kvs)/\kvs.map (·.1)=ns.map Sum.inl/\ns.length<64/\∀ l,H l=none->Q (.ref l) (upd H l (.lst ((bB ns).map V.int)))):=by
 intro pins s σ H xs us Q I r h;obtain⟨p,kvs,ns,rfl,hH,hk,h64,q⟩:=h;obtain⟨u,rfl,rx⟩:=eO r;cases rx;obtain⟨hz,lo,vs,rel,dd⟩:=(show aT X.prog X.w H s.heap p (.dK kvs) from I.hok p _ hH);obtain⟨ep,hat⟩:=dd.dictAt
 have hlk:kvs.length=ns.length:=by have:=E9 List.length hk;simpa using this
 have hlv:kvs.length=vs.length:=Ej rel;refine PySem.Calls.call_function_entry kind_sorted plain_sorted entry_sorted (args_sorted1 _) ?_;unfold Builtin.«sorted»;refine D5 (m:=checkCount "sorted" 1 1 _) (Ea ?_);refine D5 (PySem.W.kdu_collect (A:=X.A.in1) (PySem.W.kdl_dict (knd:=aX X.prog X.w) (kvs:=vs) (ep:=ep) lo) (I.ok.hd hc) hat (by rw[<-hlv];exact hz) fun h' tk acc kp hacc=>?_)
 have hal:acc.toList.length=vs.length:=by rw[ED];exact hacc.1
 refine D5 (wpAny_newList ?_ (by rw[hal,<-hlv];exact hz))
 have rI:aL (ns.map V.int) acc.toList:=vI (by rw[D6,hal];omega) fun i x v e1 e2=>by
  obtain⟨k,y,hx,hks⟩:=hacc.2 i v (by rw[<-Array.getElem?_toList];exact e2)
  have e3:(vs.map (·.1))[i]? = some k:=by rw[List.getElem?_map,hx];rfl
  rw[<-rel.keys,hk,List.getElem?_map]at e3;rw[List.getElem?_map]at e1
  cases en:ns[i]? with
  | none=>rw[en]at e1;cases e1
  | some n =>
   rw[en]at e1 e3;have e1':V.int n=x:=Ef e1;subst e1';have e4:(Sum.inl n:bK)=k:=Ef e3;subst e4;rcases bn (k:=Sum.inl n) (v:=v) hks with ⟨j,t,ej,ev⟩ | ⟨j,t,ej,_⟩
   ·cases ej;exact⟨t,ev⟩
   ·cases ej
 have hoL:(h'.push (seqObj "list" acc.toList.toArray 0)).get? h'.objs.size=some (seqObj "list" acc.toList.toArray 0):=Heap.get?_push_size _ rfl;refine D5 (EK (FE slot_list_sort ⟨_,hoL,rfl⟩ entry_list_sort (list_sort_tree hoL (jw rI) (by rw[hal];omega) fun out ns' a1 a2 a3=>⟨_,rfl,?_⟩) (args_list_sort _)));refine Ea ⟨_,rfl,?_⟩;have en:ns'=bB ns:=sL a2 a3;subst en;obtain⟨e,he⟩:=sortedHeap_at (vs:=acc.toList) (out:=out) hoL;have I1:ar X pins σ H { s with heap:=h',toks:=tk }:=I.kept kp;refine⟨.ref h'.objs.size,_,I1.laid (t':=tk) (a:=h'.objs.size) (o:=.lst ((bB ns).map V.int)) (fun b o e=>?_) (D9 _) ⟨?_,out.toList,e,rh a1,by simpa using he⟩,rfl,q _ (I1.hok.fresh (D9 _))⟩
 ·rw[sortedHeap_old (Em (Eg e)) (by rw[size_push'];exact Ft (Eg e))]
  exact Heap.get?_push_of_some _ e
 ·have:=a2.length_eq
  rw[D6];omega
end
inductive Dt where
 | at (v:V)
 | sq (tup:Bool) (ds:List Dt)
def fL:V->Bool
 | .non=>true
 | .int _=>true
 | .str _=>true
 | _=>false
theorem jb {v:V}(h:fL v=true):iW v=true:=by cases v<;>first | rfl | cases h
theorem qh {x y:V}(hx:fL x=true)(hy:fL y=true):xt x y=true↔x=y:=by
 cases x<;>cases y<;>first | (cases hx;done) | (cases hy;done) | simp[xt]
def lg (K:PySem.W.Frag)(H:Hp)(t:Bool)(a:Addr)(xs:List V):Prop:=if t=true then bZ K H a xs else be K H a xs
def RD (K:PySem.W.Frag)(H:Hp):Nat->V->Dt->Prop
 | 0,v,d=>fL v=true/\d=.at v
 | n+1,v,d=>(fL v=true/\d=.at v)\/∃ a t xs ds,v=.ref a/\d=.sq t ds/\lg K H t a xs/\Paired (RD K H n) xs ds
theorem RD.flat {K:PySem.W.Frag}{H:Hp}{v:V}(h:fL v=true):∀ n,RD K H n v (.at v)
 | 0=>⟨h,rfl⟩
 | _+1=>.inl ⟨h,rfl⟩
theorem RD.lst {K:PySem.W.Frag}{H:Hp}{a:Addr}{xs:List V}{ds:List Dt}{n:Nat}(h:be K H a xs)(r:Paired (RD K H n) xs ds):RD K H (n+1) (.ref a) (.sq false ds) :=
 .inr ⟨a,false,xs,ds,rfl,rfl,by unfold lg;rw[D7 Ed];exact h,r⟩
theorem RD.tup {K:PySem.W.Frag}{H:Hp}{a:Addr}{xs:List V}{ds:List Dt}{n:Nat}(h:bZ K H a xs)(r:Paired (RD K H n) xs ds):RD K H (n+1) (.ref a) (.sq true ds) :=
 .inr ⟨a,true,xs,ds,rfl,rfl,by unfold lg;rw[D8 rfl];exact h,r⟩
section
variable {X:Cx}{pins:List (Addr×Obj)}{σ:St}{H:Hp}{s:Shared}
theorem RD.inj (I:ar X pins σ H s):∀ {n m:Nat}{v:V}{d e:Dt},RD X.K H n v d->RD X.K H m v e->d=e:=by
 intro n
 induction n with
 | zero =>
  intro m v d e h1 h2;obtain⟨f,rfl⟩:=h1
  cases m with
  | zero=>exact h2.2.symm
  | succ m =>
   rcases h2 with h2 | ⟨a,t,xs,ds,rfl,_⟩
   ·exact h2.2.symm
   ·cases f
 | succ n ih =>
  intro m v d e h1 h2;rcases h1 with h1 | ⟨a,t,xs,ds,rfl,rfl,q,r⟩
  ·obtain⟨f,rfl⟩:=h1
   cases m with
   | zero=>exact h2.2.symm
   | succ m =>
    rcases h2 with h2 | ⟨a,t,xs,ds,rfl,_⟩
    ·exact h2.2.symm
    ·cases f
  ·cases m with
   | zero=>cases h2.1
   | succ m =>
    rcases h2 with h2 | ⟨a',t',xs',ds',ea,rfl,q',r'⟩
    ·cases h2.1
    ·cases ea
     have pr:∀ {l:List V}{l1 l2:List Dt},Paired (RD X.K H n) l l1->Paired (RD X.K H m) l l2->l1=l2:=by
      intro l
      induction l with
      | nil=>intro l1 l2 p1 p2;cases p1;cases p2;rfl
      | cons z l ihl =>
       intro l1 l2 p1 p2
       cases p1 with
       | cons r1 t1 =>
        cases p2 with
        | cons r2 t2=>rw[ih r1 r2,ihl t1 t2]
     cases t with
     | false =>
      have q:be X.K H a xs:=by unfold lg at q;rwa [D7 Ed]at q
      cases t' with
      | false =>
       have q':be X.K H a xs':=by unfold lg at q';rwa [D7 Ed]at q'
       have:=I.list_inj q q';subst this;rw[pr r r']
      | true =>
       have q':bZ X.K H a xs':=by unfold lg at q';rwa [D8 rfl]at q'
       obtain⟨_,_,p1,_⟩:=I.list q;obtain⟨_,_,p2,_⟩:=I.tuple q';exact absurd rfl (SeqAt.ne_of_list_tuple p1.isList p2)
     | true =>
      have q:bZ X.K H a xs:=by unfold lg at q;rwa [D8 rfl]at q
      cases t' with
      | false =>
       have q':be X.K H a xs':=by unfold lg at q';rwa [D7 Ed]at q'
       obtain⟨_,_,p1,_⟩:=I.tuple q;obtain⟨_,_,p2,_⟩:=I.list q';exact absurd rfl (SeqAt.ne_of_list_tuple p2.isList p1)
      | true =>
       have q':bZ X.K H a xs':=by unfold lg at q';rwa [D8 rfl]at q'
       have:=I.tuple_inj q q';subst this;rw[pr r r']
theorem Bg (I:ar X pins σ H s):∀ (n:Nat){A:Around}{l b:Addr}{d e:Dt},A.units+n<cLine->RD X.K H (n+1) (.ref l) d->RD X.K H (n+1) (.ref b) e ->
  (∀ {A:Around}{y x:V}{u v:Value}{d e:Dt},A.units+n<cLine+1->RD X.K H n y d->RD X.K H n x e->aI y u->aI x v->∃ k:Bool,(k=true↔d=e)/\SeqAt.EqAt A s u v k) ->
  ∃ k:Bool,(k=true↔d=e)/\SeqAt.RcAt A s (.ref l) (.ref b) k:=by
 intro n A l b d e hu h1 h2 ih;rcases h1 with h1 | ⟨a,t,xs,ds,ea,rfl,q,r⟩
 ·cases h1.1
 cases ea;rcases h2 with h2 | ⟨a',t',xs',ds',ea,rfl,q',r'⟩
 ·cases h2.1
 cases ea
 have pw:∀ {us us':List Value},aL xs us->aL xs' us'->∃ ks:Nat->Bool,(∀ j (h1:j<us.length) (h2:j<us'.length),SeqAt.EqAt A.in1 s us[j] us'[j] (ks j)) /\
   (∀ j d1 d2,ds[j]? = some d1->ds'[j]? = some d2->(ks j=true↔d1=d2)):=by
  intro us us' rv rv'
  have ex:∀ j:Nat,∃ k:Bool,(∀ (h1:j<us.length)(h2:j<us'.length),SeqAt.EqAt A.in1 s us[j] us'[j] k)/\(∀ d1 d2,ds[j]? = some d1->ds'[j]? = some d2->(k=true↔d1=d2)):=by
   intro j
   by_cases hj:j<us.length/\j<us'.length
   ·obtain⟨h1,h2⟩:=hj
    have l1:=rv.length;have l2:=rv'.length;have l3:=Ej r;have l4:=Ej r';have gx:xs[j]? = some xs[j]:=List.getElem?_eq_getElem (by omega);have gx':xs'[j]? = some xs'[j]:=List.getElem?_eq_getElem (by omega);obtain⟨u,eu,ru⟩:=rv.get gx;obtain⟨u',eu',ru'⟩:=rv'.get gx'
    have eu2:us[j]=u:=by rw[List.getElem?_eq_getElem h1]at eu;exact Ef eu
    have eu2':us'[j]=u':=by rw[List.getElem?_eq_getElem h2]at eu';exact Ef eu'
    have pget:∀ {m:Nat}{zs:List V}{es:List Dt}(j:Nat){z:V},Paired (RD X.K H m) zs es->zs[j]? = some z->∃ f,es[j]? = some f/\RD X.K H m z f:=by
     intro m zs
     induction zs with
     | nil=>intro es j z p hz;simp at hz
     | cons z0 zs ihz =>
      intro es j z p hz
      cases p with
      | cons p1 p2 =>
       cases j with
       | zero=>simp at hz;subst hz;exact⟨_,rfl,p1⟩
       | succ j=>obtain⟨f,e1,e2⟩:=ihz j p2 (by simpa using hz);exact⟨f,by simpa using e1,e2⟩
    obtain⟨f,ef,rf⟩:=pget j r gx;obtain⟨f',ef',rf'⟩:=pget j r' gx';obtain⟨k,hk,he⟩:=ih (A:=A.in1) (by show A.units+1+n<cLine+1;omega) rf rf' ru ru';refine⟨k,fun _ _=>by rw[eu2,eu2'];exact he,fun d1 d2 e1 e2=>?_⟩;rw[ef]at e1;rw[ef']at e2;cases e1;cases e2;exact hk
   ·refine⟨false,fun h1 h2=>absurd ⟨h1,h2⟩ hj,fun d1 d2 e1 e2=>?_⟩
    have l1:=rv.length;have l2:=rv'.length;have l3:=Ej r;have l4:=Ej r';have:=(List.getElem?_eq_some_iff.mp e1).1;have:=(List.getElem?_eq_some_iff.mp e2).1;exact absurd ⟨by omega,by omega⟩ hj
  exact⟨fun j=>Classical.choose (ex j),fun j h1 h2=>(Classical.choose_spec (ex j)).1 h1 h2,fun j=>(Classical.choose_spec (ex j)).2⟩
 have allEq:∀ (ks:Nat->Bool),(∀ j d1 d2,ds[j]? = some d1->ds'[j]? = some d2->(ks j=true↔d1=d2))->ds.length=ds'.length->((List.range ds.length).all ks=true↔ds=ds'):=by
  intro ks hk hl;rw[EQ];constructor
  ·intro h
   apply List.ext_getElem hl
   intro j h1 h2;exact (hk j _ _ (List.getElem?_eq_getElem h1) (List.getElem?_eq_getElem h2)).mp (h j (FC.mpr h1))
  ·rintro rfl j hj
   have h1:=FC.mp hj;exact (hk j _ _ (List.getElem?_eq_getElem h1) (List.getElem?_eq_getElem h1)).mpr rfl
 have l3:=Ej r;have l4:=Ej r'
 cases t with
 | false =>
  have q:be X.K H l xs:=by unfold lg at q;rwa [D7 Ed]at q
  obtain⟨us,rv,p1,_⟩:=I.list q;have l1:=rv.length
  cases t' with
  | true =>
   have q':bZ X.K H b xs':=by unfold lg at q';rwa [D8 rfl]at q'
   obtain⟨us',rv',p2,_⟩:=I.tuple q';exact⟨false,by simp,SeqAt.RcAt.list_tuple p1.isList p2 (by omega)⟩
  | false =>
   have q':be X.K H b xs':=by unfold lg at q';rwa [D7 Ed]at q'
   obtain⟨us',rv',p2,_⟩:=I.list q';have l2:=rv'.length
   by_cases hl:us.length=us'.length
   ·obtain⟨ks,he,hk⟩:=pw rv rv'
    refine⟨(List.range us.toArray.size).all ks,?_,SeqAt.RcAt.lists p1.isList p2.isList (by simpa using hl) (by omega) fun j h1 h2=>by simpa using he j (by simpa using h1) (by simpa using h2)⟩;rw[Ek,show us.length=ds.length by omega,allEq ks hk (by omega)];constructor
    ·rintro rfl;rfl
    ·intro h;injection h
   ·refine⟨false,?_,SeqAt.RcAt.lists_lengths p1.isList p2.isList (by simpa using hl) (by omega)⟩
    constructor
    ·intro h;cases h
    ·intro h
     injection h with _ h;exact absurd (by rw[<-l1,l3,h,<-l4,l2]) hl
 | true =>
  have q:bZ X.K H l xs:=by unfold lg at q;rwa [D8 rfl]at q
  obtain⟨us,rv,p1,_⟩:=I.tuple q;have l1:=rv.length
  cases t' with
  | false =>
   have q':be X.K H b xs':=by unfold lg at q';rwa [D7 Ed]at q'
   obtain⟨us',rv',p2,_⟩:=I.list q';exact⟨false,by simp,SeqAt.RcAt.tuple_list p1 p2.isList (by omega)⟩
  | true =>
   have q':bZ X.K H b xs':=by unfold lg at q';rwa [D8 rfl]at q'
   obtain⟨us',rv',p2,_⟩:=I.tuple q';have l2:=rv'.length;obtain⟨ks,he,hk⟩:=pw rv rv';refine⟨_,?_,SeqAt.RcAt.tuples (e:=ks) (show s.heap.IsTuple l us.toArray from p1) (show s.heap.IsTuple b us'.toArray from p2) (by omega) fun j h1 h2=>by simpa using he j (by simpa using h1) (by simpa using h2)⟩
   by_cases hl:us.length=us'.length
   ·rw[Ek,Ek,<-hl,Nat.min_self,beq_self_eq_true,Bool.and_true,show us.length=ds.length by omega,allEq ks hk (by omega)]
    constructor
    ·rintro rfl;rfl
    ·intro h;injection h
   ·have:(us.toArray.size == us'.toArray.size)=false:=by simpa using hl
    rw[this,Bool.and_false];constructor
    ·intro h;cases h
    ·intro h
     injection h with _ h;exact absurd (by rw[<-l1,l3,h,<-l4,l2]) hl
theorem yj (I:ar X pins σ H s):∀ (n:Nat){A:Around}{l b:Addr}{d e:Dt},A.units+n<cLine->RD X.K H (n+1) (.ref l) d->RD X.K H (n+1) (.ref b) e ->
  (∀ {A:Around}{y x:V}{u v:Value}{d e:Dt},A.units+n<cLine+1->RD X.K H n y d->RD X.K H n x e->aI y u->aI x v->∃ k:Bool,(k=true↔d=e)/\SeqAt.EqAt A s u v k) ->
  ∃ k:Bool,(k=true↔d=e)/\SeqAt.RcNeAt A s (.ref l) (.ref b) (!k):=by
 intro n A l b d e hu h1 h2 ih;rcases h1 with h1 | ⟨a,t,xs,ds,ea,rfl,q,r⟩
 ·cases h1.1
 cases ea;rcases h2 with h2 | ⟨a',t',xs',ds',ea,rfl,q',r'⟩
 ·cases h2.1
 cases ea
 have pw:∀ {us us':List Value},aL xs us->aL xs' us'->∃ ks:Nat->Bool,(∀ j (h1:j<us.length) (h2:j<us'.length),SeqAt.EqAt A.in1 s us[j] us'[j] (ks j)) /\
   (∀ j d1 d2,ds[j]? = some d1->ds'[j]? = some d2->(ks j=true↔d1=d2)):=by
  intro us us' rv rv'
  have ex:∀ j:Nat,∃ k:Bool,(∀ (h1:j<us.length)(h2:j<us'.length),SeqAt.EqAt A.in1 s us[j] us'[j] k)/\(∀ d1 d2,ds[j]? = some d1->ds'[j]? = some d2->(k=true↔d1=d2)):=by
   intro j
   by_cases hj:j<us.length/\j<us'.length
   ·obtain⟨h1,h2⟩:=hj
    have l1:=rv.length;have l2:=rv'.length;have l3:=Ej r;have l4:=Ej r';have gx:xs[j]? = some xs[j]:=List.getElem?_eq_getElem (by omega);have gx':xs'[j]? = some xs'[j]:=List.getElem?_eq_getElem (by omega);obtain⟨u,eu,ru⟩:=rv.get gx;obtain⟨u',eu',ru'⟩:=rv'.get gx'
    have eu2:us[j]=u:=by rw[List.getElem?_eq_getElem h1]at eu;exact Ef eu
    have eu2':us'[j]=u':=by rw[List.getElem?_eq_getElem h2]at eu';exact Ef eu'
    have pget:∀ {m:Nat}{zs:List V}{es:List Dt}(j:Nat){z:V},Paired (RD X.K H m) zs es->zs[j]? = some z->∃ f,es[j]? = some f/\RD X.K H m z f:=by
     intro m zs
     induction zs with
     | nil=>intro es j z p hz;simp at hz
     | cons z0 zs ihz =>
      intro es j z p hz
      cases p with
      | cons p1 p2 =>
       cases j with
       | zero=>simp at hz;subst hz;exact⟨_,rfl,p1⟩
       | succ j=>obtain⟨f,e1,e2⟩:=ihz j p2 (by simpa using hz);exact⟨f,by simpa using e1,e2⟩
    obtain⟨f,ef,rf⟩:=pget j r gx;obtain⟨f',ef',rf'⟩:=pget j r' gx';obtain⟨k,hk,he⟩:=ih (A:=A.in1) (by show A.units+1+n<cLine+1;omega) rf rf' ru ru';refine⟨k,fun _ _=>by rw[eu2,eu2'];exact he,fun d1 d2 e1 e2=>?_⟩;rw[ef]at e1;rw[ef']at e2;cases e1;cases e2;exact hk
   ·refine⟨false,fun h1 h2=>absurd ⟨h1,h2⟩ hj,fun d1 d2 e1 e2=>?_⟩
    have l1:=rv.length;have l2:=rv'.length;have l3:=Ej r;have l4:=Ej r';have:=(List.getElem?_eq_some_iff.mp e1).1;have:=(List.getElem?_eq_some_iff.mp e2).1;exact absurd ⟨by omega,by omega⟩ hj
  exact⟨fun j=>Classical.choose (ex j),fun j h1 h2=>(Classical.choose_spec (ex j)).1 h1 h2,fun j=>(Classical.choose_spec (ex j)).2⟩
 have allEq:∀ (ks:Nat->Bool),(∀ j d1 d2,ds[j]? = some d1->ds'[j]? = some d2->(ks j=true↔d1=d2))->ds.length=ds'.length->((List.range ds.length).all ks=true↔ds=ds'):=by
  intro ks hk hl;rw[EQ];constructor
  ·intro h
   apply List.ext_getElem hl
   intro j h1 h2;exact (hk j _ _ (List.getElem?_eq_getElem h1) (List.getElem?_eq_getElem h2)).mp (h j (FC.mpr h1))
  ·rintro rfl j hj
   have h1:=FC.mp hj;exact (hk j _ _ (List.getElem?_eq_getElem h1) (List.getElem?_eq_getElem h1)).mpr rfl
 have l3:=Ej r;have l4:=Ej r'
 cases t with
 | false =>
  have q:be X.K H l xs:=by unfold lg at q;rwa [D7 Ed]at q
  obtain⟨us,rv,p1,_⟩:=I.list q;have l1:=rv.length
  cases t' with
  | true =>
   have q':bZ X.K H b xs':=by unfold lg at q';rwa [D8 rfl]at q'
   obtain⟨us',rv',p2,_⟩:=I.tuple q';exact⟨false,by simp,SeqAt.RcNeAt.list_tuple p1.isList p2 (by omega)⟩
  | false =>
   have q':be X.K H b xs':=by unfold lg at q';rwa [D7 Ed]at q'
   obtain⟨us',rv',p2,_⟩:=I.list q';have l2:=rv'.length
   by_cases hl:us.length=us'.length
   ·obtain⟨ks,he,hk⟩:=pw rv rv'
    refine⟨(List.range us.toArray.size).all ks,?_,SeqAt.RcNeAt.lists p1.isList p2.isList (by simpa using hl) (by omega) fun j h1 h2=>by simpa using he j (by simpa using h1) (by simpa using h2)⟩;rw[Ek,show us.length=ds.length by omega,allEq ks hk (by omega)];constructor
    ·rintro rfl;rfl
    ·intro h;injection h
   ·refine⟨false,?_,SeqAt.RcNeAt.lists_lengths p1.isList p2.isList (by simpa using hl) (by omega)⟩
    constructor
    ·intro h;cases h
    ·intro h
     injection h with _ h;exact absurd (by rw[<-l1,l3,h,<-l4,l2]) hl
 | true =>
  have q:bZ X.K H l xs:=by unfold lg at q;rwa [D8 rfl]at q
  obtain⟨us,rv,p1,_⟩:=I.tuple q;have l1:=rv.length
  cases t' with
  | false =>
   have q':be X.K H b xs':=by unfold lg at q';rwa [D7 Ed]at q'
   obtain⟨us',rv',p2,_⟩:=I.list q';exact⟨false,by simp,SeqAt.RcNeAt.tuple_list p1 p2.isList (by omega)⟩
  | true =>
   have q':bZ X.K H b xs':=by unfold lg at q';rwa [D8 rfl]at q'
   obtain⟨us',rv',p2,_⟩:=I.tuple q';have l2:=rv'.length;obtain⟨ks,he,hk⟩:=pw rv rv';refine⟨(List.range (min us.toArray.size us'.toArray.size)).all ks&&us.toArray.size == us'.toArray.size,?_,SeqAt.RcNeAt.tuples (e:=ks) (show s.heap.IsTuple l us.toArray from p1) (show s.heap.IsTuple b us'.toArray from p2) (by omega) fun j h1 h2=>by simpa using he j (by simpa using h1) (by simpa using h2)⟩
   by_cases hl:us.length=us'.length
   ·rw[Ek,Ek,<-hl,Nat.min_self,beq_self_eq_true,Bool.and_true,show us.length=ds.length by omega,allEq ks hk (by omega)]
    constructor
    ·rintro rfl;rfl
    ·intro h;injection h
   ·have:(us.toArray.size == us'.toArray.size)=false:=by simpa using hl
    rw[this,Bool.and_false];constructor
    ·intro h;cases h
    ·intro h
     injection h with _ h;exact absurd (by rw[<-l1,l3,h,<-l4,l2]) hl
theorem AJ (I:ar X pins σ H s):∀ (n:Nat){A:Around}{y x:V}{u v:Value}{d e:Dt},A.units+n<cLine+1->RD X.K H n y d->RD X.K H n x e->aI y u->aI x v->∃ k:Bool,(k=true↔d=e)/\SeqAt.EqAt A s u v k:=by
 intro n
 have flatCase:∀ {A:Around}{y x:V}{u v:Value},fL y=true->fL x=true->aI y u->aI x v->∃ k:Bool,(k=true↔Dt.at y=Dt.at x)/\SeqAt.EqAt A s u v k:=by
  intro A y x u v fy fx ry rx;refine⟨xt y x,?_,xq ry rx (jb fy) (jb fx)⟩;rw[qh fy fx];constructor
  ·rintro rfl;rfl
  ·intro h;injection h
 induction n with
 | zero =>
  intro A y x u v d e hu h1 h2 ry rx;obtain⟨f1,rfl⟩:=h1;obtain⟨f2,rfl⟩:=h2;exact flatCase f1 f2 ry rx
 | succ n ih =>
  intro A y x u v d e hu h1 h2 ry rx;rcases id h1 with ⟨f1,rfl⟩ | ⟨a,t,xs,ds,rfl,rfl,q,r⟩
  ·rcases id h2 with ⟨f2,rfl⟩ | ⟨a',t',xs',ds',rfl,rfl,q',r'⟩
   ·exact flatCase f1 f2 ry rx
   ·cases rx
    refine⟨false,by simp,?_⟩
    cases t' with
    | false =>
     have q':be X.K H a' xs':=by unfold lg at q';rwa [D7 Ed]at q'
     obtain⟨_,_,p,_⟩:=I.list q'
     cases y with
     | non=>cases ry;exact SeqAt.EqAt.none_list p.isList (by omega)
     | int _=>obtain⟨tk,rfl⟩:=ry;exact SeqAt.EqAt.int_list _ _ p.isList (by omega)
     | str _=>obtain⟨tk,rfl⟩:=ry;exact SeqAt.EqAt.str_list _ _ p.isList (by omega)
     | _=>cases f1
    | true =>
     have q':bZ X.K H a' xs':=by unfold lg at q';rwa [D8 rfl]at q'
     obtain⟨_,_,p,_⟩:=I.tuple q'
     cases y with
     | non=>cases ry;exact SeqAt.EqAt.none_tuple p (by omega)
     | int _=>obtain⟨tk,rfl⟩:=ry;exact SeqAt.EqAt.int_tuple _ _ p (by omega)
     | str _=>obtain⟨tk,rfl⟩:=ry;exact SeqAt.EqAt.str_tuple _ _ p (by omega)
     | _=>cases f1
  ·cases ry
   rcases id h2 with ⟨f2,rfl⟩ | ⟨a',t',xs',ds',rfl,rfl,q',r'⟩
   ·refine⟨false,by simp,?_⟩
    cases t with
    | false =>
     have q:be X.K H a xs:=by unfold lg at q;rwa [D7 Ed]at q
     obtain⟨_,_,p,_⟩:=I.list q
     cases x with
     | non=>cases rx;exact SeqAt.EqAt.list_none p.isList (by omega)
     | int _=>obtain⟨tk,rfl⟩:=rx;exact SeqAt.EqAt.list_int _ _ p.isList (by omega)
     | str _=>obtain⟨tk,rfl⟩:=rx;exact SeqAt.EqAt.list_str _ _ p.isList (by omega)
     | _=>cases f2
    | true =>
     have q:bZ X.K H a xs:=by unfold lg at q;rwa [D8 rfl]at q
     obtain⟨_,_,p,_⟩:=I.tuple q
     cases x with
     | non=>cases rx;exact SeqAt.EqAt.tuple_none p (by omega)
     | int _=>obtain⟨tk,rfl⟩:=rx;exact SeqAt.EqAt.tuple_int _ _ p (by omega)
     | str _=>obtain⟨tk,rfl⟩:=rx;exact SeqAt.EqAt.tuple_str _ _ p (by omega)
     | _=>cases f2
   ·cases rx
    by_cases hab:a=a'
    ·subst hab
     exact⟨true,by rw[RD.inj I h1 h2];simp,SeqAt.EqAt.same _⟩
    ·obtain⟨k,hk,hr⟩:=Bg I n (A:=A) (by omega) h1 h2 (fun hu'=>ih hu')
     exact⟨k,hk,.of_refs hab hr⟩
end
inductive Dz (K:PySem.W.Frag) (n:Nat) (neg:Bool) (x y:V) (H:Hp) (Q:VK):Prop
 | mk (a b:Addr) (d e:Dt) (e1:x=.ref a) (e2:y=.ref b) (r1:RD K H (n+1) x d) (r2:RD K H (n+1) y e) (h:∀ k:Bool,(k=true↔d=e)->Q (.bl (if neg then !k else k)) H):Dz K n neg x y H Q
def Dd (K:PySem.W.Frag)(n:Nat)(neg:Bool):R2:=fun x y H Q=>Dz K n neg x y H Q
section
variable {X:Cx}
theorem qL (n:Nat)(hu:X.A.units+n<cLine):js X (compareOp .NotEq) (Dd X.K n true):=by
 intro pins s σ H x y v u Q I rx ry h;obtain⟨a,b,d,e,rfl,rfl,h1,h2,q⟩:=h;cases rx;cases ry;obtain⟨k,hk,hr⟩:=yj I n (A:=X.A) hu h1 h2 (fun hu'=>AJ I n hu');exact hr _ _ _ _ ⟨.bl (!k),H,I,rfl,q k hk⟩
end
end L2
namespace Wz
open PySem L2
def cB (c:Int):Int:=if c<0 then -c else c
theorem yT (c:Int):0<=cB c:=by unfold cB;split<;>omega
def bC (ns:List Int)(k:Int):Int:=if k<(ns.length:Int) then ns.getD k.toNat 0 else 0
def jv (k c:Int):Int :=
 let left:=cB c
 let number:=(k*(1+left*1234567891%2147483646)+left/2147483646)%2147483647
 if left%5=4 then number+997852516353 else number
def dk (l:List (Int×Int)):List (bK×V):=l.map fun p=>(Sum.inl p.1,V.int p.2)
def look:List (Int×Int)->Int->Option Int
 | [],_=>none
 | p::r,g=>if p.1=g then some p.2 else look r g
def put (l:List (Int×Int))(g m:Int):List (Int×Int):=if (l.any fun p=>decide (p.1=g))=true then l.map (fun p=>if p.1=g then (p.1,m) else p) else l++[(g,m)]
def wr (l:List (Int×Int))(g:Int):Int:=(look l g).getD g
def aH (l:List (Int×Int)):List Int:=l.map (·.1)
theorem cI:∀ (l:List (Int×Int))(g:Int),cK (dk l) (Sum.inl g:bK)=(look l g).map V.int
 | [],_=>rfl
 | p::r,g=>by
  by_cases h:p.1=g
  ·have e:cK (dk (p::r)) (Sum.inl g:bK)=some (V.int p.2):=ip (p:=(Sum.inl p.1,V.int p.2)) (r:=dk r) (by rw[h])
   rw[e];simp[look,h]
  ·have e:cK (dk (p::r)) (Sum.inl g:bK)=cK (dk r) (Sum.inl g):=io (p:=(Sum.inl p.1,V.int p.2)) (r:=dk r) (fun z=>h (Sum.inl.inj z))
   rw[e,cI r g];simp[look,h]
theorem AE (l:List (Int×Int))(g:Int):((dk l).any fun kv=>decide (kv.1=(Sum.inl g:bK)))=l.any fun p=>decide (p.1=g):=by
 unfold dk;rw[List.any_map]
 congr 1
 funext p
 simp[Function.comp]
theorem jI (l:List (Int×Int))(g m:Int):eU (dk l) (Sum.inl g:bK) (V.int m)=dk (put l g m):=by
 unfold eU put;rw[AE]
 by_cases h:(l.any fun p=>decide (p.1=g))=true
 ·rw[D8 h,D8 h]
  unfold dk;rw[EH,EH]
  apply ET
  intro p _;simp only[Function.comp]
  by_cases e:p.1=g
  ·rw[D8 (by rw[e]),D8 e]
  ·rw[D7 (fun z=>e (Sum.inl.inj z)),D7 e]
 ·rw[D7 h,D7 h]
  unfold dk;simp
theorem mP (l:List (Int×Int))(g:Int):(l.any fun p=>decide (p.1=g))=(look l g).isSome:=by
 induction l with
 | nil=>rfl
 | cons p r ih =>
  rw[Fj,ih]
  show _=(if p.1=g then some p.2 else look r g).isSome
  by_cases h:p.1=g<;>simp[h]
theorem cE {l:List (Int×Int)}{g:Int}:(look l g).isSome=true↔g∈aH l:=by
 rw[<-mP,List.any_eq_true];unfold aH;simp
theorem xJ (l:List (Int×Int))(g m h:Int):look (l.map (fun p=>if p.1=g then (p.1,m) else p)) h=if h=g then (look l g).map (fun _=>m) else look l h:=by
 induction l with
 | nil=>simp[look]
 | cons p r ih =>
  rw[Er]
  by_cases hp:p.1=g
  ·rw[D8 hp]
   show (if p.1=h then some m else look _ h)=_
   rw[ih]
   by_cases hh:h=g
   ·subst hh;simp[hp,look]
   ·have:¬ p.1=h:=fun z=>hh (z.symm.trans hp)
    simp[hh,this,look]
  ·rw[D7 hp]
   show (if p.1=h then some p.2 else look _ h)=_
   rw[ih]
   by_cases hh:h=g
   ·subst hh;simp[hp,look]
   ·simp[hh,look]
theorem rO (l r:List (Int×Int))(h:Int):look (l++r) h=(look l h).orElse fun _=>look r h:=by
 induction l with
 | nil=>rfl
 | cons p l ih =>
  show (if p.1=h then some p.2 else look (l++r) h)=_
  rw[ih]
  by_cases e:p.1=h<;>simp[look,e]
theorem cU (l:List (Int×Int))(g m h:Int):look (put l g m) h=if h=g then some m else look l h:=by
 unfold put;rw[mP]
 by_cases e:(look l g).isSome=true
 ·rw[D8 e,xJ]
  obtain⟨v,hv⟩:=EW.mp e
  by_cases hh:h=g
  ·simp[hh,hv]
  ·simp[hh]
 ·rw[D7 e,rO]
  have hn:look l g=none:=by simpa using e
  by_cases hh:h=g
  ·subst hh;simp[hn,look]
  ·have:¬ g=h:=fun z=>hh z.symm
   simp[hh,look,this]
theorem rN (l:List (Int×Int))(g m:Int):aH (put l g m)=if g∈aH l then aH l else aH l++[g]:=by
 unfold put;rw[mP]
 by_cases e:(look l g).isSome=true
 ·rw[D8 e,D8 (cE.mp e)]
  unfold aH;rw[EH]
  apply ET
  intro p _;simp only[Function.comp];split<;>rfl
 ·rw[D7 e,D7 (fun z=>e (cE.mpr z))]
  simp[aH]
theorem qr (l:List (Int×Int))(g m:Int):(put l g m).length<=l.length+1:=by
 unfold put;split<;>simp
theorem fS:∀ {l m:List Int},l.Nodup->(∀ x∈l,x∈m)->l.length<=m.length
 | [],_,_,_=>Ey _
 | a::r,m,h,hs=>by
  obtain⟨h1,h2⟩:=EI.mp h;have ha:a∈m:=hs a Ec;have hl:(m.erase a).length=m.length-1:=List.length_erase_of_mem ha;have hpos:0<m.length:=List.length_pos_of_mem ha;have ih:=fS (l:=r) (m:=m.erase a) h2 fun x hx=>(List.mem_erase_of_ne (show x≠a from fun e=>h1 (by rw[<-e];exact hx))).mpr (hs x (Eb _ hx));rw[Eu];omega
theorem kj {l:List Int}{x:Int}:x∈bB l↔x∈l:=(List.mergeSort_perm l _).mem_iff
theorem wf (l:List Int):(bB l).length=l.length:=(List.mergeSort_perm l _).length_eq
theorem uc (l:List (Int×Int)):(dk l).length=l.length:=by unfold dk;simp
def aA (P:Program)(w:World)(K:PySem.W.Frag)(mg:Str->Option Value)(base:Heap)(x:Str)(k:Nat)(ps:List Str)(sp:Sp):Prop :=
 ∃ (f:Addr)(fd:FuncData),aV P w K mg base cz k f fd ps sp/\mg x=some (.ref f)/\PySem.W.keepIn K (.ref f)=true/\dy K fd ps []
theorem bo {X:Cx}{x:Str}{k:Nat}{ps:List Str}{sp:Sp}{e:Expr}{es:List Expr}{t:TA}{p pos:Pos}(C:aA X.prog X.w X.K X.mg X.base x k ps sp)(hr:bN k X.A)(hg:Gl X x)(ha:PA X (e::es) t)
  (hdb:(x == ("__debug__" : Str))=false:=by decide) (he:starEach (e::es) X.env=(false,eval e X.env)::starEach es X.env:=by rfl) (hpl:(backTo pos (starEach es X.env)).any (·.1)=false:=by rfl) :
  PE X (.Call (.Name x p) (e::es) [] pos) (yr sp [] E0 t):=by
 obtain⟨f,fd,G,hm,hk,hb⟩:=C;exact vj G hr hg hm hk hb .nil e6 ha hdb he hpl
def kU (H:Hp)(l:Addr)(ps:List (Int×Int)):Prop:=∃ as:List Addr,H l=some (.lst (as.map V.ref))/\Paired (fun a (p:Int×Int)=>H a=some (.tup [.int p.1,.int p.2])) as ps
theorem kU.mono {H H':Hp}{l:Addr}{ps:List (Int×Int)}(r:kU H l ps)(s:aE H H'):kU H' l ps:=by
 obtain⟨as,h,p⟩:=r;exact⟨as,s _ _ h,Paired.mapP p fun a q z=>s _ _ z⟩
theorem ah {H:Hp}{l:Addr}{o:HO}(h:H l=none):aE H (upd H l o):=fun b u e=>by rw[ae (aj e h)];exact e
theorem bX {H H':Hp}{l:Addr}{o:HO}(s:aE H H')(h:H l=none):aE H (upd H' l o):=fun b u e=>by rw[ae (aj e h)];exact s b u e
theorem bw {α β:Type}{F:α->β->Prop}:∀ {l:List α}{m:List β}{i:Nat}{a:α},Paired F l m->l[i]? = some a->∃ b,m[i]? = some b/\F a b
 | _,_,_,_,.nil,h=>by simp at h
 | _,_,0,_,.cons r _,h=>by simp at h;subst h;exact⟨_,rfl,r⟩
 | _,_,i+1,a,.cons _ t,h=>by
  obtain⟨b,e1,e2⟩:=bw (i:=i) (a:=a) t (by simpa using h);exact⟨b,by simpa using e1,e2⟩
theorem a7 {α β:Type}{F:α->β->Prop}:∀ {l l':List α}{m m':List β},Paired F l m->Paired F l' m'->Paired F (l++l') (m++m')
 | _,_,_,_,.nil,s=>s
 | _,_,_,_,.cons r t,s=>.cons r (a7 t s)
theorem bL {α β:Type}{f:α->β}{l:List α}{i:Nat}{y:β}(h:(l.map f)[i]? = some y):∃ x,l[i]? = some x/\y=f x:=by
 rw[List.getElem?_map]at h
 cases e:l[i]? with
 | none=>rw[e]at h;cases h
 | some x=>rw[e]at h;exact⟨x,rfl,(Ef h).symm⟩
theorem wV {α:Type}{l:List α}{i:Nat}{x:α}(h:l[i]? = some x):l.take (i+1)=l.take i++[x]:=by
 rw[E8,h];rfl
theorem gE {te:TE}{a:Addr}{D:fg}{σ:St}{H:Hp}(h:te σ H fun y H2=>∃ ys,H2 a=some (.lst ys)/\ys.length<sizeLine/\D.nx σ (upd H2 a (.lst (ys++[y])))):yP uJ te a D σ H:=by
 unfold yP uJ;dsimp only;rw[D8 rfl];exact h
theorem yx {tt:TT}{te:TE}{a:Addr}{D:fg}{σ:St}{H:Hp}(h:tt σ H fun b H1=>if b=true then te σ H1 fun y H2=>∃ ys,H2 a=some (.lst ys)/\ys.length<sizeLine/\D.nx σ (upd H2 a (.lst (ys++[y]))) else D.nx σ H1):yP tt te a D σ H:=h
inductive om (K:PySem.W.Frag) (vs:List V) (H:Hp) (Q:VK) (E_:XK):Prop
 | mk (a:Addr) (ns:List Int) (k:Int) (h_0:vs=[.ref a,.int k]) (h_1:be K H a (ns.map V.int)) (h_2:0<=k) (h_3:Q (.int (bC ns k)) H):om K vs H Q E_
inductive kH (vs:List V) (H:Hp) (Q:VK) (E_:XK):Prop
 | mk (c:Int) (h_0:vs=[.int c]) (h_1:Q (.int (cB c)) H):kH vs H Q E_
inductive lU (vs:List V) (H:Hp) (Q:VK) (E_:XK):Prop
 | mk (c m b:Int) (h_0:vs=[.int c,.int m,.int b]) (h_1:(0<=m/\m<=1000)) (h_2:(0<b/\b<1073741824)) (h_3:∀ (l:Addr)(ds:List Int),H l=none->(∀ d∈ds,0<=d/\d<b)->(ds.length:Int)<=m->Q (.ref l) (upd H l (.lst (ds.map V.int)))):lU vs H Q E_
inductive qX (K:PySem.W.Frag) (vs:List V) (H:Hp) (Q:VK) (E_:XK):Prop
 | mk (a:Addr) (ns:List Int) (st m b:Int) (h_0:vs=[.ref a,.int st,.int m,.int b]) (h_1:be K H a (ns.map V.int)) (h_2:(0<=st/\st<=63)) (h_3:(0<=m/\m<=1000)) (h_4:(0<b/\b<1073741824)) (h_5:∀ (l:Addr)(H':Hp)(ds:List Int),H l=none->aE H H'->H' l=some (.lst (ds.map V.int))->(∀ d∈ds,0<=d/\d<b)->(ds.length:Int)<=m->Q (.ref l) H'):qX K vs H Q E_
inductive iG (vs:List V) (H:Hp) (Q:VK) (E_:XK):Prop
 | mk (k c:Int) (h_0:vs=[.int k,.int c]) (h_1:(0<=k/\k<=1000000)) (h_2:Q (.int (jv k c)) H):iG vs H Q E_
inductive sO (K:PySem.W.Frag) (vs:List V) (H:Hp) (Q:VK) (E_:XK):Prop
 | mk (a:Addr) (ns:List Int) (h_0:vs=[.ref a]) (h_1:be K H a (ns.map V.int)) (h_2:ns.length<=63) (h_3:∀ H',Q (.bl true) H'):sO K vs H Q E_
def Ci (p:Int×Int):Dt:=.sq true [.at (.int p.1),.at (.int p.2)]
def Di (ps:List (Int×Int)):Dt:=.sq false (ps.map Ci)
theorem yk {K:PySem.W.Frag}{H:Hp}{l:Addr}{ps:List (Int×Int)}(r:kU H l ps):RD K H 2 (.ref l) (Di ps):=by
 obtain⟨as,h,p⟩:=r;refine RD.lst (be.of h) ?_;clear h
 induction p with
 | nil=>exact .nil
 | cons h _ ih=>exact .cons (RD.tup (bZ.of h) (.cons (RD.flat rfl 0) (.cons (RD.flat rfl 0) .nil))) ih
def B9 (ns:List Int):Dt:=.sq false (ns.map fun n=>.at (.int n))
theorem fz {σ:St}{H:Hp}{Q:Option Int->Hp->Prop}(h:Q none H):vF σ H Q:=h
theorem ie {α β:Type}{F:α->β->Prop}:∀ {l:List α}{m:List β}(n:Nat),Paired F l m->Paired F (l.take n) (m.take n)
 | _,_,0,_=>by rw[List.take_zero,List.take_zero];exact .nil
 | _,_,_+1,.nil=>.nil
 | _,_,n+1,.cons r t=>.cons r (ie n t)
theorem k7 {α β:Type}{F:α->β->Prop}:∀ {l:List α}{m:List β}(n:Nat),Paired F l m->Paired F (l.drop n) (m.drop n)
 | _,_,0,h=>h
 | _,_,_+1,.nil=>.nil
 | _,_,n+1,.cons _ t=>k7 n t
end Wz
namespace L2
open PySem PySem.Spec PyProof.Rows
def Aa (g B:Heap)(e:Addr)(c:Value)(od:Option Addr)(fl:Value):Prop :=
 ∃ oe us T oT ts,g.get? e=some oe/\(oe.cls=c/\oe.dict=od)/\oe.data=.fields us/\us[1]? = some (.ref T)/\B.get? T=none/\T≠e/\g.get? T=some oT/\oT.data=.fields ts/\ts[3]? = some fl
def j6 (B:Heap)(l:List Env)(e:Addr)(c:Value)(od:Option Addr)(g:Heap):Prop:=B.StaysIn g/\B.get? e=none/\g.FunFrames B l/\Aa g B e c od .none
def z8 (B:Heap)(l:List Env)(e:Addr)(c:Value)(od:Option Addr)(L:Addr)(g:Heap):Prop:=B.StaysIn g/\B.get? e=none/\g.FunFrames B l/\Aa g B e c od (rawInt L)
theorem yZ (f:Array Value->Array Value)(o:Obj):(Obj.mapFields f o).dict=o.dict:=by
 unfold Obj.mapFields;split<;>rfl
theorem j6.obj {B g:Heap}{l:List Env}{e:Addr}{c:Value}{od:Option Addr}(x:j6 B l e c od g):∃ ob us,g.get? e=some ob/\ob.cls=c/\ob.dict=od/\ob.data=.fields us:=by
 obtain⟨_,_,_,oe,us,_,_,_,he,hc,hd,_⟩:=x;exact⟨oe,us,he,hc.1,hc.2,hd⟩
section
variable {M:Model}{A:Around}{E:Value->Shared->Prop}{s:Shared}{B:Heap}{env:Env}{outer:List Env}{L e:Addr}{od:Option Addr}{c:Value}
def CJ (g g':Heap):Prop:=∀ b o,g.get? b=some o->(∀ us,o.data≠.fields us)->∃ sl,g'.get? b=some { o with slots:=sl }
theorem xp {oe:Obj}{us:Array Value}{head:Value}{hn:Bool}{Q:Unit->Shared->Prop}(fr:A.frames=some (env::outer))(hl:s.heap.FunFrames B (env::outer))(hf:env.frame=some L)
  (he:s.heap.get? e=some oe) (hk:B.StaysIn s.heap) (hb:B.get? e=none) (hd:oe.data=.fields us) (h1:1<us.size)
  (h:∀ g,B.StaysIn g->g.FunFrames B (env::outer)->Aa g B e oe.cls oe.dict (rawInt L)->CJ s.heap g->Q () { s with heap:=g }) :
  wpAny M A (do let a <-frameOf env;let pl <-entryPlaceOf L hn;let b <-EntryCells.newEntry head a .none (rawInt L) .none pl;setField (.ref e) 1 b) Q E s:=by
 have hne:e∉(env::outer).filterMap (·.frame):=fun z=>by
  obtain⟨_,o,ho,nf⟩:=hl.mem z;rw[he]at ho;cases ho;exact nf us hd
 refine D5 (wpAny_frameOf_fun fr hl hf fun g1 sl1=>D5 (wpAny_entryPlaceOf fun pl hpl=>?_));unfold EntryCells.newEntry newFields;refine D5 (EL ?_ (hpl.sizeOk5 _ _ _ _ _));have e1:g1.get? e=some oe:=(sl1.2.1 e hne).trans he;have k1:B.StaysIn g1:=fun b o q=>(sl1.2.1 b fun z=>by rw[(hl.mem z).1]at q;cases q).trans (hk b o q);generalize hob:({ cls:=.type "traceback",dict:=none,data:=.fields ([head,.ref L,.none,rawInt L,.none]++(if pl.isEmpty then List.replicate 6 Value.none else pl)).toArray }:Obj)=ob
 have obd:ob.data=.fields ([head,.ref L,.none,rawInt L,.none]++(if pl.isEmpty then List.replicate 6 Value.none else pl)).toArray:=by rw[<-hob]
 have e2:=Heap.get?_push_of_some (h:=g1) ob e1;refine FQ e2 hd h1 ?_;have ne:g1.objs.size≠e:=Nat.ne_of_gt (Eg e1);have d3:=FK hd (·.setIfInBounds 1 (Value.ref g1.objs.size));have e3:=Heap.get?_update_self (Obj.mapFields (·.setIfInBounds 1 (Value.ref g1.objs.size))) e2 (Obj.isFreed_of_fields d3)
 have keep:∀ b o,b≠e->g1.get? b=some o->((g1.push ob).update e (Obj.mapFields (·.setIfInBounds 1 (Value.ref g1.objs.size)))).get? b=some o:=fun b o n q=>by
  rw[Heap.get?_update_other _ _ (Eo n)];exact Heap.get?_push_of_some _ q
 have nr:∀ b o,s.heap.get? b=some o->(∀ vs,o.data≠.fields vs)->b≠e:=fun b o q nf z=>by
  rw[z,he]at q;cases q;exact nf us hd
 refine h _ (fun b o q=>keep b o (fun z=>by rw[z,hb]at q;cases q) (k1 b o q)) (hl.of_keeps fun b o q nf=>?_) ?_ fun b o q nf=>?_
 ·obtain⟨sl,z⟩:=sl1.2.2 b o q
  exact⟨_,keep b _ (nr b o q nf) z,rfl⟩
 ·refine⟨_,_,g1.objs.size,ob,_,e3,⟨Obj.cls_mapFields _ _,yZ _ _⟩,d3,by simp[h1],k1.fresh,ne,?_,obd,by first | (simp;done) | (rcases hpl with rfl | ⟨_,_,_,_,_,_,_,rfl⟩<;>simp)⟩
  rw[Heap.get?_update_other _ _ (Eo ne)];exact Heap.get?_push_size g1 (by rw[<-hob];rfl)
 ·obtain⟨sl,z⟩:=sl1.2.2 b o q
  exact⟨sl,keep b _ (nr b o q nf) z⟩
theorem r0 {oe:Obj}{us:Array Value}{Q:Unit->Shared->Prop}(fr:A.frames=some (env::outer))(hl:s.heap.FunFrames B (env::outer))(hf:env.frame=some L)
  (he:s.heap.get? e=some oe) (hk:B.StaysIn s.heap) (hb:B.get? e=none) (hd:oe.data=.fields us) (h1:us[1]? = some .none)
  (h:∀ g,B.StaysIn g->g.FunFrames B (env::outer)->Aa g B e oe.cls oe.dict (rawInt L)->CJ s.heap g->Q () { s with heap:=g }):wpAny M A (noteFrame (.ref e) env) Q E s:=by
 unfold noteFrame;simp only[hf];refine D5 (FL he hd h1 ?_);rw[D7 (by decide)];exact xp fr hl hf he hk hb hd (Array.getElem?_eq_some_iff.mp h1).1 h
theorem m8 {Q:Unit->Shared->Prop}(fr:A.frames=some (env::outer))(hl:s.heap.FunFrames B (env::outer))(hf:env.frame=some L)(ht:Aa s.heap B e c od .none)(hk:B.StaysIn s.heap)(hb:B.get? e=none)
  (h:∀ g,B.StaysIn g->g.FunFrames B (env::outer)->Aa g B e c od (rawInt L)->CJ s.heap g->Q () { s with heap:=g }):wpAny M A (noteFrame (.ref e) env) Q E s:=by
 obtain⟨oe,us,T,oT,ts,he,⟨rfl,rfl⟩,hd,h1,nT,ne,hT,dT,h3⟩:=ht;unfold noteFrame;simp only[hf];refine D5 (FL he hd h1 ?_);rw[D8 (show (Value.ref T != Value.none)=true by simp)];refine D5 (FL hT dT h3 ?_);rw[D7 (show ¬((Value.none == rawInt L)=true) by simp[rawInt])];refine D5 (FQ hT dT (Array.getElem?_eq_some_iff.mp h3).1 ?_);have ot:∀ b,b≠T->(s.heap.update T (Obj.mapFields (·.setIfInBounds 3 Value.none))).get? b=s.heap.get? b:=fun b z=>Heap.get?_update_other _ _ (Eo z)
 have nr:∀ b o,s.heap.get? b=some o->(∀ vs,o.data≠.fields vs)->b≠T:=fun b o q nf z=>by
  rw[z,hT]at q;cases q;exact nf ts dT
 refine xp fr (hl.of_keeps fun b o q nf=>⟨o,(ot b (nr b o q nf)).trans q,rfl⟩) hf ((ot e (Eo ne)).trans he) (fun b o q=>(ot b fun z=>by rw[z,nT]at q;cases q).trans (hk b o q)) hb hd (Array.getElem?_eq_some_iff.mp h1).1 fun g a1 a2 a3 a4=>h g a1 a2 a3 fun b o q nf=>?_;exact a4 b o ((ot b (nr b o q nf)).trans q) nf
theorem lI {l:List Env}{fl:Value}{Q:Unit->Shared->Prop}(hk:B.StaysIn s.heap)(hl:s.heap.FunFrames B l)(ht:Aa s.heap B e c od fl)
  (h:∀ g,B.StaysIn g->g.FunFrames B l->Aa g B e c od .none->s.heap.UpToSlots g->Q () { s with heap:=g }):wpAny M A (setFlight (.ref e) none) Q E s:=by
 obtain⟨oe,us,T,oT,ts,he,hc,hd,h1,nT,ne,hT,dT,h3⟩:=ht;have z3:3<ts.size:=(Array.getElem?_eq_some_iff.mp h3).1;have ot:∀ b,b≠T->(s.heap.update T (Obj.mapFields (·.setIfInBounds 3 ((none:Option Addr).elim Value.none fun f=>rawInt f)))).get? b=s.heap.get? b:=fun b z=>Heap.get?_update_other _ _ (Eo z)
 have nr:∀ b o,s.heap.get? b=some o->(∀ vs,o.data≠.fields vs)->b≠T:=fun b o q nf z=>by
  rw[z,hT]at q;cases q;exact nf ts dT
 unfold setFlight;refine D5 (FL he hd h1 ?_);rw[D8 (show (Value.ref T != Value.none)=true by simp)];refine FQ hT dT z3 (h _ (fun b o q=>(ot b fun z=>by rw[z,nT]at q;cases q).trans (hk b o q)) (hl.of_keeps fun b o q nf=>⟨o,(ot b (nr b o q nf)).trans q,rfl⟩) ?_ fun b o q nf=>⟨o.slots,(ot b (nr b o q nf)).trans q⟩);exact⟨oe,us,T,_,_,(ot e (Eo ne)).trans he,hc,hd,h1,nT,ne,Heap.get?_update_self _ hT (Obj.isFreed_of_fields (FK dT _)),FK dT _,by simp[z3]⟩
theorem yl {g g' g'':Heap}(a:CJ g g')(b:g'.UpToSlots g''):g.UpToSlots g'':=fun x o q nf=>by
 obtain⟨sl,z⟩:=a x o q nf;obtain⟨sl2,z2⟩:=b x _ z nf;exact⟨sl2,z2⟩
theorem qp {oe:Obj}{us:Array Value}{Q:Unit->Shared->Prop}(fr:A.frames=some (env::outer))(hf:env.frame=some L)(hk:B.StaysIn s.heap)(hl:s.heap.FunFrames B (env::outer))
  (he:s.heap.get? e=some oe) (hb:B.get? e=none) (hd:oe.data=.fields us) (h1:us[1]? = some .none)
  (hq:∀ g,j6 B outer e oe.cls oe.dict g->s.heap.UpToSlots g->Q () { s with heap:=g }):wpAny M A (leaving env (.ref e)) Q E s:=by
 unfold leaving;refine D5 (r0 fr hl hf he hk hb hd h1 fun g a1 a2 a3 a4=>?_);exact lI (s:={ s with heap:=g }) a1 a2 a3 fun g2 b1 b2 b3 b4=>hq g2 ⟨b1,hb,b2.2.2,b3⟩ (yl a4 b4)
theorem tZ {Q:Unit->Shared->Prop}(fr:A.frames=some (env::outer))(hf:env.frame=some L)(fl:j6 B (env::outer) e c od s.heap)
  (hq:∀ g,j6 B outer e c od g->s.heap.UpToSlots g->Q () { s with heap:=g }):wpAny M A (leaving env (.ref e)) Q E s:=by
 obtain⟨f1,f2,f3,f4⟩:=fl;unfold leaving;refine D5 (m8 fr f3 hf f4 f1 f2 fun g a1 a2 a3 a4=>?_);exact lI (s:={ s with heap:=g }) a1 a2 a3 fun g2 b1 b2 b3 b4=>hq g2 ⟨b1,f2,b2.2.2,b3⟩ (yl a4 b4)
theorem wj {Q:Unit->Shared->Prop}(fr:A.frames=some (env::outer))(hf:env.frame=some L)(fl:j6 B (env::outer) e c od s.heap)
  (hq:∀ g,z8 B (env::outer) e c od L g->s.heap.UpToSlots g->Q () { s with heap:=g }):wpAny M A (noteFrame (.ref e) env) Q E s:=by
 obtain⟨f1,f2,f3,f4⟩:=fl;exact m8 fr f3 hf f4 f1 f2 fun g a1 a2 a3 a4=>hq g ⟨a1,f2,a2,a3⟩ a4
theorem AV {l:List Env}{Q:Unit->Shared->Prop}(hh:z8 B l e c od L s.heap)(hq:∀ g,j6 B l e c od g->s.heap.UpToSlots g->Q () { s with heap:=g }):wpAny M A (setFlight (.ref e) none) Q E s:=by
 obtain⟨f1,f2,f3,f4⟩:=hh;exact lI f1 f3 f4 fun g a1 a2 a3 a4=>hq g ⟨a1,f2,a2,a3⟩ a4
theorem jz {l:List Env}{Q:Unit->Shared->Prop}(hh:j6 B l e c od s.heap)(hq:∀ g,j6 B l e c od g->s.heap.UpToSlots g->Q () { s with heap:=g }):wpAny M A (setFlight (.ref e) none) Q E s:=by
 obtain⟨f1,f2,f3,f4⟩:=hh;exact lI f1 f3 f4 fun g a1 a2 a3 a4=>hq g ⟨a1,f2,a2,a3⟩ a4
end
abbrev sW:List Value:=[.type "ValueError",.type "Exception",.type "BaseException",.type "object"]
def exOb (C t:Addr)(od:Option Addr):Obj:={ cls:=.ref C,dict:=od,data:=.fields #[.ref t,.none,.none,.none,.bool false,.none] }
def eZ:List Value->Bool
 | .ref _::r=>eZ r
 | l=>l == sW
theorem k9 (self:Value):∀ {l:List Value},eZ l=true->refuseLoop self "__setattr__" l=pure ()
 | .ref c::r,e=>by rw[refuseLoop_ref];exact k9 self (l:=r) e
 | [],e=>by cases e
 | .type a::r,e=>by rw[show (.type a::r:List Value)=sW from FH.mp e];exact PySem.F.store_ValueError.passes self
 | .none::_,e=>by simp[eZ,sW]at e
 | .bool _::_,e=>by simp[eZ,sW]at e
 | .int _ _::_,e=>by simp[eZ,sW]at e
 | .str _ _::_,e=>by simp[eZ,sW]at e
 | .bytes _ _::_,e=>by simp[eZ,sW]at e
 | .float _ _::_,e=>by simp[eZ,sW]at e
 | .builtin _::_,e=>by simp[eZ,sW]at e
 | .ellipsis::_,e=>by simp[eZ,sW]at e
 | .notImplemented::_,e=>by simp[eZ,sW]at e
def gj (K:PySem.W.Frag)(C fI:Addr):Bool:=match K.lookup C with
 | some ⟨.type "type",_,.cls cd,sl⟩=>(match cd.mro,sl.toList with
  | .ref D::bm,[_,_,_,_,some (.builtin n),_]=>D == C&&n == "ValueError.__new__"&&!cd.hasDel&&PySem.W.tailIn K sW bm&&PySem.W.nsOkIn K cd.ns&&PySem.W.nsIn K cd.ns "__init__" == some (some (.ref fI))
  | _,_=>false)
 | _=>false
theorem ul {K:PySem.W.Frag}{h:Heap}{N:Addr}{mg:Str->Option Value}{n:Str}{v:Value}(X:K.In h)(G:h.Ns N mg)(e:PySem.W.nsIn K N n=some (some v)):mg n=some v:=by
 obtain⟨o,es,ep,ho,hd,hk,hf⟩:=G;unfold PySem.W.nsIn at e;split at e
 ·rename_i oc od es2 n2 sl hl
  have:=X _ _ hl;rw[ho]at this;cases this;cases hd;split at e
  ·rename_i en he
   cases e;rw[<-hf n];unfold nsFind findBy;rw[<-Array.find?_toList,he];rfl
  ·split at e<;>cases e
 ·cases e
theorem rK {K:PySem.W.Frag}{h:Heap}{C fI:Addr}(X:K.In h)(q:gj K C fI=true) :
  ∃ bm N nm qn bs hdct sn sub ab col dd k0 k1 k2 k3 k5 mN,h.get? C=some (excClassObj nm qn C N bs bm hdct sn sub ab col dd k0 k1 k2 k3 k5 "ValueError.__new__")/\h.Ns N mN/\mN "__init__" = some (.ref fI)/\OwnTail h sW bm:=by
 unfold gj at q;split at q
 ·rename_i dd cd sl ho
  split at q
  ·rename_i D bm k0 k1 k2 k3 n k5 hm hs
   simp only[EN,FH,Bool.not_eq_true']at q;obtain⟨⟨⟨⟨⟨rfl,rfl⟩,hdel⟩,ht⟩,hok⟩,hni⟩:=q;obtain⟨nm,bs,mro,ns,qn,hd,sn,sub,ab,col,del⟩:=cd;dsimp only at hm hdel hok hni;subst hm hdel
   have hsl:sl = #[k0,k1,k2,k3,some (.builtin "ValueError.__new__"),k5]:=by
    obtain⟨l⟩:=sl;simp only at hs;rw[hs]
   subst hsl;have G:h.Ns ns _:=.of_isNs (PySem.W.isNs_of_in X hok);exact⟨bm,ns,nm,qn,bs,hd,sn,sub,ab,col,dd,k0,k1,k2,k3,k5,_,X _ _ ho,G,ul X G hni,PySem.W.tail_of_in X ht⟩
  ·cases q
 ·cases q
structure Az (K:PySem.W.Frag)(C:Addr)(f:Str):Prop where
 ga:PySem.W.findIn K (.ref C) "__getattribute__" = some (some (.builtin "BaseException.__getattribute__"))
 gh:PySem.W.findIn K (.ref C) "__getattr__" = some none
 sa:PySem.W.findIn K (.ref C) "__setattr__" = some (some (.builtin "object.__setattr__"))
 na:PySem.W.findIn K (.ref C) f=some none
 hd:PySem.W.hasDictIn K C=true
 mb:PySem.W.mroIn K C (.type "BaseException")=some true
 mo:PySem.W.mroIn K C (.type "object")=some true
 ov:((PySem.W.clsIn K C).any fun cd=>eZ cd.mro)=true
section
variable {prog:Program}{w:World}{A:Around}{E:Value->Shared->Prop}{s:Shared}{K:PySem.W.Frag}{x dx C:Addr}{mA:Str->Option Value}{f:Str}{v:Value}
theorem A0 {expr:Bool}{ox:Obj}{us:Array Value}{Q:Value->Shared->Prop}(X:K.In s.heap)(c:Az K C f)(hx:s.heap.get? x=some ox)(hc:ox.cls=.ref C)(hd:ox.dict=some dx)(hf:ox.data=.fields us)
  (n:s.heap.Ns1 dx mA) (hv:mA f=some v) (hh:PySem.W.handedIn v=true) (h:Q v { s with toks:=s.toks+1 }):wpAny (model prog w) A (getAttr (.ref x) f expr) Q E s:=by
 obtain⟨od,ho,hl⟩:=pG n;have J:PySem.W.InstAt s.heap x ox C (some od):=⟨hx,hc,by unfold PySem.W.notCls;rw[hf],by rw[hd];exact ho⟩;have L0:=J.type (M:=model prog w);have L1:=PySem.W.looks_findIn (M:=model prog w) X c.ga;have L2:=PySem.W.looks_findIn (M:=model prog w) X c.gh;have L3:=PySem.W.looks_find (M:=model prog w) X J (PySem.W.findObj_own c.hd c.na rfl (by rw[hl,hv]));have L4:PySem.W.Looks (model prog w) s.heap (isInstance (.ref x) (.type "BaseException")) true:=L0.andThen (PySem.W.looks_mroIn X c.mb);have G:=PySem.F.excAttr_ValueError.ga;refine D5 (wpAny_mkText (EK (D5 (L0 _ _ _ _ (fun _ _ e=>e) (D5 (L1 _ _ _ _ (fun _ _ e=>e) ?_))))));dsimp only
 have hx2:(Value.builtin "BaseException.__getattribute__" == Value.builtin "object.__getattribute__")=false:=by decide +kernel
 rw[hx2,Bool.and_false,D7 (by decide)];refine D5 ?_;unfold hookBefore;rw[D8 (show onTheHeap (Value.ref C)=true from rfl)];refine L2 _ _ _ _ (fun _ _ e=>e) (D5 (wpAny_attempt (EK ?_)));unfold callGetattribute;rw[show (expr&&onTheHeap (Value.builtin "BaseException.__getattribute__"))=false from Bool.and_false _,D7 (by decide)];unfold boundAndCalled;rw[G.bind];refine D5 (Ea ?_)
 show wpAny _ _ (call (.builtin "BaseException.__getattribute__") [.ref x,.str f s.toks]) _ _ _
 refine FR (FB G.plain PySem.F.entry_bexc_ga ?_);refine @PySem.W.check_slot (model prog w) _ _ { s with toks:=s.toks+1 } "BaseException.__getattribute__" "BaseException" "__getattribute__" (.ref x) [.str f s.toks] [] _ (by decide +kernel) (by decide +kernel) L4 (PySem.F.args_bexc_ga _ _) ?_;refine D5 (Ea (D5 (Ea (D5 (L0 _ _ _ _ (fun _ _ e=>e) (D5 (L3 _ _ _ _ (fun _ _ e=>e) ?_)))))));refine Ea ?_
 show wpAny _ _ (handedOut v) _ _ _
 rw[PySem.W.handedOut_of hh];exact Ea h
theorem A1 {t:Addr}{Q:Unit->Shared->Prop}(X:K.In s.heap)(c:Az K C f)(hx:s.heap.get? x=some (exOb C t none))
  (h:∀ h' tk,h'.get? x=some (exOb C t (some s.heap.objs.size))->h'.Ns1 s.heap.objs.size (fun y=>if y=f then some v else none)->(∀ b o,b≠x->s.heap.get? b=some o->h'.get? b=some o)->Q () { s with heap:=h',toks:=tk }) :
  wpAny (model prog w) A (setAttr (.ref x) f v) Q E s:=by
 have J:PySem.W.InstAt s.heap x (exOb C t none) C none:=⟨hx,rfl,rfl,trivial⟩;have SF:=PySem.F.store_ValueError;obtain⟨cd,hcd,ho⟩:=PySem.W.any_some c.ov;obtain⟨cd',hcd',hd'⟩:=PySem.W.any_some c.hd
 have e0:cd'=cd:=by rw[hcd]at hcd';exact (Ef hcd').symm
 subst e0;have L0:=J.type (M:=model prog w);have sub:PySem.W.Looks (model prog w) s.heap (isInstance (.ref x) (.type "object")) true:=L0.andThen (PySem.W.looks_mroIn X c.mo);have hm:PySem.W.Looks (model prog w) s.heap (mroOf (.ref C)) cd'.mro:=(PySem.W.looks_clsIn X hcd).andThen .now;refine PySem.W.set_plain X J c.sa ?_;refine FB SF.slot.plain SF.entry (@PySem.W.check_slot (model prog w) _ _ { s with toks:=s.toks+1 } "object.__setattr__" "object" "__setattr__" (.ref x) [.str f s.toks,v] [] _ SF.kind SF.split sub (SF.args (.ref x) (.str f s.toks) v) ?_);rw[PySem.W.osa_eq,refuse_eq];refine D5 (D5 (L0 _ _ _ _ (fun _ _ e=>e) (D5 (hm _ _ _ _ (fun _ _ e=>e) ?_))));rw[k9 _ ho];refine Ea (D5 (L0 _ _ _ _ (fun _ _ e=>e) (D5 (PySem.W.looks_findIn X c.na _ _ _ _ (fun _ _ e=>e) (D5 (Ea ?_))))));refine D5 (Ea (D5 (D5 (wpAny_loadPart hx (D5 (PySem.W.Looks.here (s:={ s with toks:=s.toks+1 }) (PySem.W.looks_clsIn X hcd) ?_))))));rw[hd'];rw[D7 (by decide)];have hxs:x≠s.heap.objs.size:=Em (Eg hx);have hx1:(s.heap.push { cls:=.type "dict",data:=.dict #[] }).get? x=some (exOb C t none):=Heap.get?_push_of_some _ hx
 show wpAny (model prog w) A.in1 (alloc { cls:=.type "dict",data:=.dict #[] } >>= fun dA=>(update x fun o=>{ cls:=o.cls,dict:=some dA,data:=o.data,slots:=o.slots }) >>= fun _=>dictMade (Value.ref C) x dA) _ _ _
 refine D5 (wpAny_alloc' (D5 (wpAny_update' hx1 (Ea ?_))));generalize hg:((s.heap.push { cls:=.type "dict",data:=.dict #[] }).update x fun o=>{ cls:=o.cls,dict:=some s.heap.objs.size,data:=o.data,slots:=o.slots })=g1
 have hgd:g1.get? s.heap.objs.size=some { cls:=.type "dict",data:=.dict #[] }:=by
  rw[<-hg,Heap.get?_update_ne _ _ _ _ hxs.symm];exact Heap.get?_push_at rfl rfl
 have hgx:g1.get? x=some (exOb C t (some s.heap.objs.size)):=by rw[<-hg];exact Heap.get?_update_self _ hx1 rfl
 have hgo:∀ b o,b≠x->s.heap.get? b=some o->g1.get? b=some o:=fun b o n q=>by rw[<-hg,Heap.get?_update_ne _ _ _ _ n];exact Heap.get?_push_of_some _ q
 have hnd:g1.Ns s.heap.objs.size (fun _=>none):=⟨_,#[],_,hgd,rfl,fun e he=>absurd he (by simp),fun _=>rfl⟩
 show wpAny _ _ (Builtin.ObjectAttr.storeInDict s.heap.objs.size (.str f s.toks) f v) _ _ _
 unfold Builtin.ObjectAttr.storeInDict Builtin.ObjectAttr.newKeyGuard;refine D5 (Ea (D5 (wpAny_nsSet1 (Heap.Ns1.of_empty hnd) fun h' hn2 hs2=>?_)));obtain⟨oD,esD,epD,hoD,hdD,hcD⟩:=hn2.count (PySem.Within.cons f v PySem.Within.nil);refine D5 (wpAny_lookBehind hoD (by rw[hdD];exact pastItsLine_dict (EC hcD (by rw[Eu,List.length_nil,EZ];omega))) ?_);refine Ea (h h' _ ((hs2.2 x hxs).trans hgx) hn2 fun b o n q=>?_);exact (hs2.2 b (Em (Eg q))).trans (hgo b o n q)
theorem xR {t fI:Addr}{u:Value}{Q:Value->Shared->Prop}(X:K.In s.heap)(c:gj K C fI=true)(hx:s.heap.get? x=some (exOb C t none))
  (h:∀ h' t',h'.get? x=some (exOb C t' none)->(∀ b o,b≠x->s.heap.get? b=some o->h'.get? b=some o)->Q .none { s with heap:=h' }) :
  wpAny (model prog w) A (call (.builtin "ValueError.__init__") [.ref x,u]) Q E s:=by
 have F:=FA;obtain⟨bm,N,nm,qn,bs,hdct,sn,sub,ab,col,dd,k0,k1,k2,k3,k5,mN,hC,hN,hni,T⟩:=rK X c;obtain⟨hp,g,d,tk,os⟩:=s;refine FR (FB F.init.plain F.initEntry (wpAny_check_init_subT F T hC hx rfl ?_));unfold Builtin.«BaseException.__init__»;dsimp only;rw[D7 (by simp)];unfold newTuple Builtin.BaseException.bexcPut;have hx1:=Heap.get?_push_of_some (h:=hp) { cls:=.type "tuple",data:=.seq #[u] } hx;refine D5 (EL (D5 (D5 (FL hx1 rfl rfl (D5 (FQ hx1 rfl (by show 0<6;decide) ?_))))) (by size_fits));refine wpAny_letGo (Ea (h _ hp.objs.size ?_ fun b o n q=>?_))
 ·exact Heap.get?_update_self _ hx1 rfl
 ·rw[Heap.get?_update_other _ _ (Eo n)];exact Heap.get?_push_of_some _ q
end
end L2
namespace PySem
open Sem (wp)
section
variable {prog:Program}{w:World}{A:Around}{E:Value->Shared->Prop}{h:Heap}{g:Array GenState}{d:Drawn}{t:Nat}{os:OsState}
variable {nm q:Str}{C N:Addr}{bs bm bmB:List Value}{hdct:Bool}{sn:List Str}{sub:List Value}{ab:Bool}{col:Option Bool}{dd:Option Addr}{k0 k1 k2 k3 k5:Option Value}{B newId initId:String}
theorem j3 (F:ExcBaseFacts B newId initId bmB)(T:OwnTail h bmB bm){mN:Str->Option Value}{rest:List Value}{fI:Addr}{oI:Obj}{Q:Fin->Shared->Prop}
  (hC:h.get? C=some (excClassObj nm q C N bs bm hdct sn sub ab col dd k0 k1 k2 k3 k5 newId)) (hn:h.Ns N mN) (hi:mN "__init__" = some (.ref fI)) (hfI:h.get? fI=some oI) (hfc:oI.cls=.type "function")
  (hq:∀ h' e,Heap.MadeExcOf h h' e (.ref C) rest->wpAny (model prog w) A (call (.ref fI) (.ref e::rest)) (fun r s'=>r=.none/\Q (.done (.ret (.ref e))) s') E ⟨h',g,d,t,os⟩) (hrest:rest.length<=sizeLine) :
  wpAny (model prog w) A (Builtin.«type.__call__» ⟨.ref C::rest,[]⟩) Q E ⟨h,g,d,t,os⟩:=by
 repeat (first | with_reducible refine FO hC ?_ | with_reducible refine wpAny_madeBy_exc hC ?_ | wp_step)
 refine codeAny_call_builtin_code (Code.quiet_builtin _ F.quiet) (wpAny_check_new_subT F T hC ?_);refine codeAny_exc_new_subT F T hC ?_ hrest
 show wpAny _ _ _ _ _ _
 have keep:∀ b o,h.get? b=some o->((h.push { cls:=.type "tuple",data:=.seq rest.toArray }).push { cls:=.ref C,data:=.fields #[.ref h.objs.size,.none,.none,.none,.bool false,.none] }).get? b=some o:=fun b o e=>Heap.get?_push_of_some _ (Heap.get?_push_of_some _ e);have hC1:=keep _ _ hC;have hn1:=hn.keeps keep
 have hget:((h.push { cls:=.type "tuple",data:=.seq rest.toArray }).push { cls:=.ref C,data:=.fields #[.ref h.objs.size,.none,.none,.none,.bool false,.none] }).get? (h.objs.size+1)=some { cls:=.ref C,data:=.fields #[.ref h.objs.size,.none,.none,.none,.bool false,.none] }:=by heap_get
 have hcC:(Value.ref C::bm).contains (.ref C)=true:=by simp
 have T1:=T.keeps keep;unfold isInstance
 repeat (first | with_reducible refine FO hget ?_ | (with_reducible refine wpAny_isSubtype_exc hC1 ?_;rw[hcC]) | wp_step)
 show wpAny _ _ (typeLookup (.ref C) _) _ _ _
 refine wpAny_typeLookup_tail hC1 hn1 T1 F.mroIs F.init.lookup ?_;rw[hi];refine EK (D5 ?_);unfold bindSpecial;refine D5 (wpAny_typeOf (T:="function") ⟨_,keep _ _ hfI,hfc⟩ ?_);rw[D8 (by decide)];refine Ea (D5 (Ew (hq _ (h.objs.size+1) ⟨keep,Heap.get?_none_of_le (Fw _),h.objs.size,hget,Heap.get?_none_of_le (D9 _),Heap.get?_push_of_some _ (Heap.get?_push_at rfl rfl)⟩) (fun r s' hr=>?_) fun _ _ x=>x));obtain⟨rfl,hQ⟩:=hr
 wp_walk
 exact hQ
theorem rj (F:ExcBaseFacts B newId initId bmB)(T:OwnTail h bmB bm){mN:Str->Option Value}{rest:List Value}{fI:Addr}{oI:Obj}{Q:Value->Shared->Prop}
  (hC:h.get? C=some (excClassObj nm q C N bs bm hdct sn sub ab col dd k0 k1 k2 k3 k5 newId)) (hn:h.Ns N mN) (hi:mN "__init__" = some (.ref fI)) (hfI:h.get? fI=some oI) (hfc:oI.cls=.type "function")
  (hq:∀ h' e,Heap.MadeExcOf h h' e (.ref C) rest->wpAny (model prog w) (A.under (.builtin "type.__call__" ⟨.ref C::rest,[]⟩)) (call (.ref fI) (.ref e::rest)) (fun r s'=>r=.none/\Q (.ref e) s') E ⟨h',g,d,t,os⟩) (hrest:rest.length<=sizeLine) :
  wpAny (model prog w) A (call (.ref C) rest) Q E ⟨h,g,d,t,os⟩:=by
 have f1:=tc_lookup;have f2:=tc_bind (.ref C);have hT:(⟨h,g,d,t,os⟩:Shared).TypeIs (.ref C) "type":=⟨_,hC,rfl⟩;refine FR (codeAny_of_tree ?_)
 show wpAny _ _ (callAny (.ref C) _) _ _ _
 repeat (any_goals (first | assumption | with_reducible refine FO hC ?_ | wp_step))
 refine⟨rfl,?_⟩;refine codeAny_call_builtin_at (Code.quiet_builtin _ (by decide +kernel)) entry_typeCall (wpAny_check_type_call_sub hC (j3 F T hC hn hi hfI hfc (fun h' e hm=>?_) hrest));exact hq h' e hm
theorem yG {x:Sem Value}{s:Shared}{env:Env}{Q:Flow->Shared->Prop}(hbase:bm.contains (.type "BaseException")=true)(hh:A.handled=none)
  (h:wpAny (model prog w) A x (fun v s1=>∃ e t od,v=.ref e/\s1.heap.get? C=some (excClassObj nm q C N bs bm hdct sn sub ab col dd k0 k1 k2 k3 k5 newId)/\s1.heap.get? e=some (L2.exOb C t od)/\E (.ref e) s1) E s) :
  wpAny (model prog w) A (raiseStmt env (some x) none) Q E s:=by
 have hcB:(Value.ref C::bm).contains (.type "BaseException")=true:=by rw[List.contains_cons,hbase,Bool.or_true]
 unfold raiseStmt;refine D5 (Ew h (fun v s1 h1=>?_) fun _ _ x=>x);obtain⟨e,t,od,rfl,hC,he,hE⟩:=h1;obtain⟨hp,g,d,tk,os⟩:=s1;unfold L2.exOb at he
 repeat (first | with_reducible refine FO he ?_ | with_reducible refine FO hC ?_ | (with_reducible refine wpAny_isSubtype_exc hC ?_;rw[hcB]) | wp_step)
 exact wpAny_raiseNew_none hh hE
end
end PySem
namespace L2
open PySem PySem.Spec PyProof.Rows
abbrev fu (K:PySem.W.Frag)(C:Addr):Prop:=PySem.W.excIn K C sW "ValueError.__new__" = true
theorem y7 {K:PySem.W.Frag}{h:Heap}{C:Addr}(X:K.In h)(q:fu K C) :
  ∃ bm N nm qn bs hdct sn sub ab col dd k0 k1 k2 k3 k5 mN,h.get? C=some (excClassObj nm qn C N bs bm hdct sn sub ab col dd k0 k1 k2 k3 k5 "ValueError.__new__")/\h.Ns N mN/\mN "__init__" = none/\OwnTail h sW bm:=by
 have q:PySem.W.excIn K C sW "ValueError.__new__" = true:=q;unfold PySem.W.excIn at q;split at q
 ·rename_i dd cd sl ho
  split at q
  ·rename_i C' bm k0 k1 k2 k3 n k5 hm hs
   simp only[EN,FH,Bool.not_eq_true']at q;obtain⟨⟨⟨⟨⟨rfl,rfl⟩,hdel⟩,ht⟩,hok⟩,hni⟩:=q;obtain⟨nm,bs,mro,ns,qn,hd,sn,sub,ab,col,del⟩:=cd;dsimp only at hm hdel hok hni;subst hm hdel
   have hsl:sl = #[k0,k1,k2,k3,some (.builtin "ValueError.__new__"),k5]:=by
    obtain⟨l⟩:=sl;simp only at hs;rw[hs]
   subst hsl;exact⟨bm,ns,nm,qn,bs,hd,sn,sub,ab,col,dd,k0,k1,k2,k3,k5,_,X _ _ ho,.of_isNs (PySem.W.isNs_of_in X hok),PySem.W.nsMap_none_of_in X hok hni,PySem.W.tail_of_in X ht⟩
  ·cases q
 ·cases q
def rJ (e C:Addr)(od:Option Addr):HO:=.ext fun h=>∃ t,h.get? e=some (exOb C t od)
theorem tO {P:Program}{w:World}{H:Hp}{h:Heap}{e C t:Addr}{od:Option Addr}(q:h.get? e=some (exOb C t od)):aT P w H h e (rJ e C od):=⟨⟨t,q⟩,⟨_,q⟩,fun h1 h2 ⟨t,q⟩ k=>⟨t,k _ q⟩⟩
def o4 (H:Hp)(a:Addr):Hp:=fun b=>if b=a then none else H b
theorem iJ {H:Hp}{a b:Addr}(h:b≠a):o4 H a b=H b:=by unfold o4;rw[D7 h]
theorem wZ {H:Hp}{a:Addr}:o4 H a a=none:=by unfold o4;rw[D8 rfl]
theorem ar.untrack {X:Cx}{pins:List (Addr×Obj)}{σ:St}{H:Hp}{s:Shared}{a:Addr}{φ:Heap->Prop}(I:ar X pins σ H s)(e:H a=some (.ext φ)):ar X pins σ (o4 H a) s:=by
 have ne:∀ b o,H b=some o->(∀ ψ,o≠.ext ψ)->b≠a:=fun b o q n z=>by rw[z,e]at q;cases q;exact n _ rfl
 have u:Un X.fs [] H (o4 H a) s.heap s.heap :=
  ⟨fun b o q _ _ _=>q,fun b o q _ _ _=>⟨o.slots,q⟩,fun b o q n _=>by unfold o4;split<;>first | rfl | exact n,fun b o q _=>⟨o,q⟩,fun b xs q=>by rw[iJ (ne b _ q fun ψ z=>nomatch z)];exact q,fun b o u q=>by rw[iJ (ne b _ q fun ψ z=>nomatch z)];exact q,fun b ps q=>⟨#[],by rw[iJ (ne b _ q fun ψ z=>nomatch z),q];simp⟩⟩
 have hk:gO X.prog X.w (o4 H a) s.heap:=fun b o q=>by
  by_cases hb:b=a
  ·rw[hb,wZ]at q;cases q
  ·rw[iJ hb]at q
   exact (I.hok b o q).stay (fun c v _ r=>r) (fun c r=>by rw[iJ (ne c _ r fun ψ z=>nomatch z)];exact r) fun c xs r=>by rw[iJ (ne c _ r fun ψ z=>nomatch z)];exact r
 exact I.un (t':=s.toks) u hk
theorem aT.has {P:Program}{w:World}{H:Hp}{h:Heap}{a:Addr}{o:HO}(x:aT P w H h a o):∃ u,h.get? a=some u:=by
 cases o with
 | lst xs=>obtain⟨_,_,_,_,e⟩:=x;exact⟨_,e⟩
 | tup xs=>obtain⟨_,_,_,u,e,_⟩:=x;exact⟨u,e⟩
 | dK kvs=>obtain⟨_,_,_,_,o,_,_,e,_⟩:=x;exact⟨o,e⟩
 | dT kvs=>obtain⟨_,_,_,_,o,_,_,e,_⟩:=x;exact⟨o,e⟩
 | set S n=>obtain⟨o,_,_,_,e,_⟩:=x;exact⟨o,e⟩
 | ins C dx fs=>obtain⟨_,_,_,e,_⟩:=x;exact⟨_,e⟩
 | own y=>exact x
 | xd fs=>obtain⟨_,⟨o,_,_,e,_⟩,_⟩:=x;exact⟨o,e⟩
 | rng lo hi=>obtain⟨_,_,_,e⟩:=x;exact⟨_,e⟩
 | frz ob u=>obtain⟨e,_⟩:=x;exact⟨ob,e⟩
 | tbl ps=>exact⟨_,(show h.get? a=some _ from x)⟩
 | met f y=>exact⟨_,(show h.get? a=some _ from x)⟩
 | ext φ=>obtain⟨_,e,_⟩:=x;exact e
def iN (P:Program)(w:World):sY:=fun outer H s E e s'=>∃ (ea C:Addr)(od:Option Addr)(H':Hp)(B:Heap),e=.ref ea/\j6 B outer ea (.ref C) od s'.heap/\Un (hG outer) [] H H' s.heap s'.heap/\gO P w H' s'.heap/\s'.os=s.os/\AllBare s'.gens /\
 (∀ b o,s.heap.get? b=some o->b∉hG outer->∃ o',B.get? b=some o')/\(∀ b o,H' b=some o->∃ o',B.get? b=some o')/\E (.ref C) od H'
theorem yB {fs:List Addr}{H H':Hp}{h h1 h2 B:Heap}(u:Un fs [] H H' h h1)(b1:B.StaysIn h1)(b2:B.StaysIn h2)(hb:∀ b o,h.get? b=some o->b∉fs->∃ o',B.get? b=some o')(sl:∀ b o,b∈fs->h.get? b=some o->H b=none->∃ sl,h2.get? b=some { o with slots:=sl })(th:∀ b o,b∈fs->h.get? b=some o->∃ o',h2.get? b=some o'):Un fs [] H H' h h2:=by
 have eq:∀ b o,h.get? b=some o->b∉fs->h2.get? b=h1.get? b:=fun b o e hf=>by
  obtain⟨o',e'⟩:=hb b o e hf;rw[b1 b o' e',b2 b o' e']
 refine⟨fun b o e n hf hx=>(eq b o e hf).trans (u.keep b o e n hf hx),fun b o e n hf hx=>sl b o hf e n,u.free,fun b o e hx=>?_,u.tups,u.frzs,u.tbls⟩
 by_cases hf:b∈fs
 ·exact th b o hf e
 ·rw[eq b o e hf];exact u.there b o e hx
theorem tU {P:Program}{w:World}{H:Hp}{h1 h2 B:Heap}(x:gO P w H h1)(b1:B.StaysIn h1)(b2:B.StaysIn h2)(hb:∀ b o,H b=some o->∃ o',B.get? b=some o'):gO P w H h2:=fun a o e =>
 (x a o e).stay (fun b u hc q=>by
  have:∃ o',B.get? b=some o':=by
   rcases hc with z | z
   ·rw[z];exact hb a o e
   ·exact hb b _ z
  obtain⟨o',e'⟩:=this;rw[b1 b o' e']at q;rw[<-q]
  exact b2 b o' e') (fun _ q=>q) fun _ _ q=>q
def rn (X:Cx)(E:XK):Prop:=∀ (pins:List (Addr×Obj))(σ:St)(H:Hp)(s:Shared)(ea C t:Addr)(od:Option Addr),ar X pins σ H s->s.heap.get? ea=some (exOb C t od)->H ea=none->X.s₀.heap.get? ea=none->E (.ref C) od H->X.xe (.ref ea) s
section
variable {P:Program}{w:World}{K:PySem.W.Frag}{mg:Str->Option Value}{base:Heap}{N:List Str}{qual:Str}{sc:Scope}{f:Addr}{cd:Value}{A:Around}{outer:List Env}{s0:Shared}{H0:Hp}{E:XK}
theorem dE:rn (mr (iN P w) P w K mg base N qual sc f cd A outer s0 H0 E) E:=by
 intro pins σ H s ea C t od I hx hn hs hE
 let X:Cx:=mr (iN P w) P w K mg base N qual sc f cd A outer s0 H0 E
 show wpAny _ _ (leaving _ _) _ _ _
 have hstk:(X.A.frames:Option (List Env))=some (X.env::outer):=I.ok.frames
 have frS:hG X.stack=X.env.locals::hG outer:=by unfold hG;rfl
 let B:Heap:=PySem.W.hideAll s.heap (ea::hG X.stack)
 have hkb:B.StaysIn s.heap:=fun b o q=>PySem.W.of_hideAll _ q;have inB:∀ b o,s.heap.get? b=some o->b≠ea->b∉hG X.stack->B.get? b=some o:=fun b o e ne hf=>PySem.W.hideAll_get _ e (fun z=>(Eh.mp z).elim ne hf);have hl:s.heap.FunFrames B (X.env::outer):=PySem.W.funFrames_hide I.stack fun env he a hf=>Eb _ (List.mem_filterMap.mpr ⟨env,he,hf⟩);refine qp (s:=s) hstk rfl hkb hl hx (PySem.W.hideAll_none _ Ec) rfl rfl fun h2 fl ups=>?_;have ltl:∀ b o,s0.heap.get? b=some o->b≠X.env.locals:=fun b o e=>Em (Ep (Eg e) I.ok.above)
 have h0B:∀ b o,s0.heap.get? b=some o->b∉hG outer->∃ o',B.get? b=some o':=fun b o e hf=>by
  obtain⟨o',e'⟩:=I.base.there b o e (by intro z;exact absurd (show b∈([]:List Addr) from z) (by simp));refine⟨o',inB b o' e' (fun z=>?_) ?_⟩
  ·have hs':s0.heap.get? ea=none:=hs
   rw[z,hs']at e;cases e
  ·rw[frS]
   intro z;rcases Eh.mp z with z | z
   ·exact ltl b o e z
   ·exact hf z
 have trB:∀ b o,H b=some o->∃ o',B.get? b=some o':=fun b o e=>by
  obtain⟨u,q⟩:=(I.hok b o e).has;exact⟨u,inB b u q (fun z=>by rw[z,hn]at e;cases e) fun z=>by rw[I.stkFree b z]at e;cases e⟩
 have noEx:∀ b,b∉X.ex:=fun b z=>absurd (show b∈([]:List Addr) from z) (by simp)
 have slot2:∀ b o,b∈hG outer->s0.heap.get? b=some o->H0 b=none->∃ sl,h2.get? b=some { o with slots:=sl }:=fun b o hf e n=>by
  obtain⟨sl,e1⟩:=I.base.slot b o e n hf (noEx b);obtain⟨_,o2,ho2,hnf⟩:=I.ok.funs.mem hf
  have e2:o2=o:=by
   have:s0.heap.get? b=some o2:=ho2;rw[e]at this;exact (Ef this).symm
  subst e2;obtain⟨sl2,e3⟩:=ups b _ e1 hnf;exact⟨sl2,e3⟩
 refine⟨ea,C,od,H,B,rfl,fl,?_,tU I.hok hkb fl.1 trB,I.os,I.bare,h0B,trB,hE⟩;refine yB (h1:=s.heap) I.base hkb fl.1 h0B (fun b o hf e n=>?_) fun b o hf e=>?_
 ·exact slot2 b o hf e n
 ·obtain⟨sl,q⟩:=slot2 b o hf e (I.ok.frf b hf)
  exact⟨_,q⟩
theorem e7:dL (iN P w) (mr (iN P w) P w K mg base N qual sc f cd A outer s0 H0 E) E:=by
 intro pins σ H s e s' I hc;obtain⟨ea,C,od,H',B,rfl,fl,un,hok,os,bare,hsB,trB,hE⟩:=hc
 let X:Cx:=mr (iN P w) P w K mg base N qual sc f cd A outer s0 H0 E
 show wpAny _ _ (leaving _ _) _ _ _
 have hstk:(X.A.frames:Option (List Env))=some (X.env::outer):=I.ok.frames
 have frS:hG X.stack=X.env.locals::hG outer:=by unfold hG;rfl
 refine tZ hstk rfl fl fun h2 fl2 ups=>?_;have ltl:∀ b o,s0.heap.get? b=some o->b≠X.env.locals:=fun b o e=>Em (Ep (Eg e) I.ok.above);have noEx:∀ b,b∉X.ex:=fun b z=>absurd (show b∈([]:List Addr) from z) (by simp)
 have h0B:∀ b o,s0.heap.get? b=some o->b∉hG outer->∃ o',B.get? b=some o':=fun b o e hf=>by
  obtain⟨o',e'⟩:=I.base.there b o e (noEx b);refine hsB b o' e' ?_;rw[frS];intro z;rcases Eh.mp z with z | z
  ·exact ltl b o e z
  ·exact hf z
 have unS:Un (hG outer) [] H0 H' s0.heap s'.heap:=by
  have u1:Un (hG outer) [] H0 H s0.heap s.heap:=I.base;refine⟨fun b o e n hf hx=>?_,fun b o e n hf hx=>?_,fun b o e n hx=>?_,fun b o e hx=>?_,fun b xs q=>un.tups b xs (u1.tups b xs q),fun b o u q=>un.frzs b o u (u1.frzs b o u q),fun b ps q=>?_⟩
  ·refine un.keep b o (u1.keep b o e n hf hx) (u1.free b o e n hx) ?_ hx
   rw[frS];intro z;rcases Eh.mp z with z | z
   ·exact ltl b o e z
   ·exact hf z
  ·obtain⟨sl,e1⟩:=u1.slot b o e n hf hx
   obtain⟨sl2,e2⟩:=un.slot b _ e1 (u1.free b o e n hx) (by rw[frS];exact Eb _ hf) hx;exact⟨sl2,e2⟩
  ·obtain⟨o',e'⟩:=u1.there b o e hx
   exact un.free b o' e' (u1.free b o e n hx) hx
  ·obtain⟨o',e'⟩:=u1.there b o e hx
   exact un.there b o' e' hx
  ·obtain⟨m1,e1⟩:=u1.tbls b ps q
   obtain⟨m2,e2⟩:=un.tbls b _ e1;exact⟨m1++m2,by rw[e2,Array.append_assoc]⟩
 have slot2:∀ b o,b∈hG outer->s0.heap.get? b=some o->H0 b=none->∃ sl,h2.get? b=some { o with slots:=sl }:=fun b o hf e n=>by
  obtain⟨sl,e1⟩:=unS.slot b o e n hf (by simp);obtain⟨_,o2,ho2,hnf⟩:=I.ok.funs.mem hf
  have e2:o2=o:=by
   have:s0.heap.get? b=some o2:=ho2;rw[e]at this;exact (Ef this).symm
  subst e2;obtain⟨sl2,e3⟩:=ups b _ e1 hnf;exact⟨sl2,e3⟩
 refine⟨ea,C,od,H',B,rfl,fl2,?_,tU hok fl.1 fl2.1 trB,os.trans I.os,bare,h0B,trB,hE⟩;refine yB (h1:=s'.heap) unS fl.1 fl2.1 h0B (fun b o hf e n=>slot2 b o hf e n) fun b o hf e=>?_;obtain⟨sl,q⟩:=slot2 b o hf e (I.ok.frf b hf);exact⟨_,q⟩
end
theorem ar.fresh0 {X:Cx}{pins:List (Addr×Obj)}{σ:St}{H:Hp}{s:Shared}{a:Addr}(I:ar X pins σ H s)(hx:a∉X.ex)(h:s.heap.get? a=none):X.s₀.heap.get? a=none:=by
 cases e:X.s₀.heap.get? a with
 | none=>rfl
 | some o =>
  obtain⟨o',q⟩:=I.base.there a o e hx;rw[h]at q;cases q
theorem ar.unheld {X:Cx}{pins:List (Addr×Obj)}{σ:St}{H:Hp}{s:Shared}{a:Addr}(I:ar X pins σ H s)(h:s.heap.get? a=none):H a=none:=by
 cases e:H a with
 | none=>rfl
 | some o =>
  obtain⟨u,q⟩:=(I.hok a o e).has;rw[h]at q;cases q
def Bs (te:TE)(C:Addr)(E:XK):TS:=fun _ σ H=>te σ H fun _ H1=>E (.ref C) none H1
theorem jH {X:Cx}{C:Addr}{E:XK}{x:Str}{e:Expr}{te:TE}{np cpos pos:Pos}(q:fu X.K C)(hfl:rn X E)(hex:X.ex=[])(hh:X.A.handled=none)(hg:Gl X x)(hm:X.mg x=some (.ref C))(he:PE X e te)
  (hdb:(x == ("__debug__" : Str))=false:=by decide) (hs:starEach [e] X.env=[(false,eval e X.env)]:=by rfl) :
  PS X (.Raise (some (.Call (.Name x np) [e] [] cpos)) none pos) (Bs te C E):=by
 intro pins s σ H D I h;obtain⟨bm,N,nm,qn,bs,hdct,sn,sub,ab,col,dd,k0,k1,k2,k3,k5,mN,hC,hN,hni,T⟩:=y7 I.ok.mod.kin q
 refine wpAny_Raise_call_subT (C:=C) (nm:=nm) (q:=qn) (N:=N) (bs:=bs) (bm:=bm) (hdct:=hdct) (sn:=sn) (sub:=sub) (ab:=ab) (col:=col) (dd:=dd) (k0:=k0) (k1:=k1) (k2:=k2) (k3:=k3) (k5:=k5)
  FA (mN:=mN) (T.hasType FA.hasBase) hh (by rw[hs];rfl) hni (dq I hg hm ⟨rfl,?_⟩ hdb)
 rw[hs];refine E6 (EM (aU (he pins s σ H _ I h) fun u s1 ⟨v,H1,I1,rv,q1⟩=>Ff ?_));refine⟨rfl,(show 1<=sizeLine by decide),I1.bk _ _ hC,hN.keeps I1.bk,T.keeps I1.bk,fun h' ea hx=>?_⟩;obtain⟨t,hea,_,_⟩:=hx.there;exact hfl pins σ H1 { s1 with heap:=h' } ea C t none (I1.kept (t':=s1.toks) hx.keeps) hea (I1.unheld hx.new) (I1.fresh0 (by rw[hex];simp) hx.new) q1
section
variable {X:Cx}{pins:List (Addr×Obj)}{σ:St}{H:Hp}{s:Shared}
theorem ar.laidN {a:Addr}{o:HO}{h':Heap}{t':Nat}(I:ar X pins σ H s)(k:∀ b u,s.heap.get? b=some u->h'.get? b=some u)(hp:s.heap.get? a=none)(new:aT X.prog X.w (upd H a o) h' a o) :
  ar X pins σ (upd H a o) { s with heap:=h',toks:=t' }:=by
 have hn:=I.unheld hp
 have ne:∀ b u,s.heap.get? b=some u->b≠a:=fun b u q z=>by rw[z,hp]at q;cases q
 refine I.un ⟨fun b u q _ _ _=>k b u q,fun b u q _ _ _=>⟨u.slots,k b u q⟩,fun b u q n _=>by rw[ae (ne b u q)];exact n,fun b u q _=>⟨u,k b u q⟩,fun b xs q=>by rw[ae (aj q hn)];exact q,fun b u xs q=>by rw[ae (aj q hn)];exact q,fun b ps q=>⟨#[],by rw[ae (aj q hn),q];simp⟩⟩ fun b u e=>?_
 by_cases hb:b=a
 ·subst hb;rw[ac]at e;cases e;exact new
 ·rw[ae hb]at e
  exact (I.hok b u e).stay (fun c v _ q=>k c v q) (fun c q=>by rw[ae (aj q hn)];exact q) fun c xs q=>by rw[ae (aj q hn)];exact q
end
inductive wM (C:Addr) (f:Str) (vs:List V) (H:Hp) (Q:VK) (E_:XK):Prop
 | mk (ea:Addr) (g:Int) (h_0:vs=[.ref ea,.int g]) (h_1:g.natAbs<10 ^ 100) (h_2:H ea=some (rJ ea C none)) (h_3:∀ dx,H dx=none->Q .non (upd (upd H ea (rJ ea C (some dx))) dx (.xd [(f,.int g)]))):wM C f vs H Q E_
theorem sj {X:Cx}{pl:Sem Bool}{W fI:Addr}{x:Str}{e:Expr}{es:List Expr}{t:TA}{np apos pos:Pos}(hg:Gl X x)(hm:X.mg x=some (.ref W))(hsp:PySem.W.specialIn X.K (.ref W) "__getattribute__" = some (some (.builtin "type.__getattribute__")))
  (hrd:PySem.W.readsIn X.K W (.type "type")=true) (hfc:PySem.W.findCls X.K (.ref W) (.type "type") "__init__" = some (.val (.builtin "ValueError.__init__"))) (ha:PA X (e::es) t)
  (hdb:(x == ("__debug__" : Str))=false:=by decide) (he:starEach (e::es) X.env=(false,eval e X.env)::starEach es X.env:=by rfl) (hpl:(backTo pos (starEach es X.env)).any (·.1)=false:=by rfl)
  (ht:eval (.Call (.Attribute (.Name x np) "__init__" apos) (e::es) [] pos) X.env=(do
   let ov <-eval (.Name x np) X.env
   standAt apos.atName
   let (f,first) <-holding [ov] (getMethod ov "__init__" pl)
   callWith pos f first (backTo pos (starEach (e::es) X.env)) (backToKw pos (keywordEach [] X.env))):=by rfl) :
  PE X (.Call (.Attribute (.Name x np) "__init__" apos) (e::es) [] pos) (fun σ H Q=>t σ H fun vs H1=>∃ ea C u,vs=[.ref ea,u]/\H1 ea=some (rJ ea C none)/\gj X.K C fI=true/\Q .non H1):=by
 intro pins s σ H Q I h;refine PySem.W.methodCall_KW (pl:=pl) (dq I hg hm ?_ hdb) ht;refine PySem.W.method_cls I.kIn hsp (PySem.W.cls_value I.kIn hrd hfc rfl ?_);refine PyProof.Rows.callWith_builtin1 (aU (ha pos pins _ σ H _ (I.tok _) h) fun us s1 ⟨vs,H1,I1,r1,ea,C,v,ev,hx,c,q1⟩=>?_) he hpl;subst ev;obtain⟨u1,u2,rfl,ru1,ru2⟩:=r1.two;cases ru1;obtain⟨⟨t0,hx0⟩,_,_⟩:=(show aT X.prog X.w H1 s1.heap ea (rJ ea C none) from I1.hok ea _ hx);refine xR I1.kIn c hx0 fun h' t' q k=>?_
 have e:upd H1 ea (rJ ea C none)=H1:=by funext b;unfold upd;split<;>rename_i z<;>first | (rw[z,hx]) | rfl
 refine⟨.non,H1,?_,rfl,q1⟩;have:=I1.write (x:=ea) (e:=ea) (o:=rJ ea C none) (h':=h') (t':=s1.toks) (by rw[hx];exact True.intro) (.inl rfl) (fun b o n z=>k b o n z) ⟨_,q⟩ (tO q)
 rwa [e]at this
theorem sy {X:Cx}{o value:Expr}{f:Str}{pos pos':Pos}{ta tv:TE}(ha:PE X o ta)(hv:PE X value tv)(hs:swapsWith value (some (.Attribute o f pos')) pos.line X.env=pure false) :
  PS X (.Assign [.Attribute o f pos'] value pos) (fun D σ H=>tv σ H fun y H1=>ta σ H1 fun x H2=>∃ ea C,x=.ref ea/\H2 ea=some (rJ ea C none)/\Az X.K C f/\∀ dx,H2 dx=none->D.nx σ (upd (upd H2 ea (rJ ea C (some dx))) dx (.xd [(f,y)]))):=by
 intro pins s σ H D I h;refine plainObj_wpAny_Assign_Attribute (aU (hv pins s σ H _ I h) fun u s1 ⟨y,H1,I1,ry,q⟩=>aU (ha pins s1 σ H1 _ I1 q) fun ov s2 ⟨x,H2,I2,rx,ea,C,ex,hx,c,q2⟩=>?_) hs;subst ex;obtain rfl:ov=Value.ref ea:=rx;obtain⟨⟨t0,hx0⟩,_,_⟩:=(show aT X.prog X.w H2 s2.heap ea (rJ ea C none) from I2.hok ea _ hx);refine A1 I2.kIn c hx0 fun h' tk hx1 hns k=>⟨σ,_,?_,q2 s2.heap.objs.size I2.fresh⟩;have hd:=I2.fresh
 have ned:s2.heap.objs.size≠ea:=fun z=>by rw[z,hx]at hd;cases hd
 have ne1:∀ b u,H2 b=some u->(∀ ψ,u≠.ext ψ)->b≠ea:=fun b u q n z=>by rw[z,hx]at q;cases q;exact n _ rfl
 have ned2:∀ b u,s2.heap.get? b=some u->b≠s2.heap.objs.size:=fun b u q=>Em (Eg q)
 have up:∀ b u,H2 b=some u->(∀ ψ,u≠.ext ψ)->upd (upd H2 ea (rJ ea C (some s2.heap.objs.size))) s2.heap.objs.size (.xd [(f,y)]) b=some u:=fun b u q n=>by
  rw[ae (aj q hd),ae (ne1 b u q n)];exact q
 refine I2.un ⟨fun b u q n _ _=>k b u (fun z=>by rw[z,hx]at n;cases n) q,fun b u q n _ _=>⟨u.slots,k b u (fun z=>by rw[z,hx]at n;cases n) q⟩,fun b u q n _=>?_,fun b u q _=>?_,fun b xs q=>up b _ q (fun ψ z=>nomatch z),fun b u xs q=>up b _ q (fun ψ z=>nomatch z),fun b ps q=>⟨#[],by rw[up b _ q (fun ψ z=>nomatch z)];simp⟩⟩ fun b u q=>?_
 ·rw[ae (ned2 b u q),ae (fun z=>by rw[z,hx]at n;cases n)];exact n
 ·by_cases hb:b=ea
  ·exact⟨_,by rw[hb];exact hx1⟩
  ·exact⟨u,k b u hb q⟩
 ·by_cases hb:b=s2.heap.objs.size
  ·rw[hb,ac]at q
   cases q;rw[hb];refine⟨_,hns,fun g=>?_⟩
   show fw (List.lookup g [(f,y)]) (if g=f then some _ else none)
   by_cases hgf:g=f
   ·rw[D8 hgf,hgf];simp only[List.lookup,beq_self_eq_true];exact ry
   ·have hb:(g == f)=false:=Fh.mpr hgf
    rw[D7 hgf];simp only[List.lookup,hb];trivial
  ·rw[ae hb]at q
   by_cases hb2:b=ea
   ·rw[hb2,ac]at q
    cases q;rw[hb2];exact tO hx1
   ·rw[ae hb2]at q
    refine (I2.hok b u q).stay (fun c v hc r=>k c v ?_ r) (fun c r=>up c _ r fun ψ z=>nomatch z) fun c xs r=>up c _ r fun ψ z=>nomatch z
    rcases hc with z | z
    ·rw[z];exact hb2
    ·exact ne1 c _ z fun ψ z=>nomatch z
def rg (te:TE)(C:Addr)(f:Str)(E:XK):TS:=fun _ σ H=>te σ H fun v H1=>∃ g:Int,v=.int g/\g.natAbs<10 ^ 100/\∀ dx,H1 dx=none->E (.ref C) (some dx) (upd H1 dx (.xd [(f,.int g)]))
theorem pM {X:Cx}{C fI:Addr}{k:Nat}{fd:FuncData}{E:XK}{x f sl gp:Str}{e:Expr}{te:TE}{np cpos pos:Pos}(c:gj X.K C fI=true)(hfn:PySem.W.typeIn X.K (.ref fI)=some (.type "function"))
  (G:aV X.prog X.w X.K X.mg X.base cz k fI fd [sl,gp] (wM C f)) (hr:bN (k+1) X.A) (hb:dy X.K fd [sl,gp] [])
  (hfl:rn X E) (hex:X.ex=[]) (hh:X.A.handled=none) (hg:Gl X x) (hm:X.mg x=some (.ref C)) (he:PE X e te)
  (hdb:(x == ("__debug__" : Str))=false:=by decide) (hs:starEach [e] X.env=[(false,eval e X.env)]:=by rfl) :
  PS X (.Raise (some (.Call (.Name x np) [e] [] cpos)) none pos) (rg te C f E):=by
 intro pins s σ H D I h;obtain⟨bm,N,nm,qn,bs,hdct,sn,sub,ab,col,dd,k0,k1,k2,k3,k5,mN,hC,hN,hni,T⟩:=rK I.ok.mod.kin c;have F:=FA;have hbase:=T.hasType F.hasBase;rw[arm_exec_Raise];refine D5 (EU (yG (C:=C) (nm:=nm) (q:=qn) (N:=N) (bs:=bs) (bm:=bm) (hdct:=hdct) (sn:=sn) (sub:=sub) (ab:=ab) (col:=col) (dd:=dd) (k0:=k0) (k1:=k1) (k2:=k2) (k3:=k3) (k5:=k5) (newId:="ValueError.__new__") hbase hh (D5 (Ew (wpAny_Call_ofName (dq I hg hm ?_ hdb)) (fun v s3 h3=>D5 (EU (Ea h3))) fun _ _ x=>x))));rw[hs];unfold callWith;refine D5 (EK (E6 (EM (aU (he pins s σ H _ I h) fun u s1 ⟨v,H1,I1,rv,g,ev,hgb,q1⟩=>Ff (D5 (EU ?_))))));subst ev;dsimp only;have hC1:=I1.bk _ _ hC;have hN1:=hN.keeps I1.bk;have T1:=T.keeps I1.bk
 have hf1:∃ oI,s1.heap.get? fI=some oI/\oI.cls=.type "function":=by
  unfold PySem.W.typeIn at hfn;obtain⟨o,ho,hc⟩:=Option.map_eq_some_iff.mp hfn;exact⟨o,I1.kIn _ _ ho,hc⟩
 obtain⟨oI,hfI,hfc⟩:=hf1;obtain⟨hp,gs,d,tk,os⟩:=s1;refine D5 (wpAny_keeperOf_exc hC1 ?_);refine D5 (rj (rest:=[u]) F T1 hC1 hN1 hni hfI hfc (fun h' ea hx=>?_) (show 1<=sizeLine by decide));obtain⟨t0,hea,_,_⟩:=hx.there;have hfr:=I1.fresh0 (by rw[hex];simp) hx.new;have AN:=I1.unheld hx.new;have I2:ar X pins σ (upd H1 ea (rJ ea C none)) ⟨h',gs,d,tk,os⟩:=I1.laidN (a:=ea) (o:=rJ ea C none) (h':=h') (t':=tk) hx.keeps hx.new (tO hea);have r2:aL [V.ref ea,V.int g] [Value.ref ea,u]:=.cons rfl (.cons rv .nil)
 refine FR (Fo (G.run _ X.stack _ _ ⟨[Value.ref ea,u],[]⟩ [Value.ref ea,u] [V.ref ea,V.int g] (fun v H3=>v=.non/\∃ dx,H1 dx=none/\dx≠ea/\H3=upd (upd (upd H1 ea (rJ ea C none)) ea (rJ ea C (some dx))) dx (.xd [(f,.int g)])) E0 (hr.make C [u] [])
  (I2.env0.make C [u] []) (hb _ [Value.ref ea,u] I2.kIn rfl) r2 ⟨ea,g,rfl,hgb,ac,fun dx hdx=>⟨rfl,dx,?_,?_,rfl⟩⟩) fun r s' hq'=>?_)
 ·by_cases z:dx=ea
  ·rw[z,ac]at hdx;cases hdx
  ·rwa [ae z]at hdx
 ·intro z;rw[z,ac]at hdx;cases hdx
 cases r with
 | error e=>exact hq'.elim
 | ok fl =>
  cases fl with
  | ret u2 =>
   obtain⟨v,H3,I3,rv3,ev,dx,hdx,hne,eH⟩:=I2.after hq';subst ev;refine⟨rv3,D5 (EK (wpAny_point (Ea ?_)))⟩
   have h3:H3 ea=some (rJ ea C (some dx)):=by rw[eH,ae (Eo hne),ac]
   obtain⟨⟨t3,hx3⟩,_,_⟩:=(show aT X.prog X.w H3 s'.heap ea (rJ ea C (some dx)) from I3.hok ea _ h3);have I4:=I3.untrack (φ:=fun h=>∃ t,h.get? ea=some (exOb C t (some dx))) h3
   have e4:o4 H3 ea=upd H1 dx (.xd [(f,.int g)]):=by
    funext b
    unfold o4
    by_cases hb:b=ea
    ·rw[D8 hb,hb,ae (Eo hne),AN]
    ·rw[D7 hb,eH]
     by_cases hd:b=dx
     ·rw[hd,ac,ac]
     ·rw[ae hd,ae hb,ae hb,ae hd]
   rw[e4]at I4;exact⟨ea,t3,some dx,rfl,I4.bk _ _ hC,hx3,hfl pins σ _ s' ea C t3 (some dx) I4 hx3 (by rw[ae (Eo hne)];exact AN) hfr (q1 dx hdx)⟩
  | next=>exact hq'.elim
  | brk=>exact hq'.elim
  | cont=>exact hq'.elim
def BI (X:Cx)(pins:List (Addr×Obj))(σ:St)(H:Hp)(ea C:Addr)(od:Option Addr)(B:Heap)(s':Shared):Prop:=H ea=none/\∀ h2,j6 B X.stack ea (.ref C) od h2->s'.heap.UpToSlots h2->ar X pins σ H { s' with heap:=h2 }
theorem zk {X:Cx}{pins:List (Addr×Obj)}{σ:St}{H H':Hp}{s s':Shared}{ea C:Addr}{od:Option Addr}{B:Heap}(I:ar X pins σ H s)(fl:j6 B X.stack ea (.ref C) od s'.heap)(un:Un (hG X.stack) [] H H' s.heap s'.heap)(hok:gO X.prog X.w H' s'.heap)(os:s'.os=s.os)(bare:AllBare s'.gens)
  (hsB:∀ b o,s.heap.get? b=some o->b∉hG X.stack->∃ o',B.get? b=some o') (trB:∀ b o,H' b=some o->∃ o',B.get? b=some o'):BI X pins σ H' ea C od B s':=by
 refine⟨?_,fun h2 fl2 ups=>?_⟩
 ·cases e:H' ea with
  | none=>rfl
  | some o =>
   obtain⟨o',q⟩:=trB ea o e;rw[fl.2.1]at q;cases q
 have slot2:∀ b o,b∈hG X.stack->s.heap.get? b=some o->H b=none->∃ sl,h2.get? b=some { o with slots:=sl }:=fun b o hf e n=>by
  obtain⟨sl,e1⟩:=un.slot b o e n hf (by simp);obtain⟨_,o2,ho2,hnf⟩:=I.stack.mem hf
  have e2:o2=o:=by
   have:s.heap.get? b=some o2:=ho2;rw[e]at this;exact (Ef this).symm
  subst e2;obtain⟨sl2,e3⟩:=ups b _ e1 hnf;exact⟨sl2,e3⟩
 refine I.call' (ch:=[]) (s':={ s' with heap:=h2 }) os ?_ (tU hok fl.1 fl2.1 trB) bare fun b z=>absurd z (by simp);refine yB (h1:=s'.heap) un fl.1 fl2.1 hsB (fun b o hf e n=>slot2 b o hf e n) fun b o hf e=>?_;obtain⟨sl,q⟩:=slot2 b o hf e (I.stkFree b hf);exact⟨_,q⟩
def Cx.marked (X:Cx)(ea:Addr)(oe:Obj):Cx:={ X with A:=X.A.mark (some (.ref ea)),calm:=false,xe:=fun _ _=>False,pn:=(ea,oe)::X.pn }
theorem ar.marked {X:Cx}{pins:List (Addr×Obj)}{σ:St}{H:Hp}{s:Shared}{ea:Addr}{oe:Obj}{us:Array Value}(I:ar X pins σ H s)(he:s.heap.get? ea=some oe)(hd:oe.data=.fields us)(hn:H ea=none):ar (X.marked ea oe) pins σ H s:=by
 refine⟨⟨I.ok.mod,I.ok.kind,I.ok.glob,I.ok.blt,I.ok.above,I.ok.inj,I.ok.has,I.ok.cab,fun z=>(by cases z),I.ok.frames,I.ok.stk,I.ok.exf,I.ok.bs,I.ok.bsz,I.ok.noex,I.ok.exfs,I.ok.funs,I.ok.frf⟩,I.os,I.bare,I.base,I.loc,I.cell,I.free,I.freeC,fun p hp=>?_,I.hok,I.len⟩;rcases Eh.mp (show p∈(ea,oe)::(X.pn++pins) from hp) with z | z
 ·subst z
  refine⟨he,hn,fun z=>?_,fun z=>?_,fun v z=>?_⟩
  ·obtain⟨m,⟨o,es,ep,ho,hdd,_⟩,_⟩:=I.loc
   have z:ea=X.env.locals:=z;rw[<-z,he]at ho;cases ho;rw[hd]at hdd;cases hdd
  ·obtain⟨_,o,ho,nf⟩:=I.funs.mem z
   rw[he]at ho;cases ho;exact nf us hd
  ·have z:oe.data=.cell v:=z
   rw[hd]at z;cases z
 ·exact I.pin p z
theorem ar.unmarked {X:Cx}{pins:List (Addr×Obj)}{σ:St}{H:Hp}{s:Shared}{ea:Addr}{oe:Obj}(ok:X.Ok)(I:ar (X.marked ea oe) pins σ H s):ar X pins σ H s :=
 ⟨ok,I.os,I.bare,I.base,I.loc,I.cell,I.free,I.freeC,fun p hp=>I.pin p (show p∈(ea,oe)::(X.pn++pins) from Eb _ hp),I.hok,I.len⟩
theorem SP.unmarked {X:Cx}{pins:List (Addr×Obj)}{D:fg}{f:Flow}{s':Shared}{ea:Addr}{oe:Obj}(ok:X.Ok)(h:SP (X.marked ea oe) pins D f s'):SP X pins D f s':=by
 cases f with
 | next=>obtain⟨σ',H',I,q⟩:=h;exact⟨σ',H',I.unmarked ok,q⟩
 | brk=>obtain⟨σ',H',I,q⟩:=h;exact⟨σ',H',I.unmarked ok,q⟩
 | cont=>obtain⟨σ',H',I,q⟩:=h;exact⟨σ',H',I.unmarked ok,q⟩
 | ret u=>obtain⟨v,σ',H',I,r,q⟩:=h;exact⟨v,σ',H',I.unmarked ok,r,q⟩
def AB (X:Cx)(hdl:List ExceptHandler)(th:Value->Option Addr->TS):Prop:=∀ (pins:List (Addr×Obj))(σ:St)(H:Hp)(D:fg)(ea C:Addr)(od:Option Addr)(B:Heap)(s':Shared)(h:Heap),BI X pins σ H ea C od B s'->j6 B X.stack ea (.ref C) od h->s'.heap.UpToSlots h->th (.ref C) od D σ H ->
 wpAny (model X.prog X.w) X.A (handleBy (.ref ea) X.env hdl) (SP X pins D) X.xe { s' with heap:=h }
theorem iz {X:Cx}{pins:List (Addr×Obj)}{σ:St}{H:Hp}{s:Shared}{i:Nat}{n:Str}{pos:Pos}{E:Value->Shared->Prop}{Q:Unit->Shared->Prop}(I:ar X pins σ H s)(hN:X.N.Nodup)(hi:X.N[i]? = some n)(hk:X.env.scope.names.lookup n=some .local)
  (h:∀ s',ar X pins (σ.set i none) H s'->Q () s'):wpAny (model X.prog X.w) X.A (do bindName X.env n .none;unbindBehindTheSuite X.env n pos) Q E s:=by
 obtain⟨m,hn,hl⟩:=id I.loc
 have hcls:(X.env.scope.kind == .class||(X.env.scope.kind == .module&&X.env.locals != X.env.globals))=false:=by rw[I.ok.kind];rfl
 have cne:=I.cne;obtain⟨oL,_,_,hoL,_⟩:=id hn;refine wpAny_nameGoes_keeps hk hn hcls fun h' v hn' hs=>h _ ?_;refine⟨I.ok,I.os,I.bare,⟨fun b o e n hb hx=>?_,fun b o e n hb hx=>?_,I.base.free,fun b o e hx=>?_,I.base.tups,I.base.frzs,I.base.tbls⟩,⟨_,hn',fun j y v' e1 e2 e3=>?_⟩,fun y c e=>?_,I.free,I.freeC,fun p hp=>?_,fun b ob e=>?_,by simpa using I.len⟩
 ·exact (hs.2 b (Em (Ep (Eg e) I.ok.above))).trans (I.base.keep b o e n hb hx)
 ·obtain⟨sl,e1⟩:=I.base.slot b o e n hb hx
  exact⟨sl,(hs.2 b (Em (Ep (Eg e) I.ok.above))).trans e1⟩
 ·obtain⟨o',e1⟩:=I.base.there b o e hx
  exact⟨o',(hs.2 b (Em (Ep (Eg e) I.ok.above))).trans e1⟩
 ·by_cases hj:j=i
  ·subst hj
   have hiσ:j<σ.length:=by rw[I.len];exact (List.getElem?_eq_some_iff.mp hi).1
   rw[List.getElem?_set_self hiσ]at e2;cases e2
  ·rw[List.getElem?_set_ne (Eo hj)]at e2
   obtain⟨u',r',q⟩:=hl j y v' e1 e2 e3;refine⟨u',r',?_⟩;rcases q with ⟨k,e⟩ | ⟨k,c,e,z⟩
   ·refine .inl ⟨k,?_⟩
    have:y≠n:=fun e=>hj (m7 hN e1 (e▸hi));simp[this,e]
   ·exact .inr ⟨k,c,e,z.sameBut hs (cne y c e)⟩
 ·obtain⟨w',z⟩:=I.cell y c e
  exact⟨w',z.sameBut hs (cne y c e)⟩
 ·obtain⟨e,n,ne,nf,d⟩:=I.pin p hp
  exact⟨(hs.2 p.1 ne).trans e,n,ne,nf,d⟩
 ·refine (I.hok b ob e).stay (fun c w' hc q=>(hs.2 c ?_).trans q) (fun _ q=>q) fun _ _ q=>q
  rintro rfl;rcases hc with hc | hc
  ·rw[<-hc,I.free]at e;cases e
  ·rw[I.free]at hc;cases hc
def xx (i:Nat)(D:fg):fg:={ nx:=fun σ H=>D.nx (σ.set i none) H,rt:=D.rt,bk:=fun σ H=>D.bk (σ.set i none) H,ct:=fun σ H=>D.ct (σ.set i none) H }
theorem lP {X:Cx}{y:Str}{C1:Addr}{b0:Stmt}{suite:List Stmt}{t1:TS}{th:Value->Option Addr->TS}{np pos:Pos}{rest:List ExceptHandler}(hg:Gl X y)(hm:X.mg y=some (.ref C1))(hs:∀ ea oe,rq (X.marked ea oe) (b0::suite) t1)(hr:AB X rest th)
  (hdb:(y == ("__debug__" : Str))=false:=by decide):AB X (.ExceptHandler (some (.Name y np)) none (b0::suite) pos::rest) (fun cls od D σ H=>∃ b,PySem.W.exmOne X.K cls (.ref C1)=some b/\if b=true then t1 D σ H else th cls od D σ H):=by
 intro pins σ H D ea C od B s' h ld fl ups ht;obtain⟨b,hb,ht⟩:=ht;have I:=ld.2 h fl ups;obtain⟨ob,us,hob,hobc,hobd,hobf⟩:=fl.obj;have Im:=I.marked (ea:=ea) hob hobf ld.1
 have LT:PySem.W.Looks (model X.prog X.w) h (typeOf (.ref ea)) (.ref C):=by
  rw[<-hobc];exact (PySem.W.Looks.ld hob).andThen .now
 refine wpAny_handleBy_cons (codeAny_handlers_test (dq (X:=X.marked ea ob) Im hg hm ?_ hdb)) (by intro z;cases z);refine (PySem.W.exm_one (K:=X.K) I.kIn LT hb).here ?_
 cases b with
 | true =>
  rw[D8 rfl]at ht;refine codeAny_handlers_suite ?_;refine jz fl fun h6 fl6 ups6=>?_;obtain⟨oe,us6,hoe,hoec,hoed,hoef⟩:=fl6.obj;have I6:=(ld.2 h6 fl6 (ups.trans ups6)).marked (ea:=ea) hoe hoef ld.1;exact Ew (hs ea oe pins _ σ H D I6 ht) (fun f s2 hq=>hq.unmarked I.ok) fun _ _ z=>z.elim
 | false =>
  rw[D7 Ed]at ht;exact hr pins σ H D ea C od B s' h ld fl ups ht
theorem Ba {X:Cx}:AB X [] (fun _ _ _ _ _=>False):=fun _ _ _ _ _ _ _ _ _ _ _ _ _ h=>h.elim
theorem Af {X:Cx}{y n:Str}{i:Nat}{C1:Addr}{b0:Stmt}{suite:List Stmt}{t1:Addr->Addr->Option Addr->TS}{th:Value->Option Addr->TS}{np pos:Pos}{rest:List ExceptHandler}(hg:Gl X y)(hm:X.mg y=some (.ref C1))
  (hN:X.N.Nodup) (hi:X.N[i]? = some n) (hk:X.env.scope.names.lookup n=some .local) (hs:∀ ea oe C od us,oe.cls=.ref C->oe.dict=od->oe.data=.fields us->rq (X.marked ea oe) (b0::suite) (t1 ea C od)) (hr:AB X rest th)
  (hdb:(y == ("__debug__" : Str))=false:=by decide):AB X (.ExceptHandler (some (.Name y np)) (some n) (b0::suite) pos::rest) (fun cls od D σ H=>∃ b,PySem.W.exmOne X.K cls (.ref C1)=some b/\if b=true then ∃ C,cls=.ref C/\∀ ea,t1 ea C od (xx i D) (σ.set i (some (.ref ea))) H else th cls od D σ H):=by
 intro pins σ H D ea C od B s' h ld fl ups ht;obtain⟨b,hb,ht⟩:=ht;have I:=ld.2 h fl ups;obtain⟨ob,us,hob,hobc,hobd,hobf⟩:=fl.obj;have Im:=I.marked (ea:=ea) hob hobf ld.1
 have LT:PySem.W.Looks (model X.prog X.w) h (typeOf (.ref ea)) (.ref C):=by
  rw[<-hobc];exact (PySem.W.Looks.ld hob).andThen .now
 refine wpAny_handleBy_cons (codeAny_handlers_test (dq (X:=X.marked ea ob) Im hg hm ?_ hdb)) (by intro z;cases z);refine (PySem.W.exm_one (K:=X.K) I.kIn LT hb).here ?_
 cases b with
 | true =>
  rw[D8 rfl]at ht;obtain⟨C',eC,ht⟩:=ht;cases eC;refine codeAny_handlers_suite_as ?_;refine jz fl fun h6 fl6 ups6=>?_;obtain⟨oe,us6,hoe,hoec,hoed,hoef⟩:=fl6.obj;have I6:=(ld.2 h6 fl6 (ups.trans ups6)).marked (ea:=ea) hoe hoef ld.1;refine jY (X:=X.marked ea oe) (v:=.ref ea) I6 hN hi (.inl hk) rfl (fun s7 I7=>?_) (.inr hk);refine Ew (hs ea oe C od us6 hoec hoed hoef pins s7 _ H (xx i D) I7 (ht ea)) (fun f s8 hq=>?_) fun _ _ z=>z.elim;have hq:=hq.unmarked I.ok
  cases f with
  | next=>obtain⟨σ',H',I8,q⟩:=hq;exact iz I8 hN hi hk fun s9 I9=>⟨_,H',I9,q⟩
  | brk=>obtain⟨σ',H',I8,q⟩:=hq;exact iz I8 hN hi hk fun s9 I9=>⟨_,H',I9,q⟩
  | cont=>obtain⟨σ',H',I8,q⟩:=hq;exact iz I8 hN hi hk fun s9 I9=>⟨_,H',I9,q⟩
  | ret u=>obtain⟨v,σ',H',I8,r,q⟩:=hq;exact iz I8 hN hi hk fun s9 I9=>⟨v,_,H',I9,r,q⟩
 | false =>
  rw[D7 Ed]at ht;exact hr pins σ H D ea C od B s' h ld fl ups ht
theorem A6 {X:Cx}{e:Expr}{f:Str}{pos:Pos}{te:TE}{ea C:Addr}{oe:Obj}{od:Option Addr}{us:Array Value}(hp:(ea,oe)∈X.pn)(hc:oe.cls=.ref C)(ho:oe.dict=od)(hd:oe.data=.fields us)(hv:PE X e te)(hb:attributeBase e f X.env (eval e X.env)=eval e X.env) :
  PE X (.Attribute e f pos) (fun σ H Q=>te σ H fun x H1=>x=.ref ea/\Az X.K C f/\∃ dx fs v,od=some dx/\H1 dx=some (.xd fs)/\fs.lookup f=some v/\Q v H1):=by
 intro pins s σ H Q I h;refine uR hb (aU (hv pins s σ H _ I h) fun u s1 ⟨x,H1,I1,rx,ex,c,dx,fs,v,eo,hx,l,q⟩=>?_);subst ex;obtain rfl:u=Value.ref ea:=rx;obtain⟨mA,hns,hr⟩:=(show aT X.prog X.w H1 s1.heap dx (.xd fs) from I1.hok dx _ hx);obtain⟨u,hu,ru⟩:=fw.some_of (v:=v) (o:=mA f) (by rw[<-l];exact hr f);exact A0 I1.kIn c (I1.pin _ (List.mem_append_left _ hp)).1 hc (ho.trans eo) hd hns hu (py ru) ⟨v,H1,I1.tok _,ru,q⟩
theorem vk {X:Cx}(K:PySem.W.Frag){e:Expr}{f:Str}{pos:Pos}{te:TE}{ea C:Addr}{oe:Obj}{od:Option Addr}{us:Array Value}(hp:(ea,oe)∈X.pn)(hc:oe.cls=.ref C)(ho:oe.dict=od)(hd:oe.data=.fields us)(hv:PE X e te)(hb:attributeBase e f X.env (eval e X.env)=eval e X.env)(hK:X.K=K:=by rfl) :
  PE X (.Attribute e f pos) (fun σ H Q=>te σ H fun x H1=>x=.ref ea/\Az K C f/\∃ dx fs v,od=some dx/\H1 dx=some (.xd fs)/\fs.lookup f=some v/\Q v H1):=by subst hK;exact A6 hp hc ho hd hv hb
def Am (sp:Sp)(t:TA)(i:Nat)(th:Value->Option Addr->TS):TS:=fun D σ H=>t σ H fun vs H1=>sp vs H1 (fun v H2=>D.nx (σ.set i (some v)) H2) (fun cls od H2=>th cls od D σ H2)
theorem uz {X:Cx}{k:Nat}{f:Addr}{fd:FuncData}{ps:List Str}{sp:Sp}{i:Nat}{x fn:Str}{e:Expr}{es:List Expr}{t:TA}{hd0:ExceptHandler}{hdl:List ExceptHandler}{th:Value->Option Addr->TS}{px p cpos spos pos:Pos}
  (G:aV X.prog X.w X.K X.mg X.base (iN X.prog X.w) k f fd ps sp) (hr:bN k X.A) (hg:Gl X fn) (hm:X.mg fn=some (.ref f)) (hk:PySem.W.keepIn X.K (.ref f)=true) (hb:dy X.K fd ps []) (ha:PA X.nox (e::es) t)
  (hst:X.stack=X.env::X.outer) (hfr:X.env.frame=some X.env.locals) (hN:X.N.Nodup) (hi:X.N[i]? = some x) (hx:z9 X.env.scope x) (hh:AB X (hd0::hdl) th)
  (hs:swapsWith (.Call (.Name fn p) (e::es) [] cpos) (some (.Name x px)) spos.line X.env=pure false:=by rfl) (hf:X.fn x=true\/X.env.scope.names.lookup x=some .local:=by first | exact .inl rfl | exact .inr rfl | assumption)
  (hdb:(fn == ("__debug__" : Str))=false:=by decide) (he:starEach (e::es) X.env=(false,eval e X.env)::starEach es X.env:=by rfl) (hpl:(backTo cpos (starEach es X.env)).any (·.1)=false:=by rfl) :
  PS X (.Try [.Assign [.Name x px] (.Call (.Name fn p) (e::es) [] cpos) spos] (hd0::hdl) [] [] pos) (Am sp t i th):=by
 intro pins s σ H D I h;refine wpAny_Try_except ?_;refine wpAny_execs_cons ?_;refine wpAny_Assign_Name ?_ hs;refine Fl (dq I hg hm ?_ hdb);refine PySem.W.callWith_K (h₀:=X.base) I.ok.mod.kin hk (Ew (ha cpos pins s σ H _ (I.wish _) h) (fun us s1 ⟨vs,H1,I1,r,q⟩=>⟨I1.unwish.kIn,?_⟩) fun _ _ z=>z.elim) he hpl;have I1:=I1.unwish
 have hl:us.length=ps.length:=by rw[<-r.length];exact G.len _ _ _ _ q
 have hb':=hb s1 us I1.kIn (by rw[Fy];exact hl);rw[Fy]at hb';refine FR (Fo (G.run X.A X.stack s1 H1 ⟨us,[]⟩ us vs _ _ hr I1.env0 hb' r q) fun rs s' hq=>?_)
 cases rs with
 | error er =>
  obtain⟨ea,C,od,H',B,rfl,fl,un,hok,os,bare,hsB,trB,hE⟩:=hq;have ld:=zk I1 fl un hok os bare hsB trB;have fl':=fl;rw[hst]at fl';refine wj (by rw[I.ok.frames,hst]) hfr fl' fun h4 held ups4=>?_;refine AV held fun h5 fl5 ups5=>?_;rw[<-hst]at fl5;exact hh pins σ H' D ea C od B s' h5 ld fl5 (ups4.trans ups5) hE
 | ok fl =>
  cases fl with
  | ret u =>
   obtain⟨v,H2,I2,rv,q2⟩:=I1.after hq;exact jY I2 hN hi hx rv (fun s3 I3=>FG (FG ⟨_,H2,I3,q2⟩)) hf
  | next=>exact False.elim hq
  | brk=>exact False.elim hq
  | cont=>exact False.elim hq
theorem dB.okX {P:Program}{w:World}{K:PySem.W.Frag}{mg:Str->Option Value}{base:Heap}{x qual:Str}{st:Stmt}{f:Addr}{fd:FuncData}{N ps:List Str}{k:Nat}{sp:Sp}(F:dB K x qual st f fd)(S:ay N ps (am st))(len:∀ vs H Q E,sp vs H Q E->vs.length=ps.length)
  (hbody:∀ (cdv:Value)(A:Around)(outer:List Env)(s:Shared)(H:Hp)(vs:List V)(Q:VK)(E:XK),bN k (A.deeper (envOfC qual (am st) s.heap.objs.size f cdv))->sp vs H Q E ->
   ∃ t,rq (mr (iN P w) P w K mg base N qual (am st) f cdv A outer s H E) (cR st) t/\t { nx:=fun _ H'=>Q .non H',rt:=Q } (jX N vs) H):aV P w K mg base (iN P w) (k+1) f fd ps sp:=by
 obtain⟨oc,od,kV,doc,pm,an,cdv,ct,osl,rfl,lk,hcd⟩:=F.ex;exact Ab lk hcd S len fun A outer s H vs Q E hr hsp=>hbody cdv A outer s H vs Q E hr hsp
def PJ (X:Cx)(es:List Expr)(t:TA):Prop:=∀ (out:Str)(m:Nat)(pins:List (Addr×Obj))(s:Shared)(σ:St)(H:Hp)(Q:VK),out.length<=1000*m->m+es.length<=100->ar X pins σ H s->t σ H (fun _ H'=>∀ x:Str,Q (.str x) H')->wpAny (model X.prog X.w) X.A (joinParts out (evalEach es X.env)) (EP X pins σ Q) X.xe s
theorem kB {X:Cx}:PJ X [] lF:=by
 intro out m pins s σ H Q ho hm I h;refine joinParts_nil ⟨.str out,H,I.tok _,⟨_,rfl⟩,h out⟩ ?_;exact EC ho (EC (Nat.mul_le_mul_left 1000 (show m<=100 by simpa using hm)) (by decide))
def tJ (te:TE)(t:TA):TA:=fun σ H Q=>te σ H fun x H1=>∃ y:Str,x=.str y/\y.length<=1000/\t σ H1 Q
theorem bM {X:Cx}{e:Expr}{es:List Expr}{te:TE}{t:TA}(he:PE X e te)(h:PJ X es t):PJ X (e::es) (tJ te t):=by
 intro out m pins s σ H Q ho hm I hq
 show wpAny _ _ (joinParts out (eval e X.env::evalEach es X.env)) _ _ s
 refine joinParts_cons (aU (he pins s σ H _ I hq) fun u s1 ⟨x,H1,I1,rx,y,ex,hy,q1⟩=>?_);subst ex;obtain⟨tk,rfl⟩:=rx
 have hl:(out++y).length<=1000*(m+1):=by rw[strLen_append];omega
 rw[Eu]at hm;refine⟨EC hl (EC (Nat.mul_le_mul_left 1000 (show m+1<=100 by omega)) (by decide)),?_⟩;exact h (out++y) (m+1) pins s1 σ H1 Q hl (by omega) I1 q1
def DX (t:TA):TE:=fun σ H Q=>t σ H fun _ H'=>∀ x:Str,Q (.str x) H'
theorem iC {X:Cx}{e1 e2:Expr}{es:List Expr}{t:TA}{pos:Pos}(h:PJ X (e1::e2::es) t)(hn:(e1::e2::es).length<=100:=by decide):PE X (.JoinedStr (e1::e2::es) pos) (DX t):=by
 intro pins s σ H Q I hq;refine JoinedStr_many ?_;exact h Str.empty 0 pins s σ H Q (by show 0<=_;exact Ey _) (by simpa using hn) I hq
def DW (te:TE):TE:=fun σ H Q=>te σ H fun x H1=>∃ i:Int,x=.int i/\i.natAbs<10 ^ 100/\∀ y:Str,y.length<=1000->Q (.str y) H1
theorem e8 {X:Cx}{e:Expr}{te:TE}{pos:Pos}(he:PE X e te):PE X (.FormattedValue e (-1) none pos) (DW te):=by
 intro pins s σ H Q I h;refine FormattedValue_plain (aU (he pins s σ H _ I h) fun u s1 ⟨x,H1,I1,rx,i,ex,hi,q⟩=>?_);subst ex;obtain⟨tk,rfl⟩:=rx
 have hd:i.natAbs.log2<1920:=by
  by_cases h0:i.natAbs=0
  ·rw[h0];decide
  ·exact (Nat.log2_lt h0).mpr (Ep hi (by decide +kernel))
 refine wpAny_formatField_int hd ⟨.str (toString i),H1,I1.tok _,⟨_,rfl⟩,q _ ?_⟩;have:=PySem.int_text_length_le10 (a:=i) (k:=100) (by decide) hi
 show (Str.ofString (toString i)).length<=1000
 rw[PySem.ofString_length];omega
end L2
namespace Wz
open PySem L2
def aG (P:Program)(w:World)(K:PySem.W.Frag)(mg:Str->Option Value)(base:Heap)(CX:sY)(C:Addr)(m:Str)(k:Nat)(ps:List Str)(sp:Sp):Prop :=
 ∃ (f:Addr)(fd:FuncData),aV P w K mg base CX k f fd ps sp/\yR K C m f/\dy K fd ps []
def f8 (P:Program)(w:World)(K:PySem.W.Frag)(mg:Str->Option Value)(base:Heap)(x:Str)(k:Nat)(ps:List Str)(sp:Sp):Prop :=
 ∃ (f:Addr)(fd:FuncData),aV P w K mg base (iN P w) k f fd ps sp/\mg x=some (.ref f)/\PySem.W.keepIn K (.ref f)=true/\dy K fd ps []
section
variable {X:Cx}{CX:sY}{k:Nat}{C:Addr}{ps:List Str}{sp:Sp}{E:XK}{m x:Str}{p pos apos:Pos}{e o:Expr}{es:List Expr}{ta:TE}{t:TA}
theorem c9 {pl:Sem Bool}(M:aG X.prog X.w X.K X.mg X.base CX C m k ps sp)(he:PE X o ta)(c:vL X.K C)(hr:bN k X.A)(hx:dL CX X E)(ha:PA X (e::es) t)
  (hst:starEach (e::es) X.env=(false,eval e X.env)::starEach es X.env:=by rfl) (hpl:(backTo pos (starEach es X.env)).any (·.1)=false:=by rfl)
  (ht:eval (.Call (.Attribute o m apos) (e::es) [] pos) X.env=(do
   let ov <-eval o X.env
   standAt apos.atName
   let (f,first) <-holding [ov] (getMethod ov m pl)
   callWith pos f first (backTo pos (starEach (e::es) X.env)) (backToKw pos (keywordEach [] X.env))):=by rfl) :
  PE X (.Call (.Attribute o m apos) (e::es) [] pos) (vE C m sp [] E ta t):=by
 obtain⟨f,fd,G,hm,hb⟩:=M;exact zI he c hm G hr hb .nil hx ha hst hpl ht
theorem qN {pl:Sem Bool}(M:aG X.prog X.w X.K X.mg X.base CX C m k ps sp)(he:PE X o ta)(c:vL X.K C)(hr:bN k X.A)(hx:dL CX X E)
  (ht:eval (.Call (.Attribute o m apos) [] [] pos) X.env=(do
   let ov <-eval o X.env
   standAt apos.atName
   let (f,first) <-holding [ov] (getMethod ov m pl)
   callWith pos f first (backTo pos (starEach [] X.env)) (backToKw pos (keywordEach [] X.env))):=by rfl) :
  PE X (.Call (.Attribute o m apos) [] [] pos) (vE C m sp [] E ta lF):=by
 obtain⟨f,fd,G,hm,hb⟩:=M;exact x5 he c hm G hr hb .nil hx ht
theorem Bd (M:f8 X.prog X.w X.K X.mg X.base x k ps sp)(hr:bN k X.A)(hg:Gl X x)(hx:dL (iN X.prog X.w) X E)(ha:PA X (e::es) t)
  (hdb:(x == ("__debug__" : Str))=false:=by decide) (he:starEach (e::es) X.env=(false,eval e X.env)::starEach es X.env:=by rfl) (hpl:(backTo pos (starEach es X.env)).any (·.1)=false:=by rfl) :
  PE X (.Call (.Name x p) (e::es) [] pos) (yr sp [] E t):=by
 obtain⟨f,fd,G,hm,hk,hb⟩:=M;exact vj G hr hg hm hk hb .nil hx ha hdb he hpl
theorem Dc {X:Cx}{k:Nat}{ps:List Str}{sp:Sp}{i:Nat}{x fn:Str}{e:Expr}{es:List Expr}{t:TA}{hd0:ExceptHandler}{hdl:List ExceptHandler}{th:Value->Option Addr->TS}{px p cpos spos pos:Pos}
  (M:f8 X.prog X.w X.K X.mg X.base fn k ps sp) (hr:bN k X.A) (hg:Gl X fn) (ha:PA X.nox (e::es) t)
  (hst:X.stack=X.env::X.outer) (hfr:X.env.frame=some X.env.locals) (hN:X.N.Nodup) (hi:X.N[i]? = some x) (hx:z9 X.env.scope x) (hh:AB X (hd0::hdl) th)
  (hs:swapsWith (.Call (.Name fn p) (e::es) [] cpos) (some (.Name x px)) spos.line X.env=pure false:=by rfl) (hf:X.fn x=true\/X.env.scope.names.lookup x=some .local:=by first | exact .inl rfl | exact .inr rfl | assumption)
  (hdb:(fn == ("__debug__" : Str))=false:=by decide) (he:starEach (e::es) X.env=(false,eval e X.env)::starEach es X.env:=by rfl) (hpl:(backTo cpos (starEach es X.env)).any (·.1)=false:=by rfl) :
  PS X (.Try [.Assign [.Name x px] (.Call (.Name fn p) (e::es) [] cpos) spos] (hd0::hdl) [] [] pos) (Am sp t i th):=by
 obtain⟨f,fd,G,hm,hk,hb⟩:=M;exact uz G hr hg hm hk hb ha hst hfr hN hi hx hh hs hf hdb he hpl
end
inductive au where
 | come (g:Int) | go (g:Int) | exch (a b:Int)
 deriving DecidableEq
def bv:au->HO
 | .come g=>.tup [.str "come",.int g]
 | .go g=>.tup [.str "go",.int g]
 | .exch a b=>.tup [.str "exchange",.int a,.int b]
structure bI where
 worn:List (Int×Int)
 hold:List (Int×Int)
 circ:List (Int×List Int)
 deeds:List au
def cC:List Addr->List (Int×List Int)->List (bK×V)
 | a::as,x::xs=>(Sum.inl x.1,V.ref a)::cC as xs
 | _,_=>[]
def pC (ks:List Int):List (bK×V):=ks.map fun k=>(Sum.inl k,V.bl true)
structure HA where
 dx:Addr
 w:Addr
 h:Addr
 c:Addr
 d:Addr
 cs:List Addr
def HA.fp (A:HA):List Addr:=A.w::A.h::A.c::A.d::A.cs
def bG (A:HA):List (Str×V):=fU "deeds" (.ref A.d) (fU "circles" (.ref A.c) (fU "holders" (.ref A.h) (fU "worn" (.ref A.w) [])))
theorem s1:¬ (("worn" : Str)="holders"):=by decide +kernel
theorem s2:¬ (("worn" : Str)="circles"):=by decide +kernel
theorem s3:¬ (("worn" : Str)="deeds"):=by decide +kernel
theorem s4:¬ (("holders" : Str)="circles"):=by decide +kernel
theorem s5:¬ (("holders" : Str)="deeds"):=by decide +kernel
theorem s6:¬ (("circles" : Str)="deeds"):=by decide +kernel
theorem tT (A:HA):(bG A).lookup ("worn" : Str)=some (.ref A.w):=by
 unfold bG;rw[aM,D7 s3,aM,D7 s2,aM,D7 s1,aM,D8 rfl]
theorem zh (A:HA):(bG A).lookup ("holders" : Str)=some (.ref A.h):=by
 unfold bG;rw[aM,D7 s5,aM,D7 s4,aM,D8 rfl]
theorem zg (A:HA):(bG A).lookup ("circles" : Str)=some (.ref A.c):=by
 unfold bG;rw[aM,D7 s6,aM,D8 rfl]
theorem xB (A:HA):(bG A).lookup ("deeds" : Str)=some (.ref A.d):=by
 unfold bG;rw[aM,D8 rfl]
theorem pz (A:HA){m:Str}(h1:¬ m="worn")(h2:¬ m="holders")(h3:¬ m="circles")(h4:¬ m="deeds"):(bG A).lookup m=none:=by
 unfold bG;rw[aM,D7 h4,aM,D7 h3,aM,D7 h2,aM,D7 h1];rfl
theorem vX (A:HA) {m:Str} (h:¬ m="worn"/\¬ m="holders"/\¬ m="circles"/\¬ m="deeds"):(bG A).lookup m=none:=pz A h.1 h.2.1 h.2.2.1 h.2.2.2
def bE (H:Hp)(d:Addr)(ds:List au):Prop:=∃ as:List Addr,H d=some (.lst (as.map V.ref))/\Paired (fun a x=>H a=some (bv x)) as ds
structure aJ (C:Addr)(H:Hp)(p:Addr)(A:HA)(st:bI):Prop where
 ob:H p=some (.ins C A.dx (bG A))
 nd:A.fp.Nodup
 w:H A.w=some (.dK (dk st.worn))
 h:H A.h=some (.dK (dk st.hold))
 c:H A.c=some (.dK (cC A.cs st.circ))
 cs:Paired (fun a (x:Int×List Int)=>H a=some (.dK (pC x.2))) A.cs st.circ
 d:bE H A.d st.deeds
def Kp (fp:List Addr)(H H':Hp):Prop:=∀ b o,H b=some o->b∉fp->H' b=some o
theorem Kp.of_same {fp:List Addr}{H H':Hp}(s:aE H H'):Kp fp H H':=fun b o e _=>s b o e
theorem Kp.trans {fp fp':List Addr}{H H1 H2:Hp}(a:Kp fp H H1)(b:Kp fp' H1 H2)(h:∀ x∈fp',x∈fp\/H x=none):Kp fp H H2:=fun x o e n =>
 b x o (a x o e n) fun z=>(h x z).elim n fun y=>by rw[e]at y;cases y
theorem b8 {H H':Hp}{d:Addr}{ds:List au}(r:bE H d ds)(s:aE H H'):bE H' d ds:=by
 obtain⟨as,h,p⟩:=r;exact⟨as,s _ _ h,Paired.mapP p fun a q z=>s _ _ z⟩
theorem aJ.mono {C:Addr}{H H':Hp}{p:Addr}{A:HA}{st:bI}(x:aJ C H p A st)(s:aE H H'):aJ C H' p A st :=
 ⟨s _ _ x.ob,x.nd,s _ _ x.w,s _ _ x.h,s _ _ x.c,Paired.mapP x.cs fun a q z=>s _ _ z,b8 x.d s⟩
theorem aJ.kept {C:Addr}{H H':Hp}{p:Addr}{A:HA}{st:bI}{fp:List Addr}(x:aJ C H p A st)(k:Kp fp H H')(hp:p∉fp)(hd:∀ b∈A.fp,b∉fp)(ht:∀ b xs,H b=some (.tup xs)->b∉fp):aJ C H' p A st:=by
 have m:∀ b∈A.fp,∀ o,H b=some o->H' b=some o:=fun b hb o e=>k b o e (hd b hb);refine⟨k _ _ x.ob hp,x.nd,m _ (by simp[HA.fp]) _ x.w,m _ (by simp[HA.fp]) _ x.h,m _ (by simp[HA.fp]) _ x.c,?_,?_⟩
 ·have:∀ (cs:List Addr)(ci:List (Int×List Int)),(∀ b∈cs,b∈A.fp)->Paired (fun a (x:Int×List Int)=>H a=some (.dK (pC x.2))) cs ci->Paired (fun a (x:Int×List Int)=>H' a=some (.dK (pC x.2))) cs ci:=by
   intro cs ci hc hp
   induction hp with
   | nil=>exact .nil
   | cons e _ ih=>exact .cons (m _ (hc _ Ec) _ e) (ih fun b hb=>hc b (Eb _ hb))
  exact this _ _ (fun b hb=>by simp[HA.fp,hb]) x.cs
 ·obtain⟨as,h,hp⟩:=x.d
  refine⟨as,m _ (by simp[HA.fp]) _ h,Paired.mapP hp fun a q z=>?_⟩
  cases q with
  | come g=>exact k _ _ z (ht _ _ z)
  | go g=>exact k _ _ z (ht _ _ z)
  | exch a b=>exact k _ _ z (ht _ _ z)
def bR (l:List (Int×Int))(g:Int):List (Int×Int):=l.filter fun p=>decide (p.1≠g)
theorem mz (l:List (Int×Int))(g:Int):my (dk l) (Sum.inl g:bK)=dk (bR l g):=by
 unfold my dk bR;rw[List.filter_map]
 congr 1
 apply List.filter_congr
 intro p _;simp[Function.comp]
theorem fO (l:List (Int×Int))(g h:Int):look (bR l g) h=if h=g then none else look l h:=by
 induction l with
 | nil=>simp[bR,look]
 | cons p r ih =>
  unfold bR at ih ⊢;rw[List.filter_cons]
  by_cases e:p.1=g
  ·rw[D7 (by simp[e]),ih]
   by_cases hh:h=g
   ·simp[hh]
   ·have:¬ p.1=h:=fun z=>hh (z.symm.trans e)
    simp[hh,look,this]
  ·rw[D8 (by simp[e])]
   show (if p.1=h then some p.2 else look _ h)=_
   rw[ih]
   by_cases hh:h=g
   ·subst hh;simp[e]
   ·simp[hh,look]
theorem ki {l:List (Int×Int)}{g h:Int}:h∈aH (bR l g)↔h∈aH l/\h≠g:=by
 rw[<-cE,fO,<-cE]
 by_cases e:h=g<;>simp[e]
inductive vN where
 | done | already | masked | same | met | noguest (g:Int)
 deriving DecidableEq
def f9:List (Int×List Int)->Int->List Int
 | [],_=>[]
 | x::r,g=>if x.1=g then x.2 else f9 r g
def gP (c:List (Int×List Int))(a b:Int):Bool:=decide (b∈f9 c a)
def iK (ks:List Int)(b:Int):List Int:=if b∈ks then ks else ks++[b]
def bu:List (Int×List Int)->Int->Int->List (Int×List Int)
 | [],a,b=>[(a,[b])]
 | x::r,a,b=>if x.1=a then (x.1,iK x.2 b)::r else x::bu r a b
def aK (st:bI):au->vN
 | .come g=>if (look st.worn g).isSome then .already else .done
 | .go g=>match look st.worn g with | none=>.noguest g | some m=>if m=g then .done else .masked
 | .exch a b=>match look st.worn a with
  | none=>.noguest a
  | some _=>match look st.worn b with
   | none=>.noguest b
   | some _=>if a=b then .same else if gP st.circ a b then .met else .done
def after (st:bI):au->bI
 | .come g=>{ worn:=put st.worn g g,hold:=put st.hold g g,circ:=st.circ,deeds:=st.deeds++[.come g] }
 | .go g=>{ worn:=bR st.worn g,hold:=bR st.hold g,circ:=st.circ,deeds:=st.deeds++[.go g] }
 | .exch a b=>{ worn:=put (put st.worn a (wr st.worn b)) b (wr st.worn a),hold:=put (put st.hold (wr st.worn b) a) (wr st.worn a) b,circ:=bu (bu st.circ a b) b a,deeds:=st.deeds++[.exch a b] }
def names:au->List Int
 | .come g=>[g]
 | .go g=>[g]
 | .exch a b=>[a,b]
def bF (g:Int):Prop:=g.natAbs<10 ^ 100
structure vM (st:bI):Prop where
 w:st.worn.length<1000
 h:st.hold.length<1000
 c:st.circ.length<1000
 k:∀ x∈st.circ,x.2.length<1000
 d:st.deeds.length<1000
structure HX where
 C:Addr
 cW:Addr
 cA:Addr
 cM:Addr
 cS:Addr
 cT:Addr
 cN:Addr
 fN:Addr
def f7 (c:HX)(E:XK)(H:Hp):vN->Prop
 | .done=>False
 | .already=>∀ H',aE H H'->E (.ref c.cA) none H'
 | .masked=>∀ H',aE H H'->E (.ref c.cM) none H'
 | .same=>∀ H',aE H H'->E (.ref c.cS) none H'
 | .met=>∀ H',aE H H'->E (.ref c.cT) none H'
 | .noguest g=>∀ dx H',aE H H'->H' dx=some (.xd [("guest",.int g)])->E (.ref c.cN) (some dx) H'
def Tr (H H':Hp):Prop:=∀ b o,H b=some o->∃ o',H' b=some o'
theorem Tr.refl {H:Hp}:Tr H H:=fun _ o e=>⟨o,e⟩
theorem Tr.trans {H H1 H2:Hp}(a:Tr H H1)(b:Tr H1 H2):Tr H H2:=fun x o e=>let ⟨o',e'⟩:=a x o e;b x o' e'
theorem Tr.of_same {H H':Hp}(s:aE H H'):Tr H H':=fun b o e=>⟨o,s b o e⟩
theorem Tr.upd {H H1:Hp}(a:Tr H H1)(x:Addr)(u:HO):Tr H (upd H1 x u):=fun b o e=>by
 by_cases h:b=x
 ·exact⟨u,by rw[h,ac]⟩
 ·obtain⟨o',e'⟩:=a b o e
  exact⟨o',by rw[ae h];exact e'⟩
def pb (C:Addr)(H:Hp)(p:Addr)(A:HA)(st':bI)(H':Hp):Prop:=∃ A':HA,aJ C H' p A' st'/\Kp A.fp H H'/\(∀ b∈A'.fp,b∈A.fp\/H b=none)/\Tr H H'
def oy (c:HX)(H:Hp)(p:Addr)(A:HA)(st:bI)(d:au)(Q:VK)(E:XK):Prop :=
 if aK st d=.done then ∀ H',pb c.C H p A (after st d) H'->Q .non H' else f7 c E H (aK st d)
inductive vz (C:Addr) (vs:List V) (H:Hp) (Q:VK) (E_:XK):Prop
 | mk (p dx:Addr) (h_0:vs=[.ref p]) (h_1:H p=some (.ins C dx [])) (h_2:∀ (A:HA)(H':Hp),aJ C H' p A ⟨[],[],[],[]⟩->(∀ b o,H b=some o->b≠p->H' b=some o)->(∀ b∈A.fp,H b=none)->Q .non H'):vz C vs H Q E_
inductive oo (c:HX) (vs:List V) (H:Hp) (Q:VK) (E:XK):Prop
 | mk (p:Addr) (A:HA) (st:bI) (g:Int) (h_0:vs=[.ref p,.int g]) (h_1:aJ c.C H p A st) (h_2:vM st) (h_3:bF g) (h_4:oy c H p A st (.come g) Q E):oo c vs H Q E
inductive zU (c:HX) (vs:List V) (H:Hp) (Q:VK) (E:XK):Prop
 | mk (p:Addr) (A:HA) (st:bI) (g:Int) (h_0:vs=[.ref p,.int g]) (h_1:aJ c.C H p A st) (h_2:vM st) (h_3:bF g) (h_4:(∀ m,look st.worn g=some m->bF m/\(m=g->(look st.hold g).isSome))) (h_5:oy c H p A st (.go g) Q E):zU c vs H Q E
inductive qW (c:HX) (vs:List V) (H:Hp) (Q:VK) (E:XK):Prop
 | mk (p:Addr) (A:HA) (st:bI) (a b:Int) (h_0:vs=[.ref p,.int a,.int b]) (h_1:aJ c.C H p A st) (h_2:vM st) (h_3:bF a) (h_4:bF b) (h_5:oy c H p A st (.exch a b) Q E):qW c vs H Q E
inductive jP (C:Addr) (vs:List V) (H:Hp) (Q:VK) (E_:XK):Prop
 | mk (p:Addr) (A:HA) (st:bI) (g m:Int) (h_0:vs=[.ref p,.int g,.int m]) (h_1:aJ C H p A st) (h_2:st.worn.length<2000) (h_3:st.hold.length<2000) (h_4:Q .non (upd (upd H A.w (.dK (dk (put st.worn g m)))) A.h (.dK (dk (put st.hold m g))))):jP C vs H Q E_
inductive iH (c:HX) (vs:List V) (H:Hp) (Q:VK) (E:XK):Prop
 | mk (p:Addr) (A:HA) (st:bI) (g:Int) (h_0:vs=[.ref p,.int g]) (h_1:aJ c.C H p A st) (h_2:bF g) (h_3:match look st.worn g with
 | some m=>Q (.int m) H
 | none=>f7 c E H (.noguest g)):iH c vs H Q E
inductive jW (c:HX) (vs:List V) (H:Hp) (Q:VK) (E:XK):Prop
 | mk (p:Addr) (A:HA) (st:bI) (g:Int) (h_0:vs=[.ref p,.int g]) (h_1:aJ c.C H p A st) (h_2:bF g) (h_3:match look st.hold g with
 | some m=>Q (.int m) H
 | none=>f7 c E H (.noguest g)):jW c vs H Q E
inductive jS (C:Addr) (vs:List V) (H:Hp) (Q:VK) (E_:XK):Prop
 | mk (p:Addr) (A:HA) (st:bI) (g:Int) (h_0:vs=[.ref p,.int g]) (h_1:aJ C H p A st) (h_2:Q (.bl (look st.worn g).isSome) H):jS C vs H Q E_
inductive jQ (C:Addr) (vs:List V) (H:Hp) (Q:VK) (E_:XK):Prop
 | mk (p:Addr) (A:HA) (st:bI) (h_0:vs=[.ref p]) (h_1:aJ C H p A st) (h_2:st.worn.length<64) (h_3:∀ l,H l=none->Q (.ref l) (upd H l (.lst ((bB (aH st.worn)).map V.int)))):jQ C vs H Q E_
inductive vy (C:Addr) (vs:List V) (H:Hp) (Q:VK) (E_:XK):Prop
 | mk (p:Addr) (A:HA) (st:bI) (a b:Int) (h_0:vs=[.ref p,.int a,.int b]) (h_1:aJ C H p A st) (h_2:∀ H',aE H H'->Q (.bl (gP st.circ a b)) H'):vy C vs H Q E_
inductive vx (C:Addr) (vs:List V) (H:Hp) (Q:VK) (E_:XK):Prop
 | mk (p:Addr) (A:HA) (st:bI) (a b:Int) (h_0:vs=[.ref p,.int a,.int b]) (h_1:aJ C H p A st) (h_2:st.circ.length<2000) (h_3:(∀ x∈st.circ,x.2.length<2000)) (h_4:∀ H',pb C H p A { st with circ:=bu st.circ a b } H'->Q .non H'):vx C vs H Q E_
inductive jT (C:Addr) (vs:List V) (H:Hp) (Q:VK) (E_:XK):Prop
 | mk (p:Addr) (A:HA) (st:bI) (h_0:vs=[.ref p]) (h_1:aJ C H p A st) (h_2:Q (.int st.deeds.length) H):jT C vs H Q E_
structure HT (K:PySem.W.Frag)(mg:Str->Option Value)(c:HX):Prop where
 cl:vL K c.C
 nW:fq K c.C "worn"
 nH:fq K c.C "holders"
 nC:fq K c.C "circles"
 nD:fq K c.C "deeds"
 mC:mg "Hall" = some (.ref c.C)
 eA:fu K c.cA
 eM:fu K c.cM
 eS:fu K c.cS
 eT:fu K c.cT
 mA:mg "AlreadyIn" = some (.ref c.cA)
 mM:mg "Masked" = some (.ref c.cM)
 mS:mg "Same" = some (.ref c.cS)
 mT:mg "Met" = some (.ref c.cT)
 mN:mg "NoGuest" = some (.ref c.cN)
 mW:mg "WaltzError" = some (.ref c.cW)
 eN:gj K c.cN c.fN=true
 gN:Az K c.cN "guest"
 tN:PySem.W.typeIn K (.ref c.fN)=some (.type "function")
 wS:PySem.W.specialIn K (.ref c.cW) "__getattribute__" = some (some (.builtin "type.__getattribute__"))
 wR:PySem.W.readsIn K c.cW (.type "type")=true
 wI:PySem.W.findCls K (.ref c.cW) (.type "type") "__init__" = some (.val (.builtin "ValueError.__init__"))
structure HM (K:PySem.W.Frag)(c:HX):Prop where
 aa:PySem.W.exmOne K (.ref c.cA) (.ref c.cA)=some true
 ma:PySem.W.exmOne K (.ref c.cM) (.ref c.cA)=some false
 mm:PySem.W.exmOne K (.ref c.cM) (.ref c.cM)=some true
 sa:PySem.W.exmOne K (.ref c.cS) (.ref c.cA)=some false
 sm:PySem.W.exmOne K (.ref c.cS) (.ref c.cM)=some false
 ss:PySem.W.exmOne K (.ref c.cS) (.ref c.cS)=some true
 ta:PySem.W.exmOne K (.ref c.cT) (.ref c.cA)=some false
 tm:PySem.W.exmOne K (.ref c.cT) (.ref c.cM)=some false
 ts:PySem.W.exmOne K (.ref c.cT) (.ref c.cS)=some false
 tt:PySem.W.exmOne K (.ref c.cT) (.ref c.cT)=some true
 na:PySem.W.exmOne K (.ref c.cN) (.ref c.cA)=some false
 nm:PySem.W.exmOne K (.ref c.cN) (.ref c.cM)=some false
 ns:PySem.W.exmOne K (.ref c.cN) (.ref c.cS)=some false
 nt:PySem.W.exmOne K (.ref c.cN) (.ref c.cT)=some false
 nn:PySem.W.exmOne K (.ref c.cN) (.ref c.cN)=some true
def jr (P:Program)(w:World)(K:PySem.W.Frag)(mg:Str->Option Value)(base:Heap)(c:HX):Prop:=∃ fd:FuncData,aV P w K mg base cz 1 c.fN fd ["self","guest"] (wM c.cN "guest")/\dy K fd ["self","guest"] []
theorem si {X:Cx}{c:HX}{E:XK}{e:Expr}{te:TE}{np cpos pos:Pos}(N:jr X.prog X.w X.K X.mg X.base c)(U:HT X.K X.mg c)(hr:bN 2 X.A)(hfl:rn X E)(hex:X.ex=[])(hh:X.A.handled=none)(hg:Gl X "NoGuest")(he:PE X e te)
  (hs:starEach [e] X.env=[(false,eval e X.env)]:=by rfl):PS X (.Raise (some (.Call (.Name "NoGuest" np) [e] [] cpos)) none pos) (rg te c.cN "guest" E):=by
 obtain⟨fd,G,hb⟩:=N;exact pM U.eN U.tN G hr hb hfl hex hh hg U.mN he (by decide) hs
section
variable {C:Addr}{H:Hp}{p t:Addr}{A:HA}{st:bI}
structure uO (A:HA):Prop where
 wh:A.w≠A.h
 wc:A.w≠A.c
 wd:A.w≠A.d
 hc:A.h≠A.c
 hd:A.h≠A.d
 cd:A.c≠A.d
 w:A.w∉A.cs
 h:A.h∉A.cs
 c:A.c∉A.cs
 d:A.d∉A.cs
 cs:A.cs.Nodup
theorem aJ.apart (S:aJ C H p A st):uO A:=by
 have:=S.nd;simp only[HA.fp,EI,Eh,not_or]at this;obtain⟨⟨a1,a2,a3,a4⟩,⟨b1,b2,b3⟩,⟨c1,c2⟩,d1,e⟩:=this;exact⟨a1,a2,a3,b1,b2,c1,a4,b3,c2,d1,e⟩
theorem aJ.pne (S:aJ C H p A st):p∉A.fp:=by
 have n1:p≠A.w:=b5 S.ob S.w (by intro z;cases z);have n2:p≠A.h:=b5 S.ob S.h (by intro z;cases z);have n3:p≠A.c:=b5 S.ob S.c (by intro z;cases z);obtain⟨as,hd,_⟩:=S.d;have n4:p≠A.d:=b5 S.ob hd (by intro z;cases z)
 have n5:p∉A.cs:=fun z=>by
  obtain⟨i,hi,e⟩:=List.getElem_of_mem z;obtain⟨b,_,q⟩:=bw S.cs (List.getElem?_eq_getElem hi);rw[e,S.ob]at q;cases q
 simp[HA.fp,n1,n2,n3,n4,n5]
theorem ju {H H':Hp}:∀ {cs:List Addr}{ci:List (Int×List Int)},Paired (fun a (x:Int×List Int)=>H a=some (.dK (pC x.2))) cs ci->(∀ b∈cs,∀ o,H b=some o->H' b=some o)->Paired (fun a (x:Int×List Int)=>H' a=some (.dK (pC x.2))) cs ci:=by
 intro cs ci hp k
 induction hp with
 | nil=>exact .nil
 | cons e _ ih=>exact .cons (k _ Ec _ e) (ih fun b hb=>k b (Eb _ hb))
theorem bO (x:au):∃ xs,bv x=.tup xs:=by cases x<;>exact⟨_,rfl⟩
theorem aJ.tup (S:aJ C H p A st){b:Addr}{xs:List V}(e:H b=some (.tup xs)):b∉A.fp:=by
 have n1:b≠A.w:=b5 e S.w (by intro z;cases z);have n2:b≠A.h:=b5 e S.h (by intro z;cases z);have n3:b≠A.c:=b5 e S.c (by intro z;cases z);obtain⟨as,hd,_⟩:=S.d;have n4:b≠A.d:=b5 e hd (by intro z;cases z)
 have n5:b∉A.cs:=fun z=>by
  obtain⟨i,hi,e'⟩:=List.getElem_of_mem z;obtain⟨y,_,q⟩:=bw S.cs (List.getElem?_eq_getElem hi);rw[e',e]at q;cases q
 simp[HA.fp,n1,n2,n3,n4,n5]
theorem aJ.tracked (S:aJ C H p A st){b:Addr}(h:b∈A.fp):∃ o,H b=some o:=by
 simp only[HA.fp,Eh]at h;rcases h with rfl | rfl | rfl | rfl | h
 ·exact⟨_,S.w⟩
 ·exact⟨_,S.h⟩
 ·exact⟨_,S.c⟩
 ·obtain⟨as,hd,_⟩:=S.d;exact⟨_,hd⟩
 ·obtain⟨i,hi,rfl⟩:=List.getElem_of_mem h
  obtain⟨y,_,q⟩:=bw S.cs (List.getElem?_eq_getElem hi);exact⟨_,q⟩
theorem uO.fp {A:HA}(a:uO A):A.fp.Nodup:=by
 simp only[HA.fp,EI,Eh,not_or];exact⟨⟨a.wh,a.wc,a.wd,a.w⟩,⟨a.hc,a.hd,a.h⟩,⟨a.cd,a.c⟩,a.d,a.cs⟩
theorem ed {fp:List Addr}{a:Addr}{o:HO}(h:a∈fp):Kp fp H (upd H a o):=fun b u e n=>by
 rw[ae (fun z:b=a=>n (by rw[z];exact h))];exact e
theorem tY {fp:List Addr}{a:Addr}{o:HO}(h:H a=none):Kp fp H (upd H a o):=fun b u e n=>by
 rw[ae (aj e h)];exact e
theorem Kp.on {fp:List Addr}{H1 H2:Hp}(a:Kp fp H H1)(b:Kp fp H1 H2):Kp fp H H2:=fun x o e n=>b x o (a x o e n) n
theorem qk (S:aJ C H p A st)(w':List (Int×Int)):aJ C (upd H A.w (.dK (dk w'))) p A { st with worn:=w' }:=by
 have a:=S.apart;have np:=S.pne;simp only[HA.fp,Eh,not_or]at np;refine⟨by rw[ae np.1];exact S.ob,S.nd,ac,by rw[ae (Eo a.wh)];exact S.h,by rw[ae (Eo a.wc)];exact S.c,ju S.cs fun b hb o e=>by rw[ae (fun z:b=A.w=>a.w (by rw[<-z];exact hb))];exact e,?_⟩;obtain⟨as,hd,hp⟩:=S.d;refine⟨as,by rw[ae (Eo a.wd)];exact hd,Paired.mapP hp fun b x e=>?_⟩;obtain⟨xs,ex⟩:=bO x;rw[ae (fun z=>S.tup (xs:=xs) (by rw[<-ex];exact e) (by rw[z];simp[HA.fp]))];exact e
theorem qj (S:aJ C H p A st)(w':List (Int×Int)):aJ C (upd H A.h (.dK (dk w'))) p A { st with hold:=w' }:=by
 have a:=S.apart;have np:=S.pne;simp only[HA.fp,Eh,not_or]at np;refine⟨by rw[ae np.2.1];exact S.ob,S.nd,by rw[ae a.wh];exact S.w,ac,by rw[ae (Eo a.hc)];exact S.c,ju S.cs fun b hb o e=>by rw[ae (fun z:b=A.h=>a.h (by rw[<-z];exact hb))];exact e,?_⟩;obtain⟨as,hd,hp⟩:=S.d;refine⟨as,by rw[ae (Eo a.hd)];exact hd,Paired.mapP hp fun b x e=>?_⟩;obtain⟨xs,ex⟩:=bO x;rw[ae (fun z=>S.tup (xs:=xs) (by rw[<-ex];exact e) (by rw[z];simp[HA.fp]))];exact e
theorem ke (S:aJ C H p A st){as:List Addr}(hd:H A.d=some (.lst (as.map V.ref)))(hp:Paired (fun a x=>H a=some (bv x)) as st.deeds)(x:au)(ht:H t=none) :
  aJ C (upd (upd H t (bv x)) A.d (.lst (as.map V.ref++[.ref t]))) p A { st with deeds:=st.deeds++[x] }:=by
 have a:=S.apart;have np:=S.pne;simp only[HA.fp,Eh,not_or]at np;have n:∀ b o,H b=some o->b≠t:=fun b o e=>aj e ht
 have e1:∀ b o,H b=some o->b≠A.d->(upd (upd H t (bv x)) A.d (.lst (as.map V.ref++[.ref t]))) b=some o:=fun b o e h=>by rw[ae h,ae (n b o e)];exact e
 have td:t≠A.d:=fun z=>by rw[z,hd]at ht;cases ht
 refine⟨e1 _ _ S.ob np.2.2.2.1,S.nd,e1 _ _ S.w a.wd,e1 _ _ S.h a.hd,e1 _ _ S.c a.cd,ju S.cs fun b hb o e=>e1 b o e (fun z=>a.d (by rw[<-z];exact hb)),as++[t],by rw[ac,Es];rfl,?_⟩;refine a7 (Paired.mapP hp fun b y e=>?_) (.cons (by rw[ae td,ac]) .nil);obtain⟨xs,ex⟩:=bO y;exact e1 b _ e (fun z=>S.tup (xs:=xs) (by rw[<-ex];exact e) (by rw[z];simp[HA.fp]))
theorem va:A.w∈A.fp:=by simp[HA.fp]
theorem u9:A.h∈A.fp:=by simp[HA.fp]
theorem Ad:A.c∈A.fp:=by simp[HA.fp]
theorem xN:A.d∈A.fp:=by simp[HA.fp]
end
theorem j9 {c:HX}{H:Hp}{p:Addr}{A:HA}{st:bI}{d:au}{Q:VK}{E:XK}(k:oy c H p A st d Q E)(h:aK st d=.done):∀ H',pb c.C H p A (after st d) H'->Q .non H':=by
 unfold oy at k;rwa [D8 h]at k
theorem d9 {c:HX}{H:Hp}{p:Addr}{A:HA}{st:bI}{d:au}{Q:VK}{E:XK}{o:vN}(k:oy c H p A st d Q E)(h:aK st d=o)(ho:o≠.done):f7 c E H o:=by
 unfold oy at k;rwa [h,D7 ho]at k
theorem jA:∀ (ci:List (Int×List Int))(a b:Int),(bu ci a b).length<=ci.length+1
 | [],_,_=>by simp[bu]
 | x::r,a,b=>by
  unfold bu;split
  ·simp
  ·have:=jA r a b;simp;omega
theorem xH (ks:List Int)(b:Int):(iK ks b).length<=ks.length+1:=by unfold iK;split<;>simp
theorem me {ci:List (Int×List Int)}{a b:Int}{n:Nat}(h:∀ x∈ci,x.2.length<=n)(hn:0<n+1):∀ x∈bu ci a b,x.2.length<=n+1:=by
 induction ci with
 | nil=>intro x hx;simp[bu]at hx;subst hx;simp
 | cons y r ih =>
  intro x hx;unfold bu at hx;split at hx
  ·rcases Eh.mp hx with z | z
   ·subst z;have:=xH y.2 b;have:=h y Ec;simp only;omega
   ·have:=h x (Eb _ z);omega
  ·rcases Eh.mp hx with z | z
   ·subst z;have:=h x Ec;omega
   ·exact ih (fun x hx=>h x (Eb _ hx)) x z
theorem zP (ks:List Int)(b:Int):eU (pC ks) (Sum.inl b:bK) (V.bl true)=pC (iK ks b):=by
 unfold eU iK pC
 have e:((ks.map fun k=>((Sum.inl k:bK),V.bl true)).any fun kv=>decide (kv.1=(Sum.inl b:bK)))=decide (b∈ks):=by
  rw[List.any_map]
  induction ks with
  | nil=>rfl
  | cons x r ih=>rw[Fj,ih];by_cases h:x=b<;>simp[h,eq_comm]
 rw[e]
 by_cases h:b∈ks
 ·rw[D8 (Ee h),D8 h,EH]
  apply ET
  intro k _;simp only[Function.comp];split<;>rfl
 ·rw[D7 (by simp[h]),D7 h,Es]
  rfl
theorem z6 (ks:List Int)(b:Int):(cK (pC ks) (Sum.inl b:bK)).isSome=decide (b∈ks):=by
 rw[<-im];unfold pC;rw[List.any_map]
 induction ks with
 | nil=>rfl
 | cons x r ih=>rw[Fj,ih];by_cases h:x=b<;>simp[h,eq_comm]
section
variable {H:Hp}
abbrev CP (H:Hp)(cs:List Addr)(ci:List (Int×List Int)):Prop:=Paired (fun a (x:Int×List Int)=>H a=some (.dK (pC x.2))) cs ci
theorem fK:∀ {cs:List Addr}{ci:List (Int×List Int)}(a:Int),CP H cs ci ->
  (cK (cC cs ci) (Sum.inl a:bK)=none/\f9 ci a=[]/\∀ b,bu ci a b=ci++[(a,[b])]) \/
  ∃ ad,ad∈cs/\cK (cC cs ci) (Sum.inl a:bK)=some (.ref ad)/\H ad=some (.dK (pC (f9 ci a))) /\
   ∀ b (H':Hp),cs.Nodup->(∀ x∈cs,x≠ad->∀ o,H x=some o->H' x=some o)->H' ad=some (.dK (pC (iK (f9 ci a) b)))->CP H' cs (bu ci a b)/\cC cs (bu ci a b)=cC cs ci
 | _,_,a,.nil=>.inl ⟨rfl,rfl,fun b=>rfl⟩
 | c::cs,x::ci,a,.cons e r=>by
  by_cases h:x.1=a
  ·refine .inr ⟨c,Ec,ip (p:=((Sum.inl x.1:bK),V.ref c)) (by rw[h]),by simp only[f9,D8 h];exact e,fun b H' nd k k'=>?_⟩
   simp only[f9,D8 h]at k';simp only[bu,D8 h];refine⟨.cons k' (ju r fun y hy o z=>k y (Eb _ hy) (fun q=>(EI.mp nd).1 (by rw[<-q];exact hy)) o z),rfl⟩
  ·have hk:cK (cC (c::cs) (x::ci)) (Sum.inl a:bK)=cK (cC cs ci) (Sum.inl a:bK):=io (p:=((Sum.inl x.1:bK),V.ref c)) (fun z=>h (Sum.inl.inj z))
   have hc:f9 (x::ci) a=f9 ci a:=by simp only[f9,D7 h]
   rcases fK a r with ⟨h1,h2,h3⟩ | ⟨ad,h1,h2,h3,h4⟩
   ·exact .inl ⟨by rw[hk];exact h1,by rw[hc];exact h2,fun b=>by simp only[bu,D7 h,h3 b,List.cons_append]⟩
   ·refine .inr ⟨ad,Eb _ h1,by rw[hk];exact h2,by rw[hc];exact h3,fun b H' nd k k'=>?_⟩
    rw[hc]at k';obtain⟨n1,n2⟩:=EI.mp nd;obtain⟨q1,q2⟩:=h4 b H' n2 (fun y hy=>k y (Eb _ hy)) k';simp only[bu,D7 h];refine⟨.cons (k c Ec (fun z=>n1 (by rw[z];exact h1)) _ e) q1,?_⟩
    show _::cC cs (bu ci a b)=_::cC cs ci
    rw[q2]
theorem mi:∀ {cs:List Addr}{ci:List (Int×List Int)}(a:Int)(ks:List Int)(l:Addr),cs.length=ci.length->cC (cs++[l]) (ci++[(a,ks)])=cC cs ci++[(Sum.inl a,V.ref l)]
 | [],[],_,_,_,_=>rfl
 | c::cs,x::ci,a,ks,l,h=>by
  show _::cC (cs++[l]) (ci++[(a,ks)])=_
  rw[mi a ks l (by simpa using h)];rfl
theorem pD:∀ {cs:List Addr}{ci:List (Int×List Int)},cs.length=ci.length->(cC cs ci).length=ci.length
 | [],[],_=>rfl
 | c::cs,x::ci,h=>by show (cC cs ci).length+1=_;rw[pD (by simpa using h)];rfl
end
end Wz
namespace L2
open PySem PySem.Spec PyProof.Rows
def Br (td ty tx:TE):TE:=fun σ H Q=>td σ H fun x H1=>∃ a,x=.ref a/\CH H1 a/\ty σ H1 fun y H2=>tx σ H2 fun z H3=>∃ kvs k,H3 a=some (.dK kvs)/\y=kV k/\kvs.length<sizeLine /\
 (∀ v,cK kvs k=some v->Q v H3)/\(cK kvs k=none->Q z (upd H3 a (.dK (eU kvs k z))))
theorem x3 {X:Cx}{o e f:Expr}{apos cpos:Pos}{td ty tx:TE}(ho:PE X o td)(he:PE X e ty)(hf:PE X f tx)(m:M2 X o "setdefault" apos e f cpos):PE X (.Call (.Attribute o "setdefault" apos) [e,f] [] cpos) (Br td ty tx):=by
 intro pins s σ H Q I h;refine wpAny_Call_method m.base m.few m.line PySem.F.plainAttrs_dict PySem.F.slot_dict_setdefault PySem.F.type_dict_setdefault (aU (ho pins s σ H _ I h) fun u s1 ⟨x,H1,I1,rx,a,ex,d,q1⟩=>?_);subst ex;obtain rfl:u=Value.ref a:=rx;obtain⟨t1,t2,_⟩:=tV I1 d;refine⟨t1,t2,?_⟩;rw[m.trees]
 refine Fi rfl (E6 (EM (aU (he pins s1 σ H1 _ I1 q1) fun iv s2 ⟨y,H2,I2,ry,q2⟩ =>
  EM (aU (hf pins s2 σ H2 _ I2 q2) fun fv s3 ⟨z,H3,I3,rz,kvs,k,ea,ey,hlt,q3,q4⟩=>Ff ?_))))
 subst ey;obtain⟨hz,hd,vs,rel,dd⟩:=xl I3.hok ea
 refine call_meetsIn PySem.F.slot_dict_setdefault dd.typeIs PySem.F.entry_dict_setdefault (PySem.F.args_dict_setdefault_3 _ _ _) (kt_meets_setdefault (aX X.prog X.w) a (kX ry) hd fv)
  ⟨vs,dd,by rw[<-rel.length];exact hz,fun v' hv'=>?_,fun hn h' dd' hs=>?_⟩
 ·cases l:cK kvs k with
  | none=>have:=rel.val k;rw[l,hv']at this;exact this.elim
  | some v =>
   have:=rel.val k;rw[l,hv']at this;exact⟨v,H3,I3.tok _,this,q3 v l⟩
 ·cases l:cK kvs k with
  | some v=>have:=rel.val k;rw[l,hn]at this;exact this.elim
  | none =>
   have he:∃ q,h'.get? a=some q:=let ⟨q,_,_,hq,_⟩:=dd';⟨q,hq⟩;exact⟨z,_,lH I3 (by rw[ea];exact True.intro) hs he (tL (by have:=hU kvs k z;omega) hd (rel.put k rz) dd'),rz,q4 l⟩
end L2
namespace Wz
open PySem L2
theorem AN {A:Around}{k n:Nat}(hr:bN k A)(h:n<=200):A.units+n<cLine:=by have:=hr.un;omega
theorem cc:decide (V.str "come" = V.str "come")=true:=by decide +kernel
theorem cg:decide (V.str "come" = V.str "go")=false:=by decide +kernel
theorem ce:decide (V.str "come" = V.str "exchange")=false:=by decide +kernel
theorem gc:decide (V.str "go" = V.str "come")=false:=by decide +kernel
theorem gg:decide (V.str "go" = V.str "go")=true:=by decide +kernel
theorem ge:decide (V.str "go" = V.str "exchange")=false:=by decide +kernel
theorem ec:decide (V.str "exchange" = V.str "come")=false:=by decide +kernel
theorem eg:decide (V.str "exchange" = V.str "go")=false:=by decide +kernel
theorem ee:decide (V.str "exchange" = V.str "exchange")=true:=by decide +kernel
def bA:au->Str
 | .come _=>"come"
 | .go _=>"go"
 | .exch _ _=>"exchange"
def bQ (d:au):List V:=V.str (bA d)::(names d).map V.int
theorem iu (d:au):bv d=.tup (bQ d):=by cases d<;>rfl
theorem rD (d:au):dM (bQ d) (some 1) none=(names d).map V.int:=by cases d<;>rfl
theorem uT (d:au):¬ (HT.sIx (bQ d).length 0 (some 1)=0/\HT.sIx (bQ d).length (bQ d).length none=(bQ d).length):=by cases d<;>(intro h;have h1:=h.1;simp[bQ,names,HT.sIx]at h1)
def bD (w:List (Int×Int))(m:Int->Int->Bool):au->vN
 | .come g=>if (look w g).isSome then .already else .done
 | .go g=>match look w g with | none=>.noguest g | some x=>if x=g then .done else .masked
 | .exch a b=>match look w a with
  | none=>.noguest a
  | some _=>match look w b with
   | none=>.noguest b
   | some _=>if a=b then .same else if m a b then .met else .done
theorem zi (st:bI)(d:au):aK st d=bD st.worn (gP st.circ) d:=by cases d<;>rfl
theorem qo {w:List (Int×Int)}{m m':Int->Int->Bool}(h:∀ a b,m a b=m' a b)(d:au):bD w m d=bD w m' d:=by cases d<;>simp only[bD,h]
def dS (a b:Int):Int×Int:=if b<a then (b,a) else (a,b)
def mU (ml:List (Int×Int))(a b:Int):Bool:=decide (dS a b∈ml)
def lL (ml:List (Int×Int)):List (List bK×V):=ml.map fun p=>([Sum.inl p.1,Sum.inl p.2],V.bl true)
def mf (ml:List (Int×Int))(p:Int×Int):List (Int×Int):=if p∈ml then ml else ml++[p]
def wD:vN->List V
 | .done=>[.str "done",.non]
 | .already=>[.str "AlreadyIn",.non]
 | .masked=>[.str "Masked",.non]
 | .same=>[.str "Same",.non]
 | .met=>[.str "Met",.non]
 | .noguest g=>[.str "NoGuest",.int g]
def pY (w:List (Int×Int)):au->List (Int×Int)
 | .come g=>put w g g
 | .go g=>bR w g
 | .exch a b=>put (put w a (wr w b)) b (wr w a)
def pX (ml:List (Int×Int)):au->List (Int×Int)
 | .come _=>ml
 | .go _=>ml
 | .exch a b=>mf ml (dS a b)
theorem tE (st:bI)(d:au):(after st d).worn=pY st.worn d:=by cases d<;>rfl
theorem vd (ml:List (Int×Int))(p:Int×Int):((lL ml).any fun kv=>decide (kv.1=([Sum.inl p.1,Sum.inl p.2]:List bK)))=decide (p∈ml):=by
 unfold lL;rw[List.any_map]
 induction ml with
 | nil=>rfl
 | cons x r ih =>
  rw[Fj,ih]
  have:(decide ((([Sum.inl x.1,Sum.inl x.2]:List bK))=[Sum.inl p.1,Sum.inl p.2]))=decide (p=x):=by
   by_cases h:p=x
   ·subst h;simp
   ·rw[Ei h,Ei]
    intro z;simp only[List.cons.injEq,Sum.inl.injEq,and_true]at z;exact h (Prod.ext z.1.symm z.2.symm)
  simp only[Function.comp];rw[this]
  by_cases h:p=x<;>simp[h]
theorem zu (ml:List (Int×Int))(p:Int×Int):(cK (lL ml) ([Sum.inl p.1,Sum.inl p.2]:List bK)).isSome=decide (p∈ml):=by rw[<-im,vd]
theorem zt (ml:List (Int×Int))(p:Int×Int):eU (lL ml) ([Sum.inl p.1,Sum.inl p.2]:List bK) (V.bl true)=lL (mf ml p):=by
 unfold eU mf;rw[vd]
 by_cases h:p∈ml
 ·rw[D8 (Ee h),D8 h]
  unfold lL;rw[EH]
  apply ET
  intro x _;simp only[Function.comp];split<;>rfl
 ·rw[D7 (by simp[h]),D7 h]
  unfold lL;rw[Es];rfl
theorem xE {w:List (Int×Int)}{m:Int->Int->Bool}{d:au}{i:Nat}{x:Int}(hc:bA d≠"come")(hp:∀ y∈(names d).take i,(look w y).isSome=true)(hi:(names d)[i]? = some x)(hx:look w x=none):bD w m d=.noguest x:=by
 cases d with
 | come g=>exact absurd rfl hc
 | go g =>
  cases i with
  | zero=>simp[names]at hi;subst hi;simp[bD,hx]
  | succ i=>simp[names]at hi
 | exch a b =>
  cases i with
  | zero=>simp[names]at hi;subst hi;simp[bD,hx]
  | succ i =>
   cases i with
   | zero =>
    simp[names]at hi;subst hi;have:=hp a (by simp[names]);obtain⟨v,hv⟩:=EW.mp this;simp[bD,hv,hx]
   | succ i=>simp[names]at hi
inductive sN (vs:List V) (H:Hp) (Q:VK) (E_:XK):Prop
 | mk (a b:Int) (h_0:vs=[.int a,.int b]) (h_1:∀ t,H t=none->Q (.ref t) (upd H t (.tup [.int (dS a b).1,.int (dS a b).2]))):sN vs H Q E_
inductive sM (vs:List V) (H:Hp) (Q:VK) (E_:XK):Prop
 | mk (w m t:Addr) (wl ml:List (Int×Int)) (d:au) (h_0:vs=[.ref w,.ref m,.ref t]) (h_1:H w=some (.dK (dk wl))) (h_2:H m=some (.dT (lL ml))) (h_3:H t=some (bv d)) (h_4:∀ (r:Addr)(H':Hp),H r=none->aE H H'->H' r=some (.tup (wD (bD wl (mU ml) d)))->Q (.ref r) H'):sM vs H Q E_
inductive jM (vs:List V) (H:Hp) (Q:VK) (E_:XK):Prop
 | mk (w m t:Addr) (wl ml:List (Int×Int)) (d:au) (h_0:vs=[.ref w,.ref m,.ref t]) (h_1:H w=some (.dK (dk wl))) (h_2:H m=some (.dT (lL ml))) (h_3:H t=some (bv d)) (h_4:wl.length<=1000) (h_5:ml.length<=4000) (h_6:bD wl (mU ml) d=.done) (h_7:∀ H',H' w=some (.dK (dk (pY wl d)))->H' m=some (.dT (lL (pX ml d)))->(∀ b o,H b=some o->b≠w->b≠m->H' b=some o)->Q .non H'):jM vs H Q E_
structure gK (st:bI):Prop where
 wn:(aH st.worn).Nodup
 wh:∀ g m,look st.worn g=some m↔look st.hold m=some g
 ow:∀ g m,look st.worn g=some m->m∈aH st.worn
 sm:∀ g m,look st.worn g=some m->bF m
 cy:∀ a b,gP st.circ a b=gP st.circ b a
def bt (st:bI)(d:au):bI:=if aK st d=.done then after st d else st
inductive zT (c:HX) (vs:List V) (H:Hp) (Q:VK) (E:XK):Prop
 | mk (p t:Addr) (A:HA) (st:bI) (d:au) (h_0:vs=[.ref p,.ref t]) (h_1:H t=some (bv d)) (h_2:aJ c.C H p A st) (h_3:vM st) (h_4:gK st) (h_5:(∀ g∈names d,bF g)) (h_6:oy c H p A st d Q E):zT c vs H Q E
def aO (m c:Int):List Int:=(List.range m.toNat).map fun (k:Nat)=>jv (k:Int) c
theorem kb (k c:Int):bF (jv k c):=by
 unfold bF jv;have h:∀ x:Int,0<=x%2147483647/\x%2147483647<2147483647:=fun x=>⟨EJ _ (by decide),EF _ (by decide)⟩;dsimp only;generalize hx:(k*(1+cB c*1234567891%2147483646)+cB c/2147483646)%2147483647=x;have:=h (k*(1+cB c*1234567891%2147483646)+cB c/2147483646);rw[hx]at this
 have e:(10:Nat) ^ 100=10 ^ 15*10 ^ 85:=by rw[<-Nat.pow_add]
 have e2:(0:Nat)<10 ^ 85:=Nat.pow_pos (by decide)
 have:x.natAbs<10 ^ 15/\(x+997852516353).natAbs<10 ^ 15:=by constructor<;>omega
 split
 ·calc _<10 ^ 15:=this.2
   _<=10 ^ 15*10 ^ 85:=Nat.le_mul_of_pos_right _ e2
   _=10 ^ 100:=e.symm
 ·calc _<10 ^ 15:=this.1
   _<=10 ^ 15*10 ^ 85:=Nat.le_mul_of_pos_right _ e2
   _=10 ^ 100:=e.symm
theorem p9 (x:Int):∀ (c:List (Int×List Int))(a b:Int),f9 (bu c a b) x=if x=a then iK (f9 c a) b else f9 c x
 | [],a,b=>by
  by_cases h:x=a
  ·subst h;simp[bu,f9,iK]
  ·simp[bu,f9,h,Eo h]
 | y::r,a,b=>by
  unfold bu
  by_cases h:y.1=a
  ·rw[D8 h]
   by_cases hx:x=a
   ·subst hx;simp[f9,h]
   ·have:¬ y.1=x:=fun z=>hx (z.symm.trans h)
    simp[f9,hx,this]
  ·rw[D7 h]
   by_cases hx:x=a
   ·subst hx
    simp only[f9,D7 h,if_true];rw[p9 x r x b,D8 rfl]
   ·simp only[f9,p9 x r a b,D7 hx]
theorem rP {ks:List Int}{b y:Int}:y∈iK ks b↔y∈ks\/y=b:=by
 unfold iK;split
 ·rename_i h
  constructor
  ·exact .inl
  ·rintro (z | z)
   ·exact z
   ·rw[z];exact h
 ·simp
theorem vb (c:List (Int×List Int))(a b x y:Int):gP (bu c a b) x y=(gP c x y||(decide (x=a)&&decide (y=b))):=by
 unfold gP;rw[p9]
 by_cases h:x=a
 ·subst h
  rw[D8 rfl]
  by_cases hy:y=b
  ·have:y∈iK (f9 c x) b:=rP.mpr (.inr hy)
   simp[hy,this];rw[hy]at this;exact this
  ·have:(y∈iK (f9 c x) b)↔y∈f9 c x:=by rw[rP];simp[hy]
   simp[hy,this]
 ·rw[D7 h];simp[h]
theorem qw (c:List (Int×List Int))(a b x y:Int):gP (bu (bu c a b) b a) x y=(gP c x y||(decide (x=a)&&decide (y=b))||(decide (x=b)&&decide (y=a))):=by rw[vb,vb]
theorem ko {l:List (Int×Int)}(h:(aH l).Nodup)(g m:Int):(aH (put l g m)).Nodup:=by
 rw[rN];split
 ·exact h
 ·rename_i n
  exact lM h n
theorem vg {l:List (Int×Int)}(h:(aH l).Nodup)(g:Int):(aH (bR l g)).Nodup:=by
 unfold aH bR at *;exact (List.filter_sublist.map _).nodup h
theorem mI:gK ⟨[],[],[],[]⟩:=by
 refine⟨FP,fun g m=>?_,fun g m h=>?_,fun g m h=>?_,fun a b=>rfl⟩
 ·simp[look]
 ·simp[look]at h
 ·simp[look]at h
theorem ka {st:bI}{d:au}(G:gK st)(sm:∀ g∈names d,bF g):gK (bt st d):=by
 unfold bt
 by_cases hd:aK st d=.done
 ·rw[D8 hd]
  have kw:∀ g m,look st.worn g=some m->g∈aH st.worn:=fun g m h=>cE.mp (by rw[h];rfl)
  cases d with
  | come g =>
   have hn:look st.worn g=none:=by
    cases e:look st.worn g with
    | none=>rfl
    | some m=>simp[aK,e]at hd
   have hh:look st.hold g=none:=by
    cases e:look st.hold g with
    | none=>rfl
    | some m =>
     have:=G.ow m g ((G.wh m g).mpr e);rw[<-cE,hn]at this;cases this
   refine⟨ko G.wn g g,fun x m=>?_,fun x m h=>?_,fun x m h=>?_,G.cy⟩
   ·show look (put st.worn g g) x=some m↔look (put st.hold g g) m=some x
    rw[cU,cU]
    by_cases hx:x=g
    ·subst hx
     by_cases hm:m=x
     ·subst hm;simp
     ·rw[D8 rfl,D7 hm]
      constructor
      ·intro z;exact absurd (Ef z).symm hm
      ·intro z
       have:=(G.wh x m).mpr z;rw[hn]at this;cases this
    ·rw[D7 hx]
     by_cases hm:m=g
     ·subst hm
      rw[D8 rfl];constructor
      ·intro z
       have:=(G.wh x m).mp z;rw[hh]at this;cases this
      ·intro z;exact absurd (Ef z).symm hx
     ·rw[D7 hm];exact G.wh x m
   ·have h:look (put st.worn g g) x=some m:=h
    show m∈aH (put st.worn g g)
    rw[cU]at h;rw[<-cE,cU]
    by_cases hx:x=g
    ·rw[D8 hx]at h;cases h;rw[D8 rfl];rfl
    ·rw[D7 hx]at h
     have:=G.ow x m h;rw[<-cE]at this;split
     ·rfl
     ·exact this
   ·have h:look (put st.worn g g) x=some m:=h
    rw[cU]at h
    by_cases hx:x=g
    ·rw[D8 hx]at h;cases h;exact sm g (by simp[names])
    ·rw[D7 hx]at h;exact G.sm x m h
  | go g =>
   have hg:look st.worn g=some g:=by
    cases e:look st.worn g with
    | none=>simp[aK,e]at hd
    | some m =>
     by_cases z:m=g
     ·rw[z]
     ·simp[aK,e,z]at hd
   have hh:look st.hold g=some g:=(G.wh g g).mp hg;refine⟨vg G.wn g,fun x m=>?_,fun x m h=>?_,fun x m h=>?_,G.cy⟩
   ·show look (bR st.worn g) x=some m↔look (bR st.hold g) m=some x
    rw[fO,fO]
    by_cases hx:x=g
    ·subst hx
     rw[D8 rfl]
     by_cases hm:m=x
     ·rw[D8 hm];simp
     ·rw[D7 hm]
      constructor
      ·intro z;cases z
      ·intro z
       have:=(G.wh x m).mpr z;rw[hg]at this;exact absurd (Ef this).symm hm
    ·rw[D7 hx]
     by_cases hm:m=g
     ·subst hm
      rw[D8 rfl];constructor
      ·intro z
       have:=(G.wh x m).mp z;rw[hh]at this;exact absurd (Ef this).symm hx
      ·intro z;cases z
     ·rw[D7 hm];exact G.wh x m
   ·have h:look (bR st.worn g) x=some m:=h
    show m∈aH (bR st.worn g)
    rw[fO]at h
    by_cases hx:x=g
    ·rw[D8 hx]at h;cases h
    ·rw[D7 hx]at h
     refine ki.mpr ⟨G.ow x m h,fun z=>?_⟩;rw[z]at h;have:=(G.wh x g).mp h;rw[hh]at this;exact hx (Ef this).symm
   ·have h:look (bR st.worn g) x=some m:=h
    rw[fO]at h
    by_cases hx:x=g
    ·rw[D8 hx]at h;cases h
    ·rw[D7 hx]at h;exact G.sm x m h
  | exch a b =>
   obtain⟨ma,ea⟩:∃ m,look st.worn a=some m:=by
    cases e:look st.worn a with
    | none=>simp[aK,e]at hd
    | some m=>exact⟨m,rfl⟩
   obtain⟨mb,eb⟩:∃ m,look st.worn b=some m:=by
    cases e:look st.worn b with
    | none=>simp[aK,ea,e]at hd
    | some m=>exact⟨m,rfl⟩
   have hab:a≠b:=fun z=>by simp[aK,ea,eb,z]at hd
   have wa:wr st.worn a=ma:=by unfold wr;rw[ea];rfl
   have wb:wr st.worn b=mb:=by unfold wr;rw[eb];rfl
   have ha:=(G.wh a ma).mp ea;have hb:=(G.wh b mb).mp eb
   have hmm:ma≠mb:=fun z=>by rw[z,hb]at ha;exact hab (Ef ha).symm
   have lw:∀ x,look (put (put st.worn a mb) b ma) x=if x=b then some ma else if x=a then some mb else look st.worn x:=fun x=>by rw[cU,cU]
   have lh:∀ x,look (put (put st.hold mb a) ma b) x=if x=ma then some b else if x=mb then some a else look st.hold x:=fun x=>by rw[cU,cU]
   show gK { worn:=put (put st.worn a (wr st.worn b)) b (wr st.worn a),hold:=put (put st.hold (wr st.worn b) a) (wr st.worn a) b,circ:=bu (bu st.circ a b) b a,deeds:=st.deeds++[.exch a b] }
   rw[wa,wb];refine⟨ko (ko G.wn a mb) b ma,fun x m=>?_,fun x m h=>?_,fun x m h=>?_,fun x y=>?_⟩
   ·show look (put (put st.worn a mb) b ma) x=some m↔look (put (put st.hold mb a) ma b) m=some x
    rw[lw,lh]
    by_cases hxb:x=b
    ·subst hxb
     rw[D8 rfl]
     by_cases hm:m=ma
     ·rw[D8 hm,hm];simp
     ·rw[D7 hm]
      constructor
      ·intro z;exact absurd (Ef z).symm hm
      ·intro z
       by_cases hm2:m=mb
       ·rw[D8 hm2]at z;exact absurd (Ef z) hab
       ·rw[D7 hm2]at z
        have:=(G.wh x m).mpr z;rw[eb]at this;exact absurd (Ef this).symm hm2
    ·rw[D7 hxb]
     by_cases hxa:x=a
     ·subst hxa
      rw[D8 rfl]
      by_cases hm:m=ma
      ·rw[D8 hm]
       constructor
       ·intro z;exact absurd ((Ef z).trans hm).symm hmm
       ·intro z;exact absurd (Ef z).symm hab
      ·rw[D7 hm]
       by_cases hm2:m=mb
       ·rw[D8 hm2,hm2];simp
       ·rw[D7 hm2]
        constructor
        ·intro z;exact absurd (Ef z).symm hm2
        ·intro z
         have:=(G.wh x m).mpr z;rw[ea]at this;exact absurd (Ef this).symm hm
     ·rw[D7 hxa]
      by_cases hm:m=ma
      ·rw[D8 hm]
       constructor
       ·intro z
        have:=(G.wh x m).mp z;rw[hm,ha]at this;exact absurd (Ef this).symm hxa
       ·intro z;exact absurd (Ef z).symm hxb
      ·rw[D7 hm]
       by_cases hm2:m=mb
       ·rw[D8 hm2]
        constructor
        ·intro z
         have:=(G.wh x m).mp z;rw[hm2,hb]at this;exact absurd (Ef this).symm hxb
        ·intro z;exact absurd (Ef z).symm hxa
       ·rw[D7 hm2];exact G.wh x m
   ·have h:look (put (put st.worn a mb) b ma) x=some m:=h
    show m∈aH (put (put st.worn a mb) b ma)
    have key:∀ y,y∈aH st.worn->y∈aH (put (put st.worn a mb) b ma):=fun y hy=>by
     rw[<-cE]at hy ⊢;rw[lw];split
     ·rfl
     ·split
      ·rfl
      ·exact hy
    rw[lw]at h;split at h
    ·cases h;exact key _ (G.ow a _ ea)
    ·split at h
     ·cases h;exact key _ (G.ow b _ eb)
     ·exact key _ (G.ow x m h)
   ·have h:look (put (put st.worn a mb) b ma) x=some m:=h
    rw[lw]at h;split at h
    ·cases h;exact G.sm a _ ea
    ·split at h
     ·cases h;exact G.sm b _ eb
     ·exact G.sm x m h
   ·show gP (bu (bu st.circ a b) b a) x y=gP (bu (bu st.circ a b) b a) y x
    rw[qw,qw,G.cy x y];cases decide (x=a)<;>cases decide (x=b)<;>cases decide (y=a)<;>cases decide (y=b)<;>simp
 ·rw[D7 hd];exact G
theorem vt {K:PySem.W.Frag}{H:Hp}{l:Addr}{ns:List Int}(h:be K H l (ns.map V.int)):RD K H 2 (.ref l) (B9 ns):=by
 refine RD.lst h ?_;clear h
 induction ns with
 | nil=>exact .nil
 | cons n r ih=>exact .cons (RD.flat rfl 1) ih
def CD (xs:List V):Dt:=.sq true (xs.map fun v=>.at v)
theorem sE {K:PySem.W.Frag}{H:Hp}{l:Addr}{xs:List V}(h:H l=some (.tup xs))(hf:∀ x∈xs,fL x=true):RD K H 2 (.ref l) (CD xs):=by
 refine RD.tup (bZ.of h) ?_;clear h
 induction xs with
 | nil=>exact .nil
 | cons n r ih=>exact .cons (RD.flat (hf n Ec) 1) (ih fun x hx=>hf x (Eb _ hx))
theorem xX (o:vN):∀ x∈wD o,fL x=true:=by
 cases o<;>(intro x hx;simp[wD]at hx;rcases hx with rfl | rfl<;>rfl)
def CS (P:Program)(w:World)(K:PySem.W.Frag)(mg:Str->Option Value)(base:Heap)(c:HX):Prop:=∃ (fI:Addr)(fd:FuncData),Mk K c.C fI/\aV P w K mg base cz 1 fI fd ["self"] (vz c.C)/\dy K fd ["self"] []
theorem Cg {X:Cx}{c:HX}{p pos:Pos}(M:CS X.prog X.w X.K X.mg X.base c)(U:HT X.K X.mg c)(hr:bN 2 X.A)(hg:Gl X "Hall"):PE X (.Call (.Name "Hall" p) [] [] pos) (Ak c.C (vz c.C) [] E0 lF):=by
 obtain⟨fI,fd,M,G,hb⟩:=M;exact x4 M G hr hg U.mC hb .nil e6
structure Ev (c:HX)(H0 H:Hp)(x:Addr)(B:HA)(st:bI):Prop where
 same:aE H0 H
 hall:aJ c.C H x B st
 good:gK st
 nfp:∀ b∈B.fp,H0 b=none
theorem Ev.on {c:HX}{H0 H H':Hp}{x:Addr}{B:HA}{st:bI}(e:Ev c H0 H x B st)(s:aE H H'):Ev c H0 H' x B st:=⟨e.same.trans s,e.hall.mono s,e.good,e.nfp⟩
theorem Ev.moved {c:HX}{H0 H H':Hp}{x:Addr}{B:HA}{st st':bI}(e:Ev c H0 H x B st)(m:pb c.C H x B st' H')(g:gK st') :
  ∃ B',Ev c H0 H' x B' st'/\(∀ y o,H y=some o->y∉B.fp->H' y=some o/\y∉B'.fp)/\Tr H H':=by
 obtain⟨B',S,k,f,t⟩:=m;refine⟨B',⟨fun b o q=>k b o (e.same b o q) (fun z=>by rw[e.nfp b z]at q;cases q),S,g,fun b hb=>?_⟩,fun y o q n=>⟨k y o q n,fun z=>?_⟩,t⟩
 ·rcases f b hb with z | z
  ·exact e.nfp b z
  ·exact e.same.free z
 ·rcases f y z with z | z
  ·exact n z
  ·rw[q]at z;cases z
theorem Ev.fits {st:bI}(h1:st.worn.length<=100)(h2:st.hold.length<=100)(h3:st.circ.length<=900)(h4:∀ x∈st.circ,x.2.length<=900)(h5:st.deeds.length<=900):vM st:=⟨by omega,by omega,by omega,fun x hx=>by have:=h4 x hx;omega,by omega⟩
def Of (L:List Int)(st:bI):Prop:=(∀ g∈aH st.worn,g∈L)/\(∀ g∈aH st.hold,g∈L)/\(aH st.hold).Nodup
theorem of_empty {L:List Int}:Of L ⟨[],[],[],[]⟩:=⟨fun g h=>by simp[aH]at h,fun g h=>by simp[aH]at h,FP⟩
theorem fP {l:List (Int×Int)}{g m x:Int}:x∈aH (put l g m)↔x∈aH l\/x=g:=by
 rw[rN];split
 ·rename_i h
  constructor
  ·exact .inl
  ·rintro (z | z)
   ·exact z
   ·rw[z];exact h
 ·simp
theorem vh {L:List Int}{st:bI}{d:au}(G:gK st)(o:Of L st)(hn:∀ g∈names d,g∈L):Of L (bt st d):=by
 unfold bt
 by_cases hd:aK st d=.done
 ·rw[D8 hd]
  obtain⟨o1,o2,o3⟩:=o
  cases d with
  | come g =>
   refine⟨fun x hx=>?_,fun x hx=>?_,ko o3 g g⟩
   ·rcases fP.mp (show x∈aH (put st.worn g g) from hx) with z | z
    ·exact o1 x z
    ·rw[z];exact hn g (by simp[names])
   ·rcases fP.mp (show x∈aH (put st.hold g g) from hx) with z | z
    ·exact o2 x z
    ·rw[z];exact hn g (by simp[names])
  | go g =>
   exact⟨fun x hx=>o1 x (ki.mp (show x∈aH (bR st.worn g) from hx)).1,fun x hx=>o2 x (ki.mp (show x∈aH (bR st.hold g) from hx)).1,vg o3 g⟩
  | exch a b =>
   obtain⟨ma,ea⟩:∃ m,look st.worn a=some m:=by
    cases e:look st.worn a with
    | none=>simp[aK,e]at hd
    | some m=>exact⟨m,rfl⟩
   obtain⟨mb,eb⟩:∃ m,look st.worn b=some m:=by
    cases e:look st.worn b with
    | none=>simp[aK,ea,e]at hd
    | some m=>exact⟨m,rfl⟩
   have wa:wr st.worn a=ma:=by unfold wr;rw[ea];rfl
   have wb:wr st.worn b=mb:=by unfold wr;rw[eb];rfl
   refine⟨fun x hx=>?_,fun x hx=>?_,ko (ko o3 _ _) _ _⟩
   ·rcases fP.mp (show x∈aH (put (put st.worn a (wr st.worn b)) b (wr st.worn a)) from hx) with z | z
    ·rcases fP.mp z with z | z
     ·exact o1 x z
     ·rw[z];exact hn a (by simp[names])
    ·rw[z];exact hn b (by simp[names])
   ·rcases fP.mp (show x∈aH (put (put st.hold (wr st.worn b) a) (wr st.worn a) b) from hx) with z | z
    ·rcases fP.mp z with z | z
     ·exact o2 x z
     ·rw[z,wb];exact o1 _ (G.ow b mb eb)
    ·rw[z,wa];exact o1 _ (G.ow a ma ea)
 ·rw[D7 hd];exact o
theorem qC {L:List Int}{st:bI}(G:gK st)(o:Of L st):st.worn.length<=L.length/\st.hold.length<=L.length:=by
 have e1:st.worn.length=(aH st.worn).length:=by simp[aH]
 have e2:st.hold.length=(aH st.hold).length:=by simp[aH]
 exact⟨by rw[e1];exact fS G.wn o.1,by rw[e2];exact fS o.2.2 o.2.1⟩
theorem uk (st:bI)(d:au):(bt st d).deeds.length<=st.deeds.length+1:=by
 unfold bt;split
 ·cases d<;>simp[after]
 ·omega
theorem wv (st:bI)(d:au):(bt st d).worn=if aK st d=.done then pY st.worn d else st.worn:=by
 unfold bt;split
 ·exact tE st d
 ·rfl
def Cf:vN->Str
 | .done=>"done"
 | .already=>"AlreadyIn"
 | .masked=>"Masked"
 | .same=>"Same"
 | .met=>"Met"
 | .noguest _=>"NoGuest"
theorem Cd (o:vN):(wD o)[0]? = some (V.str (Cf o)):=by cases o<;>rfl
theorem pJ (o:vN):decide (V.str (Cf o)=V.str "done")=decide (o=.done):=by
 cases o with
 | done=>exact (show decide (V.str "done" = V.str "done")=true by decide +kernel)
 | already=>exact (show decide (V.str "AlreadyIn" = V.str "done")=false by decide +kernel)
 | masked=>exact (show decide (V.str "Masked" = V.str "done")=false by decide +kernel)
 | same=>exact (show decide (V.str "Same" = V.str "done")=false by decide +kernel)
 | met=>exact (show decide (V.str "Met" = V.str "done")=false by decide +kernel)
 | noguest g =>
  rw[Ei (show ¬ vN.noguest g=.done by simp)];exact (show decide (V.str "NoGuest" = V.str "done")=false by decide +kernel)
theorem pE (m c:Int):(aO m c).length=m.toNat:=by unfold aO;simp
theorem Ev.track {c:HX}{H0 H:Hp}{x:Addr}{B:HA}{st:bI}(e:Ev c H0 H x B st){y:Addr}(h:H y=none):y∉B.fp:=fun z=>by
 obtain⟨o,q⟩:=e.hall.tracked z;rw[h]at q;cases q
inductive lT (vs:List V) (H:Hp) (Q:VK) (E_:XK):Prop
 | mk (dr m c:Int) (h_0:vs=[.int dr,.int m,.int c]) (h_1:(0<=dr/\dr<=100000)) (h_2:(2<=m/\m<=40)) (h_3:∀ (t:Addr)(d:au),H t=none->(∀ g∈names d,g∈aO 40 c)->Q (.ref t) (upd H t (bv d))):lT vs H Q E_
inductive lS (vs:List V) (H:Hp) (Q:VK) (E_:XK):Prop
 | mk (c:Int) (h_0:vs=[.int c]) (h_1:∀ m:Int,2<=m/\m<=40->Q (.int m) H):lS vs H Q E_
inductive jO (K:PySem.W.Frag) (vs:List V) (H:Hp) (Q:VK) (E_:XK):Prop
 | mk (a:Addr) (ns:List Int) (h_0:vs=[.ref a]) (h_1:be K H a (ns.map V.int)) (h_2:∀ (l:Addr)(H':Hp)(ds:List au),H l=none->aE H H'->bE H' l ds->(∀ d∈ds,∀ g∈names d,g∈aO 40 (bC ns 1))->ds.length<=88->Q (.ref l) H'):jO K vs H Q E_
theorem tR {k c:Int}(h:0<=k/\k<40):jv k c∈aO 40 c:=by
 unfold aO;rw[Ez];exact⟨k.toNat,FC.mpr (by omega),by rw[Int.toNat_of_nonneg h.1]⟩
theorem mw {H:Hp}{l t:Addr}{as:List Addr}{ds:List au}(hl:H l=some (.lst (as.map V.ref)))(hp:Paired (fun a x=>H a=some (bv x)) as ds)(ht:H t=none)(d:au):bE (upd (upd H t (bv d)) l (.lst (as.map V.ref++[.ref t]))) l (ds++[d]):=by
 have tl:t≠l:=fun z=>by rw[z,hl]at ht;cases ht
 refine⟨as++[t],by rw[ac,Es];rfl,a7 (Paired.mapP hp fun b y e=>?_) (.cons (by rw[ae tl,ac]) .nil)⟩;obtain⟨xs,ex⟩:=bO y;rw[ae (fun z=>by rw[z,hl,ex]at e;cases e),ae (aj e ht)];exact e
inductive lV (C:Addr) (vs:List V) (H:Hp) (Q:VK) (E_:XK):Prop
 | mk (p:Addr) (A:HA) (st:bI) (h_0:vs=[.ref p]) (h_1:aJ C H p A st) (h_2:∀ (l:Addr)(H':Hp),H l=none->aE H H'->bE H' l st.deeds->Q (.ref l) H'):lV C vs H Q E_
theorem zj {a b x y:Int}:dS x y=dS a b↔(x=a/\y=b)\/(x=b/\y=a):=by
 unfold dS
 by_cases h1:y<x<;>by_cases h2:b<a
 ·rw[D8 h1,D8 h2,Prod.mk.injEq];omega
 ·rw[D8 h1,D7 h2,Prod.mk.injEq];omega
 ·rw[D7 h1,D8 h2,Prod.mk.injEq];omega
 ·rw[D7 h1,D7 h2,Prod.mk.injEq];omega
theorem xM {ml:List (Int×Int)}{p q:Int×Int}:q∈mf ml p↔q∈ml\/q=p:=by
 unfold mf;split
 ·rename_i h
  constructor
  ·exact .inl
  ·rintro (z | z)
   ·exact z
   ·rw[z];exact h
 ·simp
def kK (st:bI)(ml:List (Int×Int)):Prop:=∀ a b,gP st.circ a b=mU ml a b
theorem rA:kK ⟨[],[],[],[]⟩ []:=fun a b=>by unfold gP mU;simp[f9]
def fR (st:bI)(ml:List (Int×Int))(d:au):List (Int×Int):=if aK st d=.done then pX ml d else ml
theorem tF {st:bI}{ml:List (Int×Int)}{d:au}(h:kK st ml):kK (bt st d) (fR st ml d):=by
 unfold bt fR
 by_cases hd:aK st d=.done
 ·rw[D8 hd,D8 hd]
  cases d with
  | come g=>exact h
  | go g=>exact h
  | exch a b =>
   intro x y
   show gP (bu (bu st.circ a b) b a) x y=mU (mf ml (dS a b)) x y
   rw[qw,h x y];unfold mU
   have e:decide (dS x y∈mf ml (dS a b))=(decide (dS x y∈ml)||decide ((x=a/\y=b)\/(x=b/\y=a))):=by
    rw[<-Bool.decide_or]
    congr 1
    rw[xM,zj]
   rw[e,Bool.decide_or,Bool.decide_and,Bool.decide_and,Bool.or_assoc]
 ·rw[D7 hd,D7 hd];exact h
theorem jy {st:bI}{ml:List (Int×Int)}(h:kK st ml)(d:au):bD st.worn (mU ml) d=aK st d:=by rw[zi];exact qo (fun a b=>(h a b).symm) d
theorem we (st:bI)(ml:List (Int×Int))(d:au):(fR st ml d).length<=ml.length+1:=by
 unfold fR;split
 ·cases d with
  | come g=>exact Fw _
  | go g=>exact Fw _
  | exch a b=>show (mf ml _).length<=_;unfold mf;split<;>simp
 ·exact Fw _
structure Sz (n:Nat)(st:bI):Prop where
 c:st.circ.length<=2*n
 k:∀ x∈st.circ,x.2.length<=2*n
 d:st.deeds.length<=n
theorem DI:Sz 0 ⟨[],[],[],[]⟩:=⟨D9 _,(fun x hx=>nomatch hx),D9 _⟩
theorem vD {n:Nat}{st:bI}(h:Sz n st)(d:au):Sz (n+1) (bt st d):=by
 have keep:Sz (n+1) st:=⟨by have:=h.c;omega,fun x hx=>by have:=h.k x hx;omega,by have:=h.d;omega⟩;refine⟨?_,?_,by have:=uk st d;have:=h.d;omega⟩
 ·unfold bt
  split
  ·cases d with
   | come g=>exact keep.c
   | go g=>exact keep.c
   | exch a b =>
    show (bu (bu st.circ a b) b a).length<=_
    have:=jA (bu st.circ a b) b a;have:=jA st.circ a b;have:=h.c;omega
  ·exact keep.c
 ·unfold bt
  split
  ·cases d with
   | come g=>exact keep.k
   | go g=>exact keep.k
   | exch a b =>
    intro x hx;have:=me (n:=2*n+1) (me (n:=2*n) (a:=a) (b:=b) h.k (by omega)) (by omega) x hx;omega
  ·exact keep.k
theorem u0 {L:List Int}{n:Nat}{st:bI}(G:gK st)(o:Of L st)(hL:L.length<=100)(z:Sz n st)(hn:n<=400):vM st:=by
 have:=qC G o;exact Ev.fits (by omega) (by omega) (by have:=z.c;omega) (fun x hx=>by have:=z.k x hx;omega) (by have:=z.d;omega)
def DR (ds:List au):Dt:=.sq false (ds.map fun d=>CD (bQ d))
theorem vT (d:au):∀ x∈bQ d,fL x=true:=by
 cases d<;>(intro x hx;simp[bQ,names]at hx)
 ·rcases hx with rfl | rfl<;>rfl
 ·rcases hx with rfl | rfl<;>rfl
 ·rcases hx with rfl | rfl | rfl<;>rfl
theorem sD {K:PySem.W.Frag}{H:Hp}{l:Addr}{ds:List au}(h:bE H l ds):RD K H 2 (.ref l) (DR ds):=by
 obtain⟨as,hl,hp⟩:=h;refine RD.lst (be.of hl) ?_;clear hl
 induction hp with
 | nil=>exact .nil
 | cons e _ ih =>
  rename_i a d _ _ _
  refine .cons ?_ ih;rw[iu]at e;refine RD.tup (bZ.of e) ?_;have hf:=vT d;generalize bQ d=xs at hf;clear e ih
  induction xs with
  | nil=>exact .nil
  | cons n r ih2=>exact .cons (RD.flat (hf n Ec) 0) (ih2 fun x hx=>hf x (Eb _ hx))
theorem vU {H:Hp}{l t:Addr}{as:List Addr}{ds:List au}{d:au}(hl:H l=some (.lst (as.map V.ref)))(hp:Paired (fun a x=>H a=some (bv x)) as ds)(ht:H t=some (bv d)):bE (upd H l (.lst (as.map V.ref++[.ref t]))) l (ds++[d]):=by
 have nt:∀ b y,H b=some (bv y)->b≠l:=fun b y e z=>by obtain⟨xs,ex⟩:=bO y;rw[z,hl,ex]at e;cases e
 refine⟨as++[t],by rw[ac,Es];rfl,a7 (Paired.mapP hp fun b y e=>?_) (.cons (by rw[ae (nt t d ht)];exact ht) .nil)⟩;rw[ae (nt b y e)];exact e
theorem zx (st:bI)(d:au):(bt st d).deeds=if aK st d=.done then st.deeds++[d] else st.deeds:=by
 unfold bt;split
 ·cases d<;>rfl
 ·rfl
theorem eY {m c g:Int}(h:g∈aO m c):bF g:=by
 unfold aO at h;obtain⟨k,_,rfl⟩:=Ez.mp h;exact kb _ _
end Wz
namespace L2
open PySem PySem.Spec PyProof.Rows
theorem x0 {X:Cx}{P:Program}{w:World}:dL (iN P w) X (fun _ _ _=>False):=by
 intro pins σ H s e s' I hc;obtain⟨ea,C,od,H',B,rfl,fl,un,hok,os,bare,hsB,trB,hE⟩:=hc;exact hE.elim
def BE (d:Addr)(o:Obj)(kvs:List (bK×V)):It :=
 ⟨fun i H=>H d=some (.frz o (.dK kvs))/\i<kvs.length,fun i H x H'=>H'=H/\∃ p,kvs[i]? = some p/\x=kV p.1,fun i H=>H d=some (.frz o (.dK kvs))/\kvs.length<=i⟩
theorem uY {P:Program}{w:World}{H:Hp}{h:Heap}{d:Addr}{o:Obj}{kvs:List (bK×V)}{ep:Nat}(hep:∀ es ep',o.data=.dict es ep'->ep'=ep)(x:aT P w H h d (.frz o (.dK kvs))):(d == sysModules)=false/\∃ vs,KV kvs vs/\h.DictAt (aX P w) d vs ep:=by
 obtain⟨hg,hz,lo,vs,rel,dd⟩:=x;obtain⟨ep',hat⟩:=dd.dictAt;refine⟨lo,vs,rel,?_⟩;obtain⟨od,es,hod,hcd,hdd,r⟩:=id hat;rw[hg]at hod;cases hod;rw[<-hep _ _ hdd];exact hat
theorem wW {P:Program}{w:World}{K:PySem.W.Frag}{tg:Expr}(d it:Addr)(o:Obj)(kvs:List (bK×V))(ep:Nat)(hep:∀ es ep',o.data=.dict es ep'->ep'=ep):pU P w K tg (BE d o kvs) [it] it (fun i h=>h.IsKeyIter it d i kvs.length ep) where
 mem:=by simp
 obj:=fun i h st b hb=>by
  have e:b=it:=by simpa using hb
  subst e;obtain⟨o,e,c,d⟩:=st;exact⟨o,e,fun v z=>by rw[d]at z;cases z⟩
 keep:=fun i h h' st k=>st.at fun o e=>k it (by simp) o e
 item:=by
  intro X hP hw hK hc i pins s σ H E I hf st hg;subst hP hw hK;obtain⟨hH,hi⟩:=hg;obtain⟨lo,vs,rel,hat⟩:=uY hep (I.hok d _ hH);obtain⟨f0,f1,f2,f3,f4,f5⟩:=hf it (by simp);have hl:kvs.length=vs.length:=Ej rel;obtain⟨p,hp⟩:∃ p,kvs[i]? = some p:=⟨kvs[i],by simp[hi]⟩;obtain⟨q,hq⟩:∃ q,vs[i]? = some q:=⟨vs[i]'(by omega),by simp[show i<vs.length by omega]⟩;obtain⟨k,v⟩:=q
  have ek:p.1=k:=by
   have e1:(kvs.map (·.1))[i]? = some p.1:=by rw[List.getElem?_map,hp];rfl
   rw[rel.keys,List.getElem?_map,hq]at e1;exact (Ef e1).symm
  rw[hl]at st;refine wpAny_pyNext_dict_item (knd:=aX X.prog X.w) st hat hq fun key h' hk st' sb=>?_;have I1:ar X pins σ H { s with heap:=h' }:=I.turned (t':=s.toks) (fun b o hb e=>(sb.2 b hb).trans e) f0 f1 f3 f4 f5;obtain⟨o2,e,c,d2⟩:=id st';refine⟨key,rfl,rM (s:={ s with heap:=h' }) e c d2 (by decide) ⟨kV k,H,I1,?_,⟨rfl,p,hp,by rw[ek]⟩,by rw[hl];exact st',fun b hb=>(hf b hb).1⟩⟩;rcases bn (k:=k) (v:=key) hk with ⟨j,t,ej,ev⟩ | ⟨j,t,ej,ev⟩
  ·subst ej;exact⟨t,ev⟩
  ·subst ej;exact⟨t,ev⟩
 done:=by
  intro X hP hw hK hc i pins s σ H E I hf st hg;subst hP hw hK;obtain⟨hH,hi⟩:=hg;obtain⟨lo,vs,rel,hat⟩:=uY hep (I.hok d _ hH);have hl:kvs.length=vs.length:=Ej rel;obtain⟨f0,f1,f2,f3,f4,f5⟩:=hf it (by simp);rw[hl]at st;exact wpAny_pyNext_dict_end (knd:=aX X.prog X.w) (I.ok.hd hc) st hat (by simp;omega) fun h' eb=>⟨rfl,I.turned (t':=s.toks) (fun b o hb e=>eb b o hb e) f0 f1 f3 f4 f5⟩
 self:=fun _ _ _ _ _ st h=>wpAny_pyIter_keyiter st h
def BZ (tl:TE):TI:=fun σ H R=>tl σ H fun x H1=>∃ d kvs,x=.ref d/\H1 d=some (.dK kvs)/\∀ o:Obj,R (BE d o kvs) (upd H1 d (.frz o (.dK kvs)))
theorem zJ {X:Cx}{tg l:Expr}{tl:TE}(hl:PE X l tl):PI X tg l (BZ tl):=by
 intro pins s σ H R I h;refine aU (hl pins s σ H _ I h) fun v s1 ⟨x,H1,I1,r1,q1⟩=>?_;obtain⟨d,kvs,e,hH,q⟩:=q1;subst e;cases r1;obtain⟨hz,lo,vs,rel,dd⟩:=(show aT X.prog X.w H1 s1.heap d (.dK kvs) from I1.hok d _ hH);obtain⟨ep,hat⟩:=dd.dictAt;obtain⟨o,es,ho,hc,hdat,r⟩:=id hat;have hl2:kvs.length=vs.length:=Ej rel;refine wpAny_pyIter_dict (knd:=aX X.prog X.w) lo hat ?_;have I2:ar X pins σ (upd H1 d (.frz o (.dK kvs))) { s1 with heap:=s1.heap,toks:=s1.toks }:=I1.write (by rw[hH];trivial) (.inl rfl) (fun b u _ e=>e) ⟨_,ho⟩ ⟨ho,hz,lo,vs,rel,dd⟩;refine⟨s1.heap.objs.size,[s1.heap.objs.size],_,_,_,rfl,I2.kept (t':=s1.toks) fun b o e=>Heap.get?_push_of_some _ e,wW d _ o kvs ep (fun es' ep' e=>?_),⟨_,Heap.get?_push_size _ rfl,rfl,by rw[hl2];rfl⟩,fun b hb=>?_,q o⟩
 ·rw[hdat]at e;cases e;rfl
 ·have e:b=s1.heap.objs.size:=by simpa using hb
  subst e;exact I2.fpOk (D9 _) (I2.hok.fresh (D9 _))
theorem xv {d:Addr}{o:Obj}{kvs:List (bK×V)}{g:TG}{tb:TS}{D:fg}{σ:St}{H:Hp}(Pv:Nat->St->Hp->Prop)(h0:Pv 0 σ H)(hl:∀ i σ H,i<=kvs.length->Pv i σ H->H d=some (.frz o (.dK kvs)))
  (hs:∀ i p σ H,kvs[i]? = some p->Pv i σ H->g (kV p.1) σ H fun σ2 H2=>tb { D with nx:=Pv (i+1),ct:=Pv (i+1),bk:=D.nx } σ2 H2) (hd:∀ σ H,Pv kvs.length σ H->D.nx σ H) :
  ∃ W:Nat->Nat->St->Hp->Prop,(∃ m,W 0 m σ H)/\∀ i m σ H,W i m σ H ->
   ((BE d o kvs).stop i H/\D.nx σ H)\/((BE d o kvs).go i H/\∃ N:St->Hp->Prop,(∀ σ' H',N σ' H'->∃ m',m'<m/\W (i+1) m' σ' H')/\∀ x H',(BE d o kvs).yld i H x H'->g x σ H' fun σ2 H2=>tb { D with nx:=N,ct:=N,bk:=D.nx } σ2 H2):=by
 refine⟨fun i m σ H=>m=kvs.length-i/\i<=kvs.length/\Pv i σ H,⟨kvs.length,by simp,Ey _,h0⟩,?_⟩;rintro i m σ H ⟨rfl,hi,p⟩;have q:=hl i σ H hi p
 by_cases hlt:i<kvs.length
 ·refine .inr ⟨⟨q,hlt⟩,Pv (i+1),fun σ' H' p'=>⟨kvs.length-(i+1),by omega,rfl,hlt,p'⟩,fun x H' y=>?_⟩
  obtain⟨e,p2,hp,ex⟩:=y;subst e ex;exact hs i p2 σ _ hp p
 ·have e:i=kvs.length:=by omega
  subst e;exact .inl ⟨⟨q,D9 _⟩,hd σ H p⟩
end L2
namespace Wz
open PySem L2
def wO (ds:List au):bI:=ds.foldl after ⟨[],[],[],[]⟩
theorem wP (ds:List au)(d:au):wO (ds++[d])=after (wO ds) d:=by unfold wO;rw[List.foldl_append];rfl
def lG (ds:List au):Prop:=∀ i d,ds[i]? = some d->aK (wO (ds.take i)) d=.done
theorem rG:lG []:=fun i d h=>by simp at h
theorem qg {ds:List au}{d:au}(h:lG ds)(hd:aK (wO ds) d=.done):lG (ds++[d]):=by
 intro i e he
 by_cases hi:i<ds.length
 ·rw[List.getElem?_append_left hi]at he
  rw[List.take_append_of_le_length (by omega)];exact h i e he
 ·have hl:=(List.getElem?_eq_some_iff.mp he).1
  rw[El,EG]at hl
  have e1:i=ds.length:=by omega
  subst e1;simp at he;subst he;simpa using hd
theorem eV (st:bI)(d:au):(after st d).deeds=st.deeds++[d]:=by cases d<;>rfl
structure uP (L:List Int)(n:Nat)(st:bI)(ml:List (Int×Int)):Prop where
 good:gK st
 of:Of L st
 sz:Sz n st
 mn:ml.length<=n
 al:kK st ml
 eq:st=wO st.deeds
 dn:lG st.deeds
 nm:∀ d∈st.deeds,∀ g∈names d,g∈L
theorem BW {L:List Int}:uP L 0 ⟨[],[],[],[]⟩ []:=⟨mI,of_empty,DI,D9 _,rA,rfl,rG,fun d h=>by cases h⟩
theorem Sz.mono {n m:Nat}{st:bI}(h:Sz n st)(k:n<=m):Sz m st:=⟨by have:=h.c;omega,fun x hx=>by have:=h.k x hx;omega,by have:=h.d;omega⟩
theorem uP.mono {L:List Int}{n m:Nat}{st:bI}{ml:List (Int×Int)}(h:uP L n st ml)(k:n<=m):uP L m st ml:=⟨h.good,h.of,h.sz.mono k,EC h.mn k,h.al,h.eq,h.dn,h.nm⟩
theorem uP.next {L:List Int}{n:Nat}{st:bI}{ml:List (Int×Int)}{d:au}(h:uP L n st ml)(hn:∀ g∈names d,g∈L)(hs:∀ g∈names d,bF g):uP L (n+1) (bt st d) (fR st ml d):=by
 refine⟨ka h.good hs,vh h.good h.of hn,vD h.sz d,by have:=we st ml d;have:=h.mn;omega,tF h.al,?_,?_,?_⟩
 ·unfold bt
  split
  ·rw[eV,wP,<-h.eq]
  ·exact h.eq
 ·unfold bt
  split
  ·rename_i hj
   rw[eV];exact qg h.dn (by rw[<-h.eq];exact hj)
  ·exact h.dn
 ·intro e he
  unfold bt at he;split at he
  ·rw[eV]at he
   rcases EA.mp he with z | z
   ·exact h.nm e z
   ·rw[Et.mp z];exact hn
  ·exact h.nm e he
structure sU (H0 H:Hp)(w m ls:Addr)(st:bI)(ml:List (Int×Int)):Prop where
 hw:H w=some (.dK (dk st.worn))
 hm:H m=some (.dT (lL ml))
 hs:bE H ls st.deeds
 w0:H0 w=none
 m0:H0 m=none
 s0:H0 ls=none
theorem sU.on {H0 H H':Hp}{w m ls:Addr}{st:bI}{ml:List (Int×Int)}(e:sU H0 H w m ls st ml)(s:aE H H'):sU H0 H' w m ls st ml:=⟨s _ _ e.hw,s _ _ e.hm,b8 e.hs s,e.w0,e.m0,e.s0⟩
theorem sU.ws {H0 H:Hp}{w m ls:Addr}{st:bI}{ml:List (Int×Int)}(e:sU H0 H w m ls st ml):w≠ls:=by obtain⟨as,h,_⟩:=e.hs;exact b5 e.hw h (by intro z;cases z)
theorem sU.ms {H0 H:Hp}{w m ls:Addr}{st:bI}{ml:List (Int×Int)}(e:sU H0 H w m ls st ml):m≠ls:=by obtain⟨as,h,_⟩:=e.hs;exact b5 e.hm h (by intro z;cases z)
theorem sU.done {H0 H H1:Hp}{w m ls:Addr}{st:bI}{ml:List (Int×Int)}{d:au}(e:sU H0 H w m ls st ml)(hj:aK st d=.done)
  (h1:H1 w=some (.dK (dk (pY st.worn d)))) (h2:H1 m=some (.dT (lL (pX ml d)))) (k:∀ b o,H b=some o->b≠w->b≠m->H1 b=some o)
  {as:List Addr} (hl:H ls=some (.lst (as.map V.ref))) (hp:Paired (fun a x=>H a=some (bv x)) as st.deeds) {t:Addr} (ht:H t=some (bv d)) :
  sU H0 (upd H1 ls (.lst (as.map V.ref++[.ref t]))) w m ls (bt st d) (fR st ml d)/\H1 ls=some (.lst (as.map V.ref)):=by
 have nt:∀ b y,H b=some (bv y)->b≠w/\b≠m:=fun b y q=>by
  obtain⟨xs,ex⟩:=bO y;rw[ex]at q;exact⟨b5 q e.hw (by intro z;cases z),b5 q e.hm (by intro z;cases z)⟩
 have hl1:=k _ _ hl (Eo e.ws) (Eo e.ms);have d1:bE (upd H1 ls (.lst (as.map V.ref++[.ref t]))) ls (st.deeds++[d]):=vU hl1 (Paired.mapP hp fun b y q=>k _ _ q (nt b y q).1 (nt b y q).2) (k _ _ ht (nt t d ht).1 (nt t d ht).2);refine⟨⟨?_,?_,?_,e.w0,e.m0,e.s0⟩,hl1⟩
 ·rw[ae e.ws,wv,D8 hj];exact h1
 ·rw[ae e.ms];unfold fR;rw[D8 hj];exact h2
 ·rw[zx,D8 hj];exact d1
theorem sU.not {H0 H:Hp}{w m ls:Addr}{st:bI}{ml:List (Int×Int)}{d:au}(e:sU H0 H w m ls st ml)(hj:aK st d≠.done):sU H0 H w m ls (bt st d) (fR st ml d):=by
 unfold bt fR;rw[D7 hj,D7 hj];exact e
inductive iF (K:PySem.W.Frag) (vs:List V) (H:Hp) (Q:VK) (E_:XK):Prop
 | mk (a:Addr) (ns:List Int) (h_0:vs=[.ref a]) (h_1:be K H a (ns.map V.int)) (h_2:∀ (t w m ls:Addr)(H':Hp)(st:bI)(ml:List (Int×Int)),aE H H'->H' t=some (.tup [.ref w,.ref m,.ref ls])->sU H H' w m ls st ml->uP (aO 40 (bC ns 1)) 88 st ml->Q (.ref t) H'):iF K vs H Q E_
theorem kZ:∀ {l:List (Int×Int)}{g m:Int},(aH l).Nodup->(g,m)∈l->look l g=some m
 | p::l,g,m,nd,h=>by
  unfold aH at nd;rw[Er,EI]at nd;unfold look;rcases Eh.mp h with z | z
  ·rw[<-z,D8 rfl]
  ·rw[D7 (fun e=>nd.1 (by rw[e];exact FF (f:=(·.1)) z))]
   exact kZ nd.2 z
end Wz
namespace L2
open PySem PySem.Spec PyProof.Rows
theorem ar.turned2 {X:Cx}{pins:List (Addr×Obj)}{σ:St}{H:Hp}{s:Shared}{h':Heap}{t':Nat}{e it:Addr}(I:ar X pins σ H s)(k:∀ b o,b≠e->b≠it->s.heap.get? b=some o->h'.get? b=some o)(fe:fh X pins H e)(fi:fh X pins H it):ar X pins σ H { s with heap:=h',toks:=t' }:=by
 obtain⟨e0,e1,e2,e3,e4,e5⟩:=fe;obtain⟨i0,i1,i2,i3,i4,i5⟩:=fi;have nit:∀ b u,H b=some u->b≠e/\b≠it:=fun b u q=>⟨(fun z=>by rw[z,e0]at q;cases q),(fun z=>by rw[z,i0]at q;cases q)⟩
 have nn:∀ b,b∉[e,it]->b≠e/\b≠it:=fun b hb=>by simpa using hb
 refine I.step (g':=s.gens) (d':=s.drawn) (ch:=[e,it]) (fun b hb=>?_) (fun b o _ _ hc q _=>k b o (nn b hc).1 (nn b hc).2 q) (fun b o _ _ hc q _=>⟨o.slots,k b o (nn b hc).1 (nn b hc).2 q⟩) (fun _ _ _ _ n=>n)
  (fun b o hc q=>⟨o,k b o (nn b hc).1 (nn b hc).2 q⟩) (fun _ _ q=>q) (fun _ _ _ q=>q) (fun b ps q=>⟨#[],by rw[q];simp⟩) (fun m hm=>?_) (fun b u q=>?_) I.bare
 ·have hb:b=e\/b=it:=by simpa using hb
  rcases hb with rfl | rfl
  ·exact⟨e3,e1,e4,e5⟩
  ·exact⟨i3,i1,i4,i5⟩
 ·obtain⟨o,es,ep,ho,r⟩:=hm
  exact⟨o,es,ep,k _ o (Eo e1) (Eo i1) ho,r⟩
 ·refine (I.hok b u q).stay (fun c v hc z=>k c v ?_ ?_ z) (fun _ z=>z) fun _ _ z=>z
  ·rcases hc with z | z
   ·rw[z];exact (nit b u q).1
   ·exact (nit c _ z).1
  ·rcases hc with z | z
   ·rw[z];exact (nit b u q).2
   ·exact (nit c _ z).2
def BF (K:PySem.W.Frag)(l:Addr):It :=
 ⟨fun i H=>∃ xs x,be K H l xs/\xs[i]? = some x,fun i H y H'=>∃ T x,H T=none/\y=.ref T/\H'=upd H T (.tup [.int i,x])/\∀ xs,be K H l xs->xs[i]? = some x,fun i H=>∃ xs,be K H l xs/\xs.length<=i⟩
theorem wX {P:Program}{w:World}{K:PySem.W.Frag}{elts:List Expr} {kk}{pos:Pos}(e it l:Addr)(hne:e≠it):pU P w K (.Tuple elts kk pos) (BF K l) [e,it] e (fun i h=>(∃ old,IsEnum h e it (i:Nat) old)/\h.IsListIter it l i) where
 mem:=by simp
 obj:=fun i h st b hb=>by
  obtain⟨⟨old,he⟩,⟨o,eo,c,d⟩⟩:=st
  have hb:b=e\/b=it:=by simpa using hb
  rcases hb with rfl | rfl
  ·exact⟨_,he,fun v z=>by cases z⟩
  ·exact⟨o,eo,fun v z=>by rw[d]at z;cases z⟩
 keep:=fun i h h' st k=>⟨st.1.elim fun old he=>⟨old,k e (by simp) _ he⟩,st.2.at fun o x=>k it (by simp) o x⟩
 item:=by
  intro X hP hw hK hc i pins s σ H E I hf st hg;subst hP hw hK;obtain⟨xs,x,hq,hx⟩:=hg;obtain⟨its,rv,p,hz⟩:=I.list hq;obtain⟨u,hu,ru⟩:=rv.get hx;obtain⟨⟨old,he⟩,hit⟩:=st;have fe:=hf e (by simp);have fi:=hf it (by simp);have lte:e<s.heap.objs.size:=Eg he
  have lti:it<s.heap.objs.size:=by obtain⟨_,q,_⟩:=id hit;exact Eg q
  refine wpAny_pyNext_enum_item he hit p.isList (x:=u) (by simpa using hu) hne fun h' ho hit' hT hsz hk=>⟨.ref s.heap.objs.size,rfl,?_⟩;refine wpAny_letOwnedTupleGo_enum (s:={ s with heap:=h',toks:=s.toks+1 }) ho fun h2 he2 sb2=>?_;have hfr:H s.heap.objs.size=none:=I.hok.fresh (D9 _)
  have IL:ar X pins σ (upd H s.heap.objs.size (.tup [.int i,x])) { s with heap:=s.heap.push { cls:=.type "tuple",data:=.seq #[.int i s.toks,u] },toks:=s.toks } :=
   I.laid (fun b o q=>Heap.get?_push_of_some _ q) (D9 _) ⟨by show 2<=sizeLine;decide,[.int i s.toks,u],.cons ⟨_,rfl⟩ (.cons ru .nil),⟨_,Heap.get?_push_size _ rfl,rfl,_,rfl⟩⟩
  have fp':∀ b,b<s.heap.objs.size->fh X pins H b->fh X pins (upd H s.heap.objs.size (.tup [.int i,x])) b:=fun b hb ⟨f0,f1,f2,f3,f4,f5⟩=>⟨by rw[ae (Em hb)];exact f0,f1,f2,f3,f4,f5⟩
  have I2:ar X pins σ (upd H s.heap.objs.size (.tup [.int i,x])) { s with heap:=h2,toks:=s.toks+1 }:=IL.turned2 (t':=s.toks+1) (h':=h2) (fun b o n1 n2 q=>by
   refine (sb2.2 b n1).trans ?_
   show h'.get? b=some o
   by_cases hb:b=s.heap.objs.size
   ·subst hb
    have q:(s.heap.push { cls:=.type "tuple",data:=.seq #[.int i s.toks,u] }).get? s.heap.objs.size=some o:=q;rw[Heap.get?_push_size _ rfl]at q;cases q;exact hT
   ·have q:(s.heap.push { cls:=.type "tuple",data:=.seq #[.int i s.toks,u] }).get? b=some o:=q
    refine hk b o n1 n2 ?_;rw[Heap.get?_push_ne _ _ _ hb]at q
    exact q) (fp' e lte fe) (fp' it lti fi)
  refine⟨.ref s.heap.objs.size,_,I2,rfl,⟨s.heap.objs.size,x,hfr,rfl,rfl,fun ys hy=>by rw[I.list_inj hy hq];exact hx⟩,⟨⟨_,by simpa using he2⟩,hit'.at fun o q=>(sb2.2 it (Eo hne)).trans q⟩,fun b hb=>?_⟩
  have hb':b=e\/b=it:=by simpa using hb
  rcases hb' with rfl | rfl
  ·exact (fp' _ lte fe).1
  ·exact (fp' _ lti fi).1
 done:=by
  intro X hP hw hK hc i pins s σ H E I hf st hg;subst hP hw hK;obtain⟨xs,hq,hx⟩:=hg;obtain⟨its,rv,p,hz⟩:=I.list hq;obtain⟨⟨old,he⟩,hit⟩:=st;obtain⟨f0,f1,f2,f3,f4,f5⟩:=hf it (by simp);have hl:=rv.length;exact wpAny_pyNext_enum_end (I.ok.hd hc) he hit p.isList (by simp;omega) fun h' eb=>⟨rfl,I.turned (t':=s.toks) (fun b o hb q=>eb b o hb q) f0 f1 f3 f4 f5⟩
 self:=fun _ _ _ _ _ st h=>st.1.elim fun old he=>wpAny_pyIter_enum he h
def B0 (K:PySem.W.Frag)(t:TA):TI:=fun σ H R=>t σ H fun vs H1=>∃ l,vs=[.ref l]/\(∃ xs,be K H1 l xs)/\R (BF K l) H1
theorem zK {X:Cx}{elts:List Expr} {kk}{tpos:Pos}{a:Expr}{ta:TA}{p pos:Pos}(hg:Gl X "enumerate")(hm:X.mg "enumerate" = none)(ha:PA X [a] ta)
  (he:starEach [a] X.env=(false,eval a X.env)::starEach [] X.env:=by rfl) (hpl:(backTo pos (starEach [] X.env)).any (·.1)=false:=by rfl):PI X (.Tuple elts kk tpos) (.Call (.Name "enumerate" p) [a] [] pos) (B0 X.K ta):=by
 intro pins s σ H R I h;refine Fl (mK I hg hm boot_enumerate ?_ (by decide) (by decide));refine PyProof.Rows.callWith_type1 (aU (ha pos pins s σ H _ I h) fun us s1 ⟨vs,H1,I1,r1,l,e1,⟨xs,hq⟩,q⟩=>?_) he hpl;subst e1;obtain⟨u,rfl,rx⟩:=eO r1;cases rx;obtain⟨its,rv,pl,hz⟩:=I1.list hq;refine call_enumerate_list pl.isList fun h' hE hI hsz hk=>?_;have I2:ar X pins σ H1 { s1 with heap:=h',toks:=s1.toks }:=I1.kept hk;refine wpAny_pyIter_enum (s:={ s1 with heap:=h' }) hE ?_;refine⟨s1.heap.objs.size+1,[s1.heap.objs.size+1,s1.heap.objs.size],_,_,H1,rfl,I2,wX _ _ l (Nat.succ_ne_self _),⟨⟨_,hE⟩,hI⟩,fun b hb=>?_,q⟩
 have hb:b=s1.heap.objs.size+1\/b=s1.heap.objs.size:=by simpa using hb
 rcases hb with rfl | rfl
 ·exact I1.fpOk (Fw _) (I1.hok.fresh (Fw _))
 ·exact I1.fpOk (D9 _) (I1.hok.fresh (D9 _))
theorem xw {K:PySem.W.Frag}{a:Addr}{xs:List V}{g:TG}{tb:TS}{D:fg}{σ:St}{H:Hp}(Pv:Nat->St->Hp->Prop)(h0:Pv 0 σ H)(hl:∀ i σ H,i<=xs.length->Pv i σ H->be K H a xs)
  (hs:∀ i x σ H T,xs[i]? = some x->Pv i σ H->H T=none->g (.ref T) σ (upd H T (.tup [.int i,x])) fun σ2 H2=>tb { D with nx:=Pv (i+1),ct:=Pv (i+1),bk:=D.nx } σ2 H2) (hd:∀ σ H,Pv xs.length σ H->D.nx σ H) :
  ∃ W:Nat->Nat->St->Hp->Prop,(∃ m,W 0 m σ H)/\∀ i m σ H,W i m σ H ->
   ((BF K a).stop i H/\D.nx σ H)\/((BF K a).go i H/\∃ N:St->Hp->Prop,(∀ σ' H',N σ' H'->∃ m',m'<m/\W (i+1) m' σ' H')/\∀ x H',(BF K a).yld i H x H'->g x σ H' fun σ2 H2=>tb { D with nx:=N,ct:=N,bk:=D.nx } σ2 H2):=by
 refine⟨fun i m σ H=>m=xs.length-i/\i<=xs.length/\Pv i σ H,⟨xs.length,by simp,Ey _,h0⟩,?_⟩;rintro i m σ H ⟨rfl,hi,p⟩;have q:=hl i σ H hi p
 by_cases hlt:i<xs.length
 ·refine .inr ⟨⟨xs,xs[i],q,by simp[hlt]⟩,Pv (i+1),fun σ' H' p'=>⟨xs.length-(i+1),by omega,rfl,hlt,p'⟩,fun y H' z=>?_⟩
  obtain⟨T,x,hT,e1,e2,hx⟩:=z;subst e1 e2;exact hs i x σ _ T (hx xs q) p hT
 ·have e:i=xs.length:=by omega
  subst e;exact .inl ⟨⟨xs,q,D9 _⟩,hd σ H p⟩
end L2
namespace Wz
open PySem L2
theorem uG (l:List Int):(bB l).Pairwise (·<=·):=by
 have h1:(bB l).Pairwise (fun a b=>decide (a<=b)=true):=List.pairwise_mergeSort (by intro a b c;simp;omega) (by intro a b;simp;omega) l;exact h1.imp (by simp)
theorem uH (l:List Int):(bB l).Perm l:=List.mergeSort_perm l _
end Wz
namespace L2
open PySem PySem.Spec PyProof.Rows
theorem oB (elt t0 i0:Expr)(c0:List Expr)(t1 i1:Expr)(c1:List Expr)(scope:Scope)(pos:Pos)(it acc:Value)(env:Env) :
  compTurn (.ListComp elt [⟨t0,i0,c0,0⟩,⟨t1,i1,c1,0⟩] scope pos) 0 it acc env=(do
   standAt i0.pos
   match <-pyNext it with
   | none=>pure (.done .next)
   | some v =>
    letOwnedTupleGo t0 it v
    assign t0 env v
    let mut ok:=true
    for c in c0 do
     if ok then ok <-isTrue c env (eval c env)
    if ok then
     let x <-eval i1 env
     standAt i1.pos
     let x <-foldedSetIterable i1 env x
     let it1 <-holding [x] (pyIter x)
     let _ <-runOwn (.compStart (.ListComp elt [⟨t0,i0,c0,0⟩,⟨t1,i1,c1,0⟩] scope pos) 1 it1 acc env) env
     again (.compLoop (.ListComp elt [⟨t0,i0,c0,0⟩,⟨t1,i1,c1,0⟩] scope pos) 0 it acc env)
    else
     again (.compLoop (.ListComp elt [⟨t0,i0,c0,0⟩,⟨t1,i1,c1,0⟩] scope pos) 0 it acc env)):=by rfl
theorem oC (elt t0 i0:Expr)(c0:List Expr)(t1 i1:Expr)(c1:List Expr)(scope:Scope)(pos:Pos)(it acc:Value)(env:Env) :
  compTurn (.ListComp elt [⟨t0,i0,c0,0⟩,⟨t1,i1,c1,0⟩] scope pos) 1 it acc env=(do
   standAt i1.pos
   match <-pyNext it with
   | none=>pure (.done .next)
   | some v =>
    letOwnedTupleGo t1 it v
    assign t1 env v
    let mut ok:=true
    for c in c1 do
     if ok then ok <-isTrue c env (eval c env)
    if ok then
     (do let _ <-call (.builtin "list.append") [acc,<-eval elt env])
    again (.compLoop (.ListComp elt [⟨t0,i0,c0,0⟩,⟨t1,i1,c1,0⟩] scope pos) 1 it acc env)):=by rfl
section
variable {prog:Program}{w:World}{A:Around}{R:Result->Shared->Prop}{s:Shared}{elt t0 i0 t1 i1:Expr}{c0 c1:List Expr}{scope:Scope}{pos:Pos}{it acc:Value}{env:Env}
theorem iL (I:Nat->Shared->Prop)
  (turn:∀ n s,I n s->wpAny (model prog w) A (pyNext it) (fun r s₁=>match r with
   | none=>R (.ok .next) s₁
   | some v=>wpAny (model prog w) A (letOwnedTupleGo t1 it v) (fun _ s₁'=>wpAny (model prog w) A (assign t1 env v) (fun _ s₂ =>
     wpAny (model prog w) A (forIn c1 true fun c r=>if r=true then do let ok <-isTrue c env (eval c env);pure (ForInStep.yield ok) else pure (ForInStep.yield r)) (fun ok s₃ =>
      if ok=true then wpAny (model prog w) A (eval elt env) (fun x s₄ =>
       wpAny (model prog w) A (call (.builtin "list.append") [acc,x]) (fun _ s₅=>∃ m,m<n/\I m s₅) (fun _ _=>False) s₄) (fun _ _=>False) s₃
      else ∃ m,m<n/\I m s₃) (fun _ _=>False) s₂) (fun _ _=>False) s₁') (fun _ _=>False) s₁) (fun _ _=>False) s)
  (n:Nat) (h:I n s) :
  codeAny (model prog w) A (.compLoop (.ListComp elt [⟨t0,i0,c0,0⟩,⟨t1,i1,c1,0⟩] scope pos) 1 it acc env) R s:=by
 refine codeAny_loop rfl I (fun n s hI=>?_) n h
 show wpAny _ A ((compTurn (.ListComp elt [⟨t0,i0,c0,0⟩,⟨t1,i1,c1,0⟩] scope pos) 1 it acc env).onRaise (fun x=>do noteFrame x env;theTreesLotGoes x)) _ _ s
 refine wpAny_noted ?_;rw[oC];refine D5 (EU (D5 (Ew (turn n s hI) (fun r s₁ h₁=>?_) fun _ _ h'=>h'.elim)))
 cases r with
 | none=>exact Ea h₁
 | some v =>
  refine D5 (Ew h₁ (fun _ s₁' h₁'=>?_) fun _ _ h'=>h'.elim);refine D5 (Ew h₁' (fun _ s₂ h₂=>D5 (Ew h₂ (fun ok s₃ h₃=>?_) fun _ _ h'=>h'.elim)) fun _ _ h'=>h'.elim)
  cases ok with
  | false=>exact Ea ⟨rfl,h₃⟩
  | true =>
   exact D5 (D5 (Ew h₃ (fun x s₄ h₄=>D5 (Ew h₄ (fun _ s₅ h₅=>Ea (Ea ⟨rfl,h₅⟩)) fun _ _ h'=>h'.elim)) fun _ _ h'=>h'.elim))
theorem gY (hs:∀ x,foldedSetIterable i1 env x=pure x)(I:Nat->Shared->Prop)
  (turn:∀ n s,I n s->wpAny (model prog w) A (pyNext it) (fun r s₁=>match r with
   | none=>R (.ok .next) s₁
   | some v=>wpAny (model prog w) A (letOwnedTupleGo t0 it v) (fun _ s₁'=>wpAny (model prog w) A (assign t0 env v) (fun _ s₂ =>
     wpAny (model prog w) A (forIn c0 true fun c r=>if r=true then do let ok <-isTrue c env (eval c env);pure (ForInStep.yield ok) else pure (ForInStep.yield r)) (fun ok s₃ =>
      if ok=true then wpAny (model prog w) A (eval i1 env) (fun x s₄ =>
       wpAny (model prog w) A (pyIter x) (fun it1 s₅=>codeAny (model prog w) A (.compStart (.ListComp elt [⟨t0,i0,c0,0⟩,⟨t1,i1,c1,0⟩] scope pos) 1 it1 acc env) (fun r s₆=>r=.ok .next/\∃ m,m<n/\I m s₆) s₅) (fun _ _=>False) s₄) (fun _ _=>False) s₃
      else ∃ m,m<n/\I m s₃) (fun _ _=>False) s₂) (fun _ _=>False) s₁') (fun _ _=>False) s₁) (fun _ _=>False) s)
  (n:Nat) (h:I n s) :
  codeAny (model prog w) A (.compLoop (.ListComp elt [⟨t0,i0,c0,0⟩,⟨t1,i1,c1,0⟩] scope pos) 0 it acc env) R s:=by
 refine codeAny_loop rfl I (fun n s hI=>?_) n h
 show wpAny _ A ((compTurn (.ListComp elt [⟨t0,i0,c0,0⟩,⟨t1,i1,c1,0⟩] scope pos) 0 it acc env).onRaise (fun x=>do noteFrame x env;theTreesLotGoes x)) _ _ s
 refine wpAny_noted ?_;rw[oB];refine D5 (EU (D5 (Ew (turn n s hI) (fun r s₁ h₁=>?_) fun _ _ h'=>h'.elim)))
 cases r with
 | none=>exact Ea h₁
 | some v =>
  refine D5 (Ew h₁ (fun _ s₁' h₁'=>?_) fun _ _ h'=>h'.elim);refine D5 (Ew h₁' (fun _ s₂ h₂=>D5 (Ew h₂ (fun ok s₃ h₃=>?_) fun _ _ h'=>h'.elim)) fun _ _ h'=>h'.elim)
  cases ok with
  | false=>exact Ea ⟨rfl,h₃⟩
  | true =>
   refine D5 (Ew h₃ (fun x s₄ h₄=>?_) fun _ _ h'=>h'.elim);refine D5 (EU (D5 (wpAny_of_eq (hs x) ?_)));refine D5 (EK (Ew h₄ (fun it1 s₅ h₅=>?_) fun _ _ h'=>h'.elim));refine D5 (wpAny_runOwn (Fo h₅ fun r s₆ h₆=>?_));obtain⟨rfl,h₆⟩:=h₆;exact Ea ⟨rfl,h₆⟩
theorem gZ
  (h0:codeAny (model prog w) A (.compLoop (.ListComp elt [⟨t0,i0,c0,0⟩,⟨t1,i1,c1,0⟩] scope pos) 1 it acc env) R s)
  (h:wpAny (model prog w) A (pyIter it) (fun it' s'=>codeAny (model prog w) A (.compLoop (.ListComp elt [⟨t0,i0,c0,0⟩,⟨t1,i1,c1,0⟩] scope pos) 1 it' acc env) R s')
   (notedBy (model prog w) A env fun x s'=>R (.error x) s') s) :
  codeAny (model prog w) A (.compStart (.ListComp elt [⟨t0,i0,c0,0⟩,⟨t1,i1,c1,0⟩] scope pos) 1 it acc env) R s:=by
 refine codeAny_of_tree ?_
 show wpAny _ _ ((compStart (.ListComp elt [⟨t0,i0,c0,0⟩,⟨t1,i1,c1,0⟩] scope pos) 1 it acc env).onRaise (fun x=>do noteFrame x env;standAt theWindowsPlace)) _ _ s
 refine wpAny_notedAt ?_;unfold compStart
 show wpAny _ _ (ask >>= _) _ _ s
 refine D5 (wpAny_askSetting (wpAny_ite ?_));split
 ·first
   | exact D5 (Ea (Ea (And.intro rfl h0)))
   | exact Ea (And.intro rfl h0)
 ·first
   | exact D5 (wpAny_rule (D5 (EU (D5 (Ew h (fun it' s' h'=>Ea (And.intro rfl h')) fun _ _ x=>x)))))
   | (refine D5 (wpAny_rule ?_);show wpAny _ _ (standAt i1.pos >>= _) _ _ s;exact D5 (EU (D5 (Ew h (fun it' s' h'=>Ea (And.intro rfl h')) fun _ _ x=>x))))
end
theorem tI {Y:Cx}{P:List (Addr×Obj)}{σ:St}{H:Hp}{s:Shared}{elt t0 i0 t1 i1:Expr}{c0 c1:List Expr}{sc:Scope}{pos:Pos}{it a:Addr}{fp:List Addr}{tn:Nat->Heap->Prop}{J:It}{g:TG}{tt:TT}{te:TE}{nx:St->Hp->Prop}{rt:VK}{bk ct:St->Hp->Prop}
  (hc:Y.calm=true) (hxe:Y.xe=fun _ _=>False) (I:ar Y P σ H s) (T:pU Y.prog Y.w Y.K t1 J fp it tn) (st:tn 0 s.heap) (f:∀ b∈fp,fh Y P H b) (hL:kT J g (yP tt te a) ⟨nx,rt,bk,ct⟩ σ H) (hg:PG Y t1 g) (ht:AC Y c1 tt) (he:PE Y elt te) :
  codeAny (model Y.prog Y.w) Y.A (.compLoop (.ListComp elt [⟨t0,i0,c0,0⟩,⟨t1,i1,c1,0⟩] sc pos) 1 (.ref it) (.ref a) Y.env) (fun r s'=>r=.ok .next/\∃ σ' H',ar Y P σ' H' s'/\nx σ' H') s:=by
 obtain⟨W,⟨m0,w0⟩,turn⟩:=hL;have stat:∀ {H':Hp},(∀ b∈fp,H' b=none)->∀ b∈fp,fh Y P H' b:=fun {H'} hn b hb=>⟨hn b hb,(f b hb).2⟩;refine iL (fun n s'=>∃ i σ' H',ar Y P σ' H' s'/\tn i s'.heap/\(∀ b∈fp,H' b=none)/\W i n σ' H') ?_ m0 ⟨0,_,_,I,st,fun b hb=>(f b hb).1,w0⟩;rintro n s6 ⟨i,σ6,H6,I6,st6,fr6,w6⟩;rcases turn i n σ6 H6 w6 with ⟨stop,qn⟩ | ⟨go,Nx,hN,step⟩
 ·refine aU (T.done Y rfl rfl rfl hc i P s6 σ6 H6 _ I6 (stat fr6) st6 stop) fun r s7 ⟨hr,I7⟩=>?_
  subst hr;exact⟨rfl,σ6,H6,I7,qn⟩
 ·refine aU (T.item Y rfl rfl rfl hc i P s6 σ6 H6 _ I6 (stat fr6) st6 go) fun r s7 ⟨u,hr,h7⟩=>?_
  subst hr;refine aU h7 fun _ s8 ⟨x,H8,I8,r8,y8,st8,fr8⟩=>?_;have I8':=I8.pinned (stat fr8) (T.obj _ _ st8);have hgx:=hg _ s8 σ6 H8 x u _ I8' r8 (step x H8 y8);rw[hxe]at hgx;refine aU hgx fun _ s9 ⟨σ9,H9,I9,q9⟩=>?_
  have again:∀ {s':Shared}{σ7:St}{H7:Hp},ar Y (P++ig fp s8.heap) σ7 H7 s'->Nx σ7 H7->∃ m,m<n/\∃ i σ' H',ar Y P σ' H' s'/\tn i s'.heap/\(∀ b∈fp,H' b=none)/\W i m σ' H':=fun {s' σ7 H7} I7 n7=>by
   obtain⟨m',hm,w7⟩:=hN σ7 H7 n7;refine⟨m',hm,i+1,σ7,H7,I7.unpinned,T.keep _ _ _ st8 fun b hb o e=>(I7.pin (b,o) (En _ (En _ (bJ hb e)))).1,fun b hb=>?_,w7⟩;obtain⟨o,e,d⟩:=T.obj _ _ st8 b hb;exact (I7.pin (b,o) (En _ (En _ (bJ hb e)))).2.1
  have htx:=ht _ s9 σ9 H9 _ I9 q9;rw[hxe]at htx;refine aU htx fun ok s10 ⟨H10,I10,q10⟩=>?_
  cases ok with
  | false =>
   rw[D7 Ed]at q10 ⊢;exact again I10 q10
  | true =>
   rw[D8 rfl]at q10 ⊢;have hex:=he _ s10 σ9 H10 _ I10 q10;rw[hxe]at hex;refine aU hex fun y s11 ⟨yv,H11,I11,ry,ys,hys,hlen,q11⟩=>?_;exact aU (gX (X:=Y) I11 hys hlen ry) fun _ s12 I12=>again I12 q11
def Bt (tt0:TT)(wi1:TI)(g1:TG)(tt1:TT)(te:TE)(a:Addr):TS:=fun D σ H=>tt0 σ H fun b H1=>if b=true then wi1 σ H1 fun J1 H2=>kT J1 g1 (yP tt1 te a) { nx:=D.nx,rt:=fun _ _=>False } σ H2 else D.nx σ H1
def Bl (wi:TI)(g0:TG)(tt0:TT)(wi1:TI)(g1:TG)(tt1:TT)(te:TE)(src:List (Option Nat)):TE:=fun σ H Q=>wi σ H fun J H1=>∀ a,H1 a=none ->
 kT J g0 (Bt tt0 wi1 g1 tt1 te a) { nx:=fun _ H'=>Q (.ref a) H',rt:=fun _ _=>False } (g9 src σ) (upd H1 a (.lst []))
theorem x2 {X:Cx}{elt tg iter t1 i1:Expr}{ifs c1:List Expr}{sc so:Scope}{pos:Pos}{N':List Str}{src:List (Option Nat)}{wi wi1:TI}{g g1:TG}{tt tt1:TT}{te:TE}{N:List Str}(hso:X.env.scope=so)(hXN:X.N=N)(S:rk so sc N N' src)(hc:X.calm=true)(hi:PI X tg iter wi)
  (hb:∀ (cl:List (Str×Addr))(C:Addr)(s:Shared)(H:Hp)(ex:List Addr),PG (cw X sc cl C N' s H ex) tg g/\AC (cw X sc cl C N' s H ex) ifs tt/\PI (cw X sc cl C N' s H ex) t1 i1 wi1/\PG (cw X sc cl C N' s H ex) t1 g1/\AC (cw X sc cl C N' s H ex) c1 tt1/\PE (cw X sc cl C N' s H ex) elt te)
  (hs:∀ x,foldedSetIterable iter X.env x=pure x:=by intro _;rfl) (hs1:∀ env x,foldedSetIterable i1 env x=pure x:=by intro _ _;rfl):PE X (.ListComp elt [⟨tg,iter,ifs,0⟩,⟨t1,i1,c1,0⟩] sc pos) (Bl wi g tt wi1 g1 tt1 te src):=by
 subst hXN;intro pins s σ H Q I h
 obtain⟨cl,hcl,q1,q3⟩:=ja (sc:=sc) (env:=X.env) fun y hy hf=>by
  have:=S.fre y hy hf;rw[<-hso]at this;exact I.ok.has y.1 this
 rw[eval_ListComp];refine wpAny_comprehension_free (use:=none) rfl hs hcl S.kind S.loc (aU (hi pins s σ H _ I h) fun v s1 h1=>aU h1 fun itv s2 h2=>?_);obtain⟨it,fp,tn,J,H2,e,I2,T,st2,f2,hR⟩:=h2;subst e;refine EL ?_
 have I3:ar X pins σ (upd H2 s2.heap.objs.size (.lst [])) { s2 with heap:=s2.heap.push { cls:=.type "list",dict:=none,data:=.seq ([]:List Value).toArray } } :=
  I2.laid (t':=s2.toks) (fun b u q=>Heap.get?_push_of_some _ q) (D9 _) ⟨Ey _,[],0,.nil,Heap.get?_push_size _ rfl⟩
 have hfr:=I2.hok.fresh (D9 s2.heap.objs.size);obtain⟨W,⟨m0,w0⟩,turn⟩:=hR _ hfr
 have flt:∀ b∈fp,b<s2.heap.objs.size:=fun b hb=>by obtain⟨o,e,_⟩:=T.obj _ _ st2 b hb;exact Eg e
 generalize hs3:({ s2 with heap:=s2.heap.push { cls:=.type "list",dict:=none,data:=.seq ([]:List Value).toArray } }:Shared)=s3 at I3 ⊢
 have e3:s3.heap=s2.heap.push { cls:=.type "list",dict:=none,data:=.seq ([]:List Value).toArray }:=by rw[<-hs3]
 have sz3:s3.heap.objs.size=s2.heap.objs.size+1:=by rw[e3,FD]
 have hf3:∀ b∈fp,fh X pins (upd H2 s2.heap.objs.size (.lst [])) b:=fun b hb=>⟨by rw[ae (Em (flt b hb))];exact (f2 b hb).1,(f2 b hb).2⟩
 have flt3:∀ b∈fp,b<s3.heap.objs.size:=fun b hb=>by rw[sz3];exact Ft (flt b hb)
 have st3:tn 0 s3.heap:=T.keep _ _ _ st2 fun b _ o e=>by rw[e3];exact Heap.get?_push_of_some _ e
 refine wpAny_newFunctionEnv S.nocell (by intro y hy;simp at hy) (fun h4 hns4 hsb4=>?_) S.kind;have kp4:∀ b o,s3.heap.get? b=some o->h4.get? b=some o:=fun b o e=>hsb4.extBut b o (Em (Eg e)) (Heap.get?_push_of_some _ e);have I4:=mJ (h':=h4) I3 hso S q1 q3 hf3 flt3 (by simpa using hns4) kp4 (s3.toks+([]:List (Str×Value)).length);have st4:tn 0 h4:=T.keep _ _ _ st3 fun b _ o e=>kp4 b o e;generalize hC:s3.heap.objs.size=C at I4 hns4 hsb4 ⊢;obtain⟨hg,ht,hi1,hg1,ht1,he⟩:=hb cl C s3 (upd H2 s2.heap.objs.size (.lst [])) fp
 let Y:Cx:=cw X sc cl C N' s3 (upd H2 s2.heap.objs.size (.lst [])) fp
 have loop:∀ s5:Shared,s5={ s3 with heap:=h4,toks:=s3.toks+([]:List (Str×Value)).length }->codeAny (model X.prog X.w) X.A (.compLoop (.ListComp elt [⟨tg,iter,ifs,0⟩,⟨t1,i1,c1,0⟩] sc pos) 0 (.ref it) (.ref s2.heap.objs.size) (compEnvC sc cl C X.env))
   (compPost (model X.prog X.w) X.A X.xe none (EP X pins σ Q) (.ref s2.heap.objs.size) C) s5:=by
  rintro s5 rfl
  have stat:∀ {H':Hp},(∀ b∈fp,H' b=none)->∀ b∈fp,fh Y [] H' b:=fun {H'} hn b hb=>by
   obtain⟨f0,f1,f2',f3,f4,f5⟩:=hf3 b hb;refine⟨hn b hb,?_,fun z=>?_,.inl hb,fun x c e=>f4 x c (q1 x c e),fun p hp=>absurd (show p∈([]:List (Addr×Obj)) from hp) (by simp)⟩
   ·show b≠C
    rw[<-hC];exact Em (flt3 b hb)
   ·have z:b∈hG X.stack:=z
    rcases Eh.mp (I3.stkSub b z) with y | y
    ·exact f1 y
    ·exact f2' y
  refine gY (fun x=>hs1 _ x) (fun n s'=>∃ i σ' H',ar Y [] σ' H' s'/\tn i s'.heap/\(∀ b∈fp,H' b=none)/\W i n σ' H') ?_ m0 ⟨0,_,_,I4,st4,fun b hb=>(hf3 b hb).1,w0⟩;rintro n s6 ⟨i,σ6,H6,I6,st6,fr6,w6⟩;rcases turn i n σ6 H6 w6 with ⟨stop,qn⟩ | ⟨go,Nx,hN,step⟩
  ·refine aU (T.done Y rfl rfl rfl hc i [] s6 σ6 H6 _ I6 (stat fr6) st6 stop) fun r s7 ⟨hr,I7⟩=>?_
   subst hr;obtain⟨m,hn,_⟩:=id I7.loc;refine⟨m,hn,fun h' hsb=>?_⟩
   have neC:∀ b o,s3.heap.get? b=some o->b≠C:=fun b o e=>by rw[<-hC];exact Em (Eg e)
   have freeC:H6 C=none:=I7.free
   have un:Un (hG X.stack) fp (upd H2 s2.heap.objs.size (.lst [])) H6 s3.heap h' :=
    ⟨fun b o e n hb hx=>(hsb.2 b (neC b o e)).trans (I7.base.keep b o e n hb hx),fun b o e n hb hx=>by
      obtain⟨sl,q⟩:=I7.base.slot b o e n hb hx
      exact⟨sl,(hsb.2 b (neC b o e)).trans q⟩,I7.base.free,fun b o e hx=>by
      obtain⟨o',q⟩:=I7.base.there b o e hx
      exact⟨o',(hsb.2 b (neC b o e)).trans q⟩,I7.base.tups,I7.base.frzs,I7.base.tbls⟩
   have hok:gO X.prog X.w H6 h':=fun b ob e=>by
    refine (I7.hok b ob e).stay (fun c w' hc' q=>(hsb.2 c ?_).trans q) (fun _ q=>q) fun _ _ q=>q;rintro rfl;rcases hc' with z | z
    ·rw[<-z,freeC]at e;cases e
    ·rw[freeC]at z;cases z
   have J7:ar X pins σ H6 { s7 with heap:=h' }:=I3.call' (ch:=fp) (s':={ s7 with heap:=h' }) I7.os un hok I7.bare fun b hb=>⟨(hf3 b hb).2.2.2.1,(hf3 b hb).2.1,(hf3 b hb).2.2.2.2.1,(hf3 b hb).2.2.2.2.2⟩;exact⟨.ref s2.heap.objs.size,H6,J7,rfl,qn⟩
  ·refine aU (T.item Y rfl rfl rfl hc i [] s6 σ6 H6 _ I6 (stat fr6) st6 go) fun r s7 ⟨u,hr,h7⟩=>?_
   subst hr;refine aU h7 fun _ s8 ⟨x,H8,I8,r8,y8,st8,fr8⟩=>?_;have I8':=I8.pinned (stat fr8) (T.obj _ _ st8);refine aU (hg _ s8 σ6 H8 x u _ I8' r8 (step x H8 y8)) fun _ s9 ⟨σ9,H9,I9,q9⟩=>?_
   have again:∀ {s':Shared}{σ7:St}{H7:Hp},ar Y ([]++ig fp s8.heap) σ7 H7 s'->Nx σ7 H7->∃ m,m<n/\∃ i σ' H',ar Y [] σ' H' s'/\tn i s'.heap/\(∀ b∈fp,H' b=none)/\W i m σ' H':=fun {s' σ7 H7} I7 n7=>by
    obtain⟨m',hm,w7⟩:=hN σ7 H7 n7;refine⟨m',hm,i+1,σ7,H7,I7.unpinned,T.keep _ _ _ st8 fun b hb o e=>(I7.pin (b,o) (En _ (En _ (bJ hb e)))).1,fun b hb=>?_,w7⟩;obtain⟨o,e,d⟩:=T.obj _ _ st8 b hb;exact (I7.pin (b,o) (En _ (En _ (bJ hb e)))).2.1
   refine aU (ht _ s9 σ9 H9 _ I9 q9) fun ok s10 ⟨H10,I10,q10⟩=>?_
   cases ok with
   | false =>
    rw[D7 Ed]at q10 ⊢;exact again I10 q10
   | true =>
    rw[D8 rfl]at q10 ⊢;refine aU (hi1 _ s10 σ9 H10 _ I10 q10) fun x1 s11 h11=>aU h11 fun it1 s12 h12=>?_;obtain⟨ia,fp1,tn1,J1,H12,e1,I12,T1,st12,f12,hR1⟩:=h12;subst e1;have inner:=tI (Y:=Y) (t0:=tg) (i0:=iter) (c0:=ifs) (i1:=i1) (sc:=sc) (pos:=pos) hc rfl I12 T1 st12 f12 hR1 hg1 ht1 he;have inner':=Fo inner (R':=fun r s₆=>r=.ok .next/\∃ m,m<n/\∃ i σ' H',ar Y [] σ' H' s₆/\tn i s₆.heap/\(∀ b∈fp,H' b=none)/\W i m σ' H') fun r s6 ⟨er,σ7,H7,I7,n7⟩=>⟨er,again I7 n7⟩;exact gZ inner' (T1.self _ 0 _ _ _ st12 inner')
 exact codeAny_compStart_list (loop _ rfl) (T.self _ 0 _ _ _ st4 (loop _ rfl))
end L2
namespace Qs
open PySem PySem.W PyProof.Rows
structure xa (n:Nat)(lt:Nat->Nat->Bool):Prop where
 irr:∀ i,lt i i=false
 tot:∀ i j,i<n->j<n->i≠j->lt i j=true\/lt j i=true
 tr:∀ i j k,lt i j=true->lt j k=true->lt i k=true
def ask {α:Type}(lt:Nat->Nat->Bool):KasT α->α
 | .ret a=>a
 | .ask i j k=>ask lt (k (lt i j))
def By {α:Type}(n:Nat)(lt:Nat->Nat->Bool):KasT α->Prop
 | .ret _=>True
 | .ask i j k=>i<n/\j<n/\By n lt (k (lt i j))
theorem rB {α β:Type}{lt:Nat->Nat->Bool}{f:α->KasT β}:∀ t:KasT α,ask lt (t.bind f)=ask lt (f (ask lt t))
 | .ret _=>rfl
 | .ask i j k=>rB (k (lt i j))
theorem sh {α β:Type}{n:Nat}{lt:Nat->Nat->Bool}{f:α->KasT β}:∀ t:KasT α,By n lt t->By n lt (f (ask lt t))->By n lt (t.bind f)
 | .ret _,_,h=>h
 | .ask i j k,⟨h1,h2,h3⟩,h=>⟨h1,h2,sh (k (lt i j)) h3 h⟩
def sV {α:Type}(n:Nat)(lt:Nat->Nat->Bool)(t:KasT α)(R:α->Prop):Prop:=By n lt t/\R (ask lt t)
theorem ii {α β:Type}{n:Nat}{lt:Nat->Nat->Bool}{t:KasT α}{f:α->KasT β}{R:β->Prop}(h:sV n lt t fun a=>sV n lt (f a) R):sV n lt (t.bind f) R :=
 ⟨sh t h.1 h.2.1,by rw[rB];exact h.2.2⟩
theorem eD {α:Type}{n:Nat}{lt:Nat->Nat->Bool}{t:KasT α}{R R':α->Prop}(h:sV n lt t R)(hr:∀ a,R a->R' a):sV n lt t R':=⟨h.1,hr _ h.2⟩
theorem cY {α:Type}{n:Nat}{lt:Nat->Nat->Bool}{a:α}{R:α->Prop}(h:R a):sV n lt (.ret a) R:=⟨trivial,h⟩
theorem jK {α:Type}{n:Nat}{lt:Nat->Nat->Bool}{i j:Nat}{k:Bool->KasT α}{R:α->Prop}(hi:i<n)(hj:j<n)(h:∀ b,lt i j=b->sV n lt (k b) R):sV n lt (.ask i j k) R:=by
 have:=h _ rfl;exact⟨⟨hi,hj,this.1⟩,this.2⟩
section
variable {n:Nat}{lt:Nat->Nat->Bool}{p:Array Nat}
def Pm (n:Nat)(p:Array Nat):Prop:=p.Perm (List.toArray (List.range n))
theorem Pm.sz (h:Pm n p):p.size=n:=by have:=h.size_eq;simpa using this
theorem Pm.below (h:Pm n p)(hn:0<n)(i:Nat):p.getD i 0<n:=by
 by_cases hi:i<p.size
 ·have e:p.getD i 0=p[i]:=by simp[Array.getD,hi]
  rw[e]
  have hm:p[i]∈p.toList:=by simp
  have:=(Array.perm_iff_toList_perm.mp h).mem_iff.mp hm;simpa using this
 ·have e:p.getD i 0=0:=by simp[Array.getD,hi]
  rw[e];exact hn
theorem Pm.ne (h:Pm n p){i j:Nat}(hi:i<n)(hj:j<n)(hij:i≠j):p.getD i 0≠p.getD j 0:=by
 have hs:=h.sz;have nd:p.toList.Nodup:=(Array.perm_iff_toList_perm.mp h).nodup_iff.mpr (by simpa using List.nodup_range)
 have e1:p.getD i 0=p.toList[i]'(by simp;omega):=by simp[Array.getD,show i<p.size by omega]
 have e2:p.getD j 0=p.toList[j]'(by simp;omega):=by simp[Array.getD,show j<p.size by omega]
 rw[e1,e2];intro e;exact hij ((List.getElem_inj nd).mp e)
def Up (lt:Nat->Nat->Bool)(p:Array Nat)(k:Nat):Prop:=∀ i j,i<j->j<k->lt (p.getD i 0) (p.getD j 0)=true
def Dn (lt:Nat->Nat->Bool)(p:Array Nat)(k:Nat):Prop:=∀ i j,i<j->j<k->lt (p.getD j 0) (p.getD i 0)=true
theorem qu (L:xa n lt)(P:Pm n p){i j:Nat}(hi:i<n)(hj:j<n)(hij:i≠j)(h:lt (p.getD i 0) (p.getD j 0)=false):lt (p.getD j 0) (p.getD i 0)=true:=by
 rcases L.tot _ _ (P.below (by omega) i) (P.below (by omega) j) (P.ne hi hj hij) with z | z
 ·rw[h]at z;cases z
 ·exact z
theorem zX (L:xa n lt){a:Nat}(h1:1<=a)(hs:Up lt p a)(h:lt (p.getD (a-1) 0) (p.getD a 0)=true):Up lt p (a+1):=by
 intro i j hij hj
 by_cases hja:j<a
 ·exact hs i j hij hja
 ·have e:j=a:=by omega
  subst e
  by_cases hi:i=j-1
  ·rw[hi];exact h
  ·exact L.tr _ _ _ (hs i (j-1) (by omega) (by omega)) h
theorem uZ (L:xa n lt){a:Nat}(h1:1<=a)(hs:Dn lt p a)(h:lt (p.getD a 0) (p.getD (a-1) 0)=true):Dn lt p (a+1):=by
 intro i j hij hj
 by_cases hja:j<a
 ·exact hs i j hij hja
 ·have e:j=a:=by omega
  subst e
  by_cases hi:i=j-1
  ·rw[hi];exact h
  ·exact L.tr _ _ _ h (hs i (j-1) (by omega) (by omega))
theorem qQ (L:xa n lt)(P:Pm n p):∀ (f a:Nat),1<=a->a+f<=n->Up lt p a->sV n lt (kas_asc p f a) fun m=>a<=m/\m<=a+f/\Up lt p m/\(m<a+f->lt (p.getD m 0) (p.getD (m-1) 0)=true)
 | 0,a,_,_,hs=>cY ⟨D9 _,D9 _,hs,fun h=>absurd h (by omega)⟩
 | f+1,a,h1,h2,hs=>by
  refine jK (P.below (by omega) _) (P.below (by omega) _) fun b hb=>?_
  cases b with
  | true=>exact cY ⟨D9 _,by omega,hs,fun _=>hb⟩
  | false =>
   have hlt:=qu L P (show a<n by omega) (show a-1<n by omega) (by omega) hb;refine eD (qQ L P f (a+1) (by omega) (by omega) (zX L h1 hs hlt)) fun m ⟨m1,m2,m3,m4⟩=>⟨by omega,by omega,m3,fun h=>m4 (by omega)⟩
theorem sF (L:xa n lt)(P:Pm n p):∀ (f a:Nat),1<=a->a+f<=n->Dn lt p a->sV n lt (kas_desc f p a 0) fun r=>r.1=p/\r.2.2=0/\a<=r.2.1/\r.2.1<=a+f/\Dn lt p r.2.1
 | 0,a,_,_,hs=>cY ⟨rfl,rfl,D9 _,D9 _,hs⟩
 | f+1,a,h1,h2,hs=>by
  refine jK (P.below (by omega) _) (P.below (by omega) _) fun b hb=>?_
  cases b with
  | true =>
   rw[D8 rfl,D7 (by omega)];exact eD (sF L P f (a+1) (by omega) (by omega) (uZ L h1 hs hb)) fun r ⟨r1,r2,r3,r4,r5⟩=>⟨r1,r2,by omega,by omega,r5⟩
  | false =>
   rw[D7 Ed];have hlt:=qu L P (show a<n by omega) (show a-1<n by omega) (by omega) hb;refine jK (P.below (by omega) _) (P.below (by omega) _) fun d hd=>?_;rw[hlt]at hd;subst hd;rw[D8 rfl];exact cY ⟨rfl,rfl,D9 _,Nat.le_add_right _ _,hs⟩
theorem vv {a:Nat}(ha:a<=p.size)(k:Nat):(kas_rev p 0 a).getD k 0=if k<a then p.getD (a-1-k) 0 else p.getD k 0:=by
 have h:=getElem?_mirror_all (xs:=p) (i:=0) (j:=a) ha k
 have e:∀ (q:Array Nat)(i:Nat),q.getD i 0=(q[i]?).getD 0:=fun q i=>by
  simp[Array.getD];split<;>simp_all
 show (mirror p 0 a ((a-0)/2)).getD k 0=_
 rw[e,h]
 by_cases hk:k<a
 ·rw[D8 ⟨Ey _,hk⟩,D8 hk,e]
  congr 2
  omega
 ·rw[D7 (by omega),D7 hk,e]
theorem Pm.rev (h:Pm n p)(i j:Nat):Pm n (kas_rev p i j):=(mirror_perm _ _ _ _).trans h
theorem wK (L:xa n lt)(P:Pm n p){a:Nat}(h1:1<=a)(h2:a<=n)(hd:Dn lt p a):sV n lt (kas_tail3 a n p) fun r=>Pm n r.2/\Up lt r.2 r.1/\1<=r.1/\r.1<=n:=by
 have P':=P.rev 0 a
 have hs:Up lt (kas_rev p 0 a) a:=fun i j hij hj=>by
  rw[vv (by rw[P.sz];exact h2),vv (by rw[P.sz];exact h2),D8 (by omega),D8 hj];exact hd _ _ (by omega) (by omega)
 refine ii (eD (qQ L P' (n-a) a h1 (by omega) hs) fun m ⟨m1,m2,m3,_⟩=>cY ⟨P',m3,by omega,by omega⟩)
theorem wH (L:xa n lt)(P:Pm n p)(hn:2<=n):sV n lt (kas_count n p) fun r=>Pm n r.2/\Up lt r.2 r.1/\1<=r.1/\r.1<=n:=by
 refine ii (eD (qQ L P (n-1) 1 (D9 _) (by omega) fun i j hij hj=>by omega) fun m ⟨m1,m2,m3,m4⟩=>?_)
 by_cases hm:m=n
 ·rw[D8 (by simp[hm])]
  exact cY ⟨P,m3,m1,by omega⟩
 ·rw[D7 (by simp[hm])]
  by_cases h1:m>1
  ·rw[D8 h1]
   refine jK (P.below (by omega) _) (P.below (by omega) _) fun b hb=>?_;rw[m3 0 (m-1) (by omega) (by omega)]at hb;subst hb;rw[D8 rfl];exact cY ⟨P,m3,m1,by omega⟩
  ·rw[D7 h1]
   have e:m=1:=by omega
   subst e;have hlt:=m4 (by omega);have hd:Dn lt p (1+1):=uZ L (D9 _) (fun i j hij hj=>by omega) hlt;refine ii (eD (sF L P (n-(1+1)) (1+1) (by omega) (by omega) hd) fun r ⟨r1,r2,r3,r4,r5⟩=>?_);rw[r2,D7 (by omega),r1];exact wK L P (by omega) (by omega) r5
theorem kD (L:xa n lt)(P:Pm n p){k:Nat}(hk:k<n)(hs:Up lt p k):∀ (f l r:Nat),l<=r->r<=k->r-l<=f->(∀ i,i<l->lt (p.getD i 0) (p.getD k 0)=true)->(∀ i,r<=i->i<k->lt (p.getD k 0) (p.getD i 0)=true) ->
  sV n lt (kas_place p k f l r) fun m=>m<=k/\(∀ i,i<m->lt (p.getD i 0) (p.getD k 0)=true)/\∀ i,m<=i->i<k->lt (p.getD k 0) (p.getD i 0)=true
 | 0,l,r,h1,h2,h3,hl,hr=>cY ⟨by omega,hl,fun i hi hk=>hr i (by omega) hk⟩
 | f+1,l,r,h1,h2,h3,hl,hr=>by
  show sV n lt (if l>=r then .ret l else _) _
  by_cases h:l>=r
  ·rw[D8 h]
   exact cY ⟨by omega,hl,fun i hi hk=>hr i (by omega) hk⟩
  ·rw[D7 h]
   refine jK (P.below (by omega) _) (P.below (by omega) _) fun b hb=>?_
   cases b with
   | true =>
    rw[D8 rfl];refine kD L P hk hs f l ((l+r)/2) (by omega) (by omega) (by omega) hl fun i hi hik=>?_
    by_cases he:i=(l+r)/2
    ·rw[he];exact hb
    ·exact L.tr _ _ _ hb (hs _ _ (by omega) hik)
   | false =>
    rw[D7 Ed];have hlt:=qu L P hk (show (l+r)/2<n by omega) (by omega) hb;refine kD L P hk hs f ((l+r)/2+1) r (by omega) h2 (by omega) (fun i hi=>?_) hr
    by_cases he:i=(l+r)/2
    ·rw[he];exact hlt
    ·exact L.tr _ _ _ (hs _ _ (by omega) (by omega)) hlt
theorem yV {k l:Nat}(hk:k<p.size)(hl:l<=k)(i:Nat):(bubble p k (k-l)).getD i 0=if i=l then p.getD k 0 else if l<i/\i<=k then p.getD (i-1) 0 else p.getD i 0:=by
 have h:=getElem?_bubble (xs:=p) hk (k-l) (by omega) i
 have e:∀ (q:Array Nat)(i:Nat),q.getD i 0=(q[i]?).getD 0:=fun q i=>by
  simp[Array.getD];split<;>simp_all
 rw[e,h,show k-(k-l)=l by omega]
 by_cases h1:i=l
 ·rw[D8 h1,D8 h1,e]
 ·rw[D7 h1,D7 h1]
  by_cases h2:l<i/\i<=k
  ·rw[D8 h2,D8 h2,e]
  ·rw[D7 h2,D7 h2,e]
theorem vw (L:xa n lt):∀ (f:Nat)(p:Array Nat)(k:Nat),Pm n p->k+f=n->Up lt p k->sV n lt (kas_bin f p k) fun q=>Pm n q/\Up lt q n
 | 0,p,k,P,h,hs=>cY ⟨P,by rw[show n=k by omega];exact hs⟩
 | f+1,p,k,P,h,hs=>by
  have hk:k<n:=by omega
  refine ii (eD (kD L P hk hs k 0 k (Ey _) (D9 _) (by omega) (fun i hi=>by omega) (fun i hi hik=>by omega)) fun l ⟨l1,l2,l3⟩=>?_);have g:=fun i=>yV (p:=p) (k:=k) (l:=l) (by rw[P.sz];exact hk) l1 i;refine vw L f _ (k+1) ((bubble_perm _ _ _).trans P) (by omega) fun i j hij hj=>?_;rw[g,g]
  by_cases hi1:i=l
  ·rw[D8 hi1,D7 (by omega),D8 ⟨by omega,by omega⟩]
   exact l3 _ (by omega) (by omega)
  ·rw[D7 hi1]
   by_cases hi2:l<i/\i<=k
   ·rw[D8 hi2,D7 (by omega),D8 ⟨by omega,by omega⟩]
    exact hs _ _ (by omega) (by omega)
   ·rw[D7 hi2]
    by_cases hj1:j=l
    ·rw[D8 hj1]
     exact l2 _ (by omega)
    ·rw[D7 hj1]
     by_cases hj2:l<j/\j<=k
     ·rw[D8 hj2]
      exact hs _ _ (by omega) (by omega)
     ·rw[D7 hj2]
      exact hs _ _ hij (by omega)
theorem yn (L:xa n lt)(hn:2<=n):sV n lt (kas_sort n) fun q=>Pm n q/\Up lt q n:=by
 refine ii (eD (wH L (p:=List.toArray (List.range n)) (Array.Perm.refl _) hn) fun r ⟨r1,r2,r3,r4⟩=>?_)
 by_cases h:r.1<n
 ·rw[D8 h]
  exact vw L _ _ _ r1 (by omega) (by rw[Nat.max_eq_left r3];exact r2)
 ·rw[D7 h]
  exact cY ⟨r1,by rw[show n=r.1 by omega];exact r2⟩
end
theorem xF {α:Type}{n:Nat}{lt:Nat->Nat->Bool}{cmp:Nat->Nat->(Bool->Shared->Prop)->Shared->Prop}{Q:α->Shared->Prop}{I:Shared->Prop}
  (hc:∀ i j,i<n->j<n->∀ (C:Bool->Shared->Prop) s,I s->(∀ s',I s'->C (lt i j) s')->cmp i j C s):∀ (t:KasT α)(s:Shared),By n lt t->I s->(∀ s',I s'->Q (ask lt t) s')->t.kasWp cmp Q s
 | .ret a,s,_,hI,hq=>hq s hI
 | .ask i j k,s,⟨h1,h2,h3⟩,hI,hq=>hc i j h1 h2 _ s hI fun s' hs'=>xF hc (k (lt i j)) s' h3 hs' hq
def ltP (p q:Int×Int):Bool:=decide (p.1<q.1\/(p.1=q.1/\p.2<q.2))
theorem ltP_irr (p:Int×Int):ltP p p=false:=by unfold ltP;simp
theorem ltP_tr {p q r:Int×Int}(h1:ltP p q=true)(h2:ltP q r=true):ltP p r=true:=by
 unfold ltP at *;have h1:=ER h1;have h2:=ER h2;exact Ee (by omega)
theorem zp {p q:Int×Int}(h:p≠q):ltP p q=true\/ltP q p=true:=by
 unfold ltP
 by_cases h1:p.1<q.1
 ·exact .inl (Ee (.inl h1))
 ·by_cases h2:q.1<p.1
  ·exact .inr (Ee (.inl h2))
  ·have e:p.1=q.1:=by omega
   have n:p.2≠q.2:=fun z=>h (Prod.ext e z)
   by_cases h3:p.2<q.2
   ·exact .inl (Ee (.inr ⟨e,h3⟩))
   ·exact .inr (Ee (.inr ⟨e.symm,by omega⟩))
def AY (ps:List (Int×Int))(i j:Nat):Bool:=ltP (ps.getD i (0,0)) (ps.getD j (0,0))
theorem AW {ps:List (Int×Int)}(nd:ps.Nodup):xa ps.length (AY ps) where
 irr:=fun i=>ltP_irr _
 tot:=fun i j hi hj hij=>zp fun e=>hij (by
  have e1:ps.getD i (0,0)=ps[i]:=by simp[hi]
  have e2:ps.getD j (0,0)=ps[j]:=by simp[hj]
  rw[e1,e2]at e
  exact (List.getElem_inj nd).mp e)
 tr:=fun i j k=>ltP_tr
def PairAt (h:Heap)(v:Value)(p:Int×Int):Prop:=∃ (b:Addr)(o:Obj)(n:Nat)(t u:Tok),v=.ref b/\h.get? b=some o/\o.cls=.type "tuple"/\o.data=.seq #[.int p.1 t,.int p.2 u] n
section
variable {prog:Program}{w:World}{A:Around}{E:Value->Shared->Prop}{s:Shared}
theorem zq {x y:Value}{p q:Int×Int}{Q:Bool->Shared->Prop}(hx:PairAt s.heap x p)(hy:PairAt s.heap y q)(h:Q (ltP p q) s):wpAny (model prog w) A (keyLt' (tuples' true) x y) Q E s:=by
 obtain⟨b,o,n,t,u,rfl,ho,hc,hd⟩:=hx;obtain⟨b',o',n',t',u',rfl,ho',hc',hd'⟩:=hy;refine kat_lt ho hd ho' hd' ?_
 show KatLex prog w A true (decide (2<2)) Q [(.int p.1 t,.int q.1 t'),(.int p.2 u,.int q.2 u')] 0 s
 refine kat_cons (wpAny_eqBool_int ?_)
 by_cases h1:p.1=q.1
 ·rw[show (p.1 == q.1)=true by simpa using h1]
  refine kat_yes (kat_cons (wpAny_eqBool_int ?_))
  by_cases h2:p.2=q.2
  ·rw[show (p.2 == q.2)=true by simpa using h2]
   refine kat_yes (kat_nil ?_)
   have e:ltP p q=decide (2<2):=by rw[show p=q from Prod.ext h1 h2,ltP_irr];rfl
   rw[<-e];exact h
  ·rw[show (p.2 == q.2)=false by simpa using h2]
   refine kat_no ?_
   show wpAny (model prog w) A (oneLt' false (.int p.2 u) (.int q.2 u')) Q _ s
   refine kat_one _ _ (wpAny_lt_int ?_)
   show Q (decide (p.2<q.2)) s
   have e:ltP p q=decide (p.2<q.2):=by unfold ltP;simp[h1]
   rw[<-e];exact h
 ·rw[show (p.1 == q.1)=false by simpa using h1]
  refine kat_no ?_
  show wpAny (model prog w) A (oneLt' true (.int p.1 t) (.int q.1 t')) Q _ s
  refine oneLt_int ?_
  have e:ltP p q=decide (p.1<q.1):=by unfold ltP;simp[h1]
  rw[<-e];exact h
theorem vG {h:Heap}:∀ {vs:List Value}{ps:List (Int×Int)},Paired (PairAt h) vs ps->∃ fs:List Value,KatTups h vs fs/\fs.length=vs.length/\∀ v∈fs,∃ i t,v=Value.int i t
 | [],[],.nil=>⟨[],KatTups.nil,rfl,fun v h=>by cases h⟩
 | v::vs,p::ps,.cons hv r=>by
  obtain⟨fs,k,hl,hi⟩:=vG r;obtain⟨b,o,n,t,u,rfl,ho,hc,hd⟩:=hv;refine⟨.int p.1 t::fs,KatTups.cons ho hc hd rfl k,by simp[hl],fun v hv=>?_⟩;rcases Eh.mp hv with z | z
  ·exact⟨_,_,z⟩
  ·exact hi v z
theorem tX {vs:List Value}{ps:List (Int×Int)}{Q:SortKind->Shared->Prop}(hp:Paired (PairAt s.heap) vs ps)(h2:0<vs.length)(h:Q (tuples' true) s):wpAny (model prog w) A (keyKind' vs.toArray) Q E s:=by
 obtain⟨fs,k,hl,hi⟩:=vG hp;refine kat_kind (T:=.type "int") k (by omega) (fun v hv=>?_) (by decide) h;obtain⟨i,t,rfl⟩:=hi v hv;exact .now
theorem h9 {α β:Type}{F:α->β->Prop}{d:α}{e:β}:∀ {l:List α}{m:List β},Paired F l m->∀ i,i<l.length->F (l.getD i d) (m.getD i e)
 | _::_,_::_,.cons h _,0,_=>h
 | _::l,_::m,.cons _ r,i+1,hi=>h9 r i (by simpa using hi)
def tu (vs:List Value)(ps:List (Int×Int))(out:List Value):Prop:=∃ ix:List Nat,ix.Perm (List.range vs.length)/\out=ix.map (fun i=>vs.getD i Value.none)/\(ix.map fun i=>ps.getD i (0,0)).Pairwise (fun a b=>ltP a b=true)
theorem wJ {vs:List Value}{ps:List (Int×Int)}{Q:SortSt->Shared->Prop}(hp:Paired (PairAt s.heap) vs ps)(nd:ps.Nodup)(h2:2<=vs.length)(h64:vs.length<64)
  (h:∀ st':SortSt,failedOf st'=none->(∃ out:List Value,(arrOf st').map (·.2)=out.toArray/\tu vs ps out)->Q st' s) :
  wpAny (model prog w) A ((sortRuns').run (SortSt.mk' (tuples' true) (vs.toArray.zip vs.toArray) #[] 7 none)) (fun r s'=>Q r.2 s') E s:=by
 have hl:vs.length=ps.length:=Ej hp;have L:=AW nd;rw[<-hl]at L;obtain⟨ok,P,hs⟩:=yn L h2;refine kat_run (G:=fun p s'=>p=ask (AY ps) (kas_sort vs.length)/\s'=s) rfl h2 h64 (fun p st' s' hsz har hf hg=>?_) ?_
 ·obtain⟨e1,e2⟩:=hg
  subst e2;rw[<-e1]at P hs;refine h st' hf ⟨_,kat_snds rfl har,p.toList,?_,rfl,?_⟩
  ·have:=Array.perm_iff_toList_perm.mp P
   simpa using this
  ·rw[List.pairwise_map,List.pairwise_iff_getElem]
   intro i j hi hj hij
   have hj':j<p.size:=by simpa using hj
   have hi':i<p.size:=by simpa using hi
   have:=hs i j hij (by rw[<-hsz];exact hj')
   have e3:p.getD i 0=p.toList[i]:=by simp[Array.getD,hi']
   have e4:p.getD j 0=p.toList[j]:=by simp[Array.getD,hj']
   rw[e3,e4]at this;exact this
 ·refine xF (I:=fun s'=>s'=s) (lt:=AY ps) (n:=vs.length) (fun i j hi hj C s' hs' hC=>?_) _ s ok rfl fun s' hs'=>⟨rfl,hs'⟩
  subst hs'
  show wpAny (model prog w) A (keyLt' (tuples' true) (vs.getD i Value.none) (vs.getD j Value.none)) C _ s'
  exact zq (h9 hp i hi) (h9 hp j hj) (hC _ rfl)
end
section
variable {prog:Program}{w:World}{A:Around}{E:Value->Shared->Prop}{s:Shared}
theorem sort_pairs {a:Addr}{vs:List Value}{ps:List (Int×Int)}{n:Nat}{P:Fin->Shared->Prop}(ho:s.heap.get? a=some (seqObj "list" vs.toArray n))(hp:Paired (PairAt s.heap) vs ps)(nd:ps.Nodup)(h64:vs.length<64)
  (h:∀ out:List Value,tu vs ps out->P (.done (.ret .none)) { s with heap:=sortedHeap s.heap a vs out.toArray }):wpAny (model prog w) A (Builtin.«list.sort» ⟨[.ref a],[]⟩) P E s:=by
 have ha:a<s.heap.objs.size:=Eg ho;have hl:vs.length=ps.length:=Ej hp;obtain⟨e1,ho1⟩:∃ e1,(s.heap.update a (Obj.mapSeq fun _=>#[])).get? a=some (seqObj "list" #[] e1):=⟨_,get?_update_seq ho (fun _=>#[])⟩
 have ho6:(((s.heap.update a (Obj.mapSeq fun _=>#[])).push (seqObj "tuple" vs.toArray 0)).push (seqObj "list" #[] 0)).get? a=some (seqObj "list" #[] e1):=by
  rw[Heap.get?_push_ne _ _ _ (by rw[size_push',Heap.size_update];exact Em (Ft ha)),Heap.get?_push_ne _ _ _ (by rw[Heap.size_update];exact Em ha)];exact ho1
 have sz:vs.toArray.size<=sizeLine:=by rw[Ek,EZ];omega
 rw[list_sort_plain];refine D5 (listItems_at ho rfl (D5 (listUpdate_at ho rfl ?_ sz (Ey _))));refine D5 (seqEpoch_at ho1 rfl (D5 (wpAny_newTuple ?_ (by show vs.length<=_;rw[EZ];omega))));refine D5 (wpAny_newList (EK ?_) (Ey _))
 show wpAny (model prog w) A _ P E { s with heap:=((s.heap.update a (Obj.mapSeq fun _=>#[])).push (seqObj "tuple" vs.toArray 0)).push (seqObj "list" #[] 0) }
 dsimp only
 by_cases h2:vs.toArray.size<2
 ·rw[D8 h2,D8 h2]
  refine D5 (Ea ?_);rw[StateT.run_pure];refine D5 (Ea ?_);dsimp only
  have e:((vs.toArray.zip vs.toArray).map (·.2))=vs.toArray:=by
   apply Array.ext';simp[List.map_snd_zip]
  refine D5 (seqEpoch_at ho6 rfl (D5 (listUpdate_at ho6 rfl ?_ (Ey _) ?_)))
  ·simp only[bne_self_eq_false,Bool.false_eq_true,if_false]
   refine Ea ?_
   show P _ { s with heap:=(((s.heap.update a _).push _).push _).update a (Obj.mapSeq fun _=>(vs.toArray.zip vs.toArray).map (·.2)) }
   rw[e];refine h vs ⟨List.range vs.length,List.Perm.refl _,?_,?_⟩
   ·apply List.ext_getElem?
    intro i;rw[List.getElem?_map]
    by_cases hi:i<vs.length
    ·rw[List.getElem?_range hi];simp[hi]
    ·rw[List.getElem?_eq_none (by omega),List.getElem?_eq_none (by simp;omega)];rfl
   ·have hv:vs.length<2:=by simpa using h2
    rw[List.pairwise_map,List.pairwise_iff_getElem];intro i j hi hj hij;rw[List.length_range]at hi hj;omega
  ·show ((vs.toArray.zip vs.toArray).map (·.2)).size<=_
   rw[e];omega
 ·rw[D7 h2,D7 h2]
  have h2':2<=vs.length:=by rw[Ek]at h2;omega
  have hp':Paired (PairAt (((s.heap.update a (Obj.mapSeq fun _=>#[])).push (seqObj "tuple" vs.toArray 0)).push (seqObj "list" #[] 0))) vs ps:=L2.Paired.mapP hp fun v q ⟨b,o,m,t,u,ev,hb,hc,hd⟩=>by
   refine⟨b,o,m,t,u,ev,?_,hc,hd⟩
   have nb:b≠a:=fun z=>by
    rw[z,ho]at hb;cases hb;exact absurd hc (by show ¬ (Value.type "list" = .type "tuple");decide)
   have hlt:=Eg hb;rw[Heap.get?_push_ne _ _ _ (by rw[size_push',Heap.size_update];exact Em (Ft hlt)),Heap.get?_push_ne _ _ _ (by rw[Heap.size_update];exact Em hlt),Heap.get?_update_ne _ _ _ _ nb];exact hb
  refine D5 (tX (s:={ s with heap:=((s.heap.update a (Obj.mapSeq fun _=>#[])).push (seqObj "tuple" vs.toArray 0)).push (seqObj "list" #[] 0) }) hp' (by omega) ?_);refine D5 (wJ (Q:=fun st' s'=>failedOf st'=none/\(∃ out:List Value,(arrOf st').map (·.2)=out.toArray/\tu vs ps out)/\s'={ s with heap:=((s.heap.update a (Obj.mapSeq fun _=>#[])).push (seqObj "tuple" vs.toArray 0)).push (seqObj "list" #[] 0) }) hp' nd h2' h64 (fun st' hf ho=>⟨hf,ho,rfl⟩) |> fun q=>Ew q (fun r s' hr=>?_) fun _ _ x=>x);obtain⟨⟨⟩,st'⟩:=r;obtain⟨hf,⟨out,hout,so⟩,rfl⟩:=hr;dsimp only at hf hout ⊢
  have hol:out.length=vs.length:=by
   obtain⟨ix,hx,rfl,_⟩:=so;rw[D6,hx.length_eq,List.length_range]
  rw[hout];refine D5 (seqEpoch_at ho6 rfl (D5 (listUpdate_at ho6 rfl ?_ (Ey _) (by show out.toArray.size<=_;rw[Ek,hol,EZ];omega))));rw[hf];simp only[bne_self_eq_false,Bool.false_eq_true,if_false];exact Ea (h out so)
end
def RawAt (h:Heap)(d:Addr)(es:Array DictEntry)(ep:Nat):Prop:=∃ o,h.get? d=some o/\o.ExactDict/\o.data=.dict es ep
section
variable {prog:Program}{w:World}{A:Around}{E:Value->Shared->Prop}{s:Shared}{d it:Addr}{es:Array DictEntry}{ep i:Nat}
theorem RawAt.typeIs (h:RawAt s.heap d es ep):s.TypeIs (.ref d) "dict":=let ⟨o,ho,hc,_⟩:=h;⟨o,ho,hc.1⟩
theorem RawAt.lt {h:Heap}(x:RawAt h d es ep):d<h.objs.size:=let ⟨_,ho,_⟩:=x;Eg ho
theorem RawAt.at {h h':Heap}(x:RawAt h d es ep)(e:∀ o,h.get? d=some o->h'.get? d=some o):RawAt h' d es ep:=let ⟨o,ho,r⟩:=x;⟨o,e _ ho,r⟩
theorem yi {Q:Value->Shared->Prop}(lo:(d == sysModules)=false)(hm:RawAt s.heap d es ep)
  (hQ:Q (.ref s.heap.objs.size) { s with heap:=s.heap.push { cls:=.type "dict_keyiterator",data:=.fields #[.ref d,.int 0 0,.int es.size 0,.int ep 0] } }):wpAny (model prog w) A (pyIter (.ref d)) Q E s:=by
 have hT:=hm.typeIs;obtain⟨o,ho,hc,hdat⟩:=hm;refine wpAny_pyIter_slot hT F.slot_dict_iter (FE F.slot_dict_iter hT F.entry_dict_iter ?go (F.args_dict_iter_1 _))
 case go =>
  unfold Builtin.«dict.__iter__»;refine D5 ?_;unfold Builtin.Dict.dictSlotNone;refine D5 (wpAny_notOrdered_dict hT (?_:wpAny (model prog w) A.in1 (pure (Value.ref d)) _ _ s));refine Ea ?_
  show wpAny _ _ (Builtin.Dict.showsAll d >>= _) _ _ s;unfold Builtin.Dict.showsAll;rw[D7 (by rw[lo];simp)]
  refine D5 (Ea (D5 (wpAny_dictEntries ho hdat (D5 (wpAny_dictEpoch ho hdat ?_)))));refine D5 (EL (Ea ⟨_,rfl,"dict_keyiterator",_,⟨_,Heap.get?_push_size _ rfl,rfl⟩,Fd.lookup,?_⟩));simpa [rawInt] using hQ
theorem yh {Q:Option Value->Shared->Prop}{e:DictEntry}(hit:s.heap.IsKeyIter it d i es.size ep)(hm:RawAt s.heap d es ep)(hx:es[i]? = some e)
  (hQ:∀ h',h'.IsKeyIter it d (i+1) es.size ep->Heap.SameBut it s.heap h'->Q (some e.key) { s with heap:=h' }):wpAny (model prog w) A (pyNext (.ref it)) Q E s:=by
 obtain⟨o,ho,hc,hd⟩:=id hit;obtain⟨od,hod,hcd,hdd⟩:=id hm
 have hlt:i<es.size:=by
  by_cases h:i<es.size
  ·exact h
  ·rw[Array.getElem?_eq_none (by omega)]at hx;cases hx
 have he:es[i]=e:=by rw[Array.getElem?_eq_getElem hlt]at hx;exact Ef hx
 unfold pyNext;refine D5 (wpAny_attempt (wpAny_callSpecial?_slot (name:=Str.ofString "__next__") hit.typeIs Fd (FE Fd hit.typeIs F.entry_dict_keyiterator_next ?go (F.args_dict_keyiterator_next_1 _))))
 case go =>
  refine D5 (Ea (D5 (D5 ?_)))
  first | refine D5 (Fa hit.typeIs (Ea (D5 (wpAny_fieldsOf ho hd ?_)))) | refine D5 (Fp hit.typeIs (Ea (D5 (wpAny_fieldsOf ho hd ?_))))
  simp only[show Builtin.Dict_items.ownsTuple "dict_keyiterator" = false by decide,Bool.false_eq_true,if_false]
  show wpAny _ _ (if (Value.ref d == Value.none)=true then _ else _) _ _ s;rw[D7 (show ¬ ((Value.ref d == Value.none)=true) from Ed)]
  refine D5 (Ea (D5 (wpAny_dictEntries hod hdd ?_)));rw[D7 (by simp)];refine D5 (Ea (D5 (wpAny_dictEpoch hod hdd ?_)));rw[D7 (by simp)];refine Ea ?_;simp only[show ¬ ((i:Int)<0) from by omega,if_false,FN,Array.getElem?_eq_getElem hlt];refine D5 ?_
  first | refine D5 (Fa hit.typeIs (Ea (D5 (wpAny_isOneOf_keyiter hit.typeIs ?_)))) | refine D5 (Fp hit.typeIs (Ea (D5 (wpAny_isOneOf_keyiter hit.typeIs ?_)))) | (first | refine D5 (Fa hit.typeIs (Ea ?_)) | refine D5 (Fp hit.typeIs (Ea ?_));refine D5 (wpAny_isOneOf_keyiter hit.typeIs ?_))
  show wpAny _ _ (setField (.ref it) 1 (rawInt ((i:Int)+1)) >>= _) _ _ s;refine D5 (FQ ho hd (by simp) ?_)
  have hit':(s.heap.update it (Obj.mapFields (·.setIfInBounds 1 (rawInt ((i:Int)+1))))).IsKeyIter it d (i+1) es.size ep:=⟨_,Heap.get?_update_self _ ho (Obj.isFreed_of_fields (FK hd _)),(Obj.cls_mapFields ..).trans hc,by rw[FK hd];simp[rawInt]⟩;refine D5 (EK (D5 (wpAny_isOneOf_keyiter (s:={ s with heap:=s.heap.update it (Obj.mapFields (·.setIfInBounds 1 (rawInt ((i:Int)+1)))) }) hit'.typeIs ?_)))
  show wpAny _ _ (pure es[i].key) _ _ _;rw[he];exact Ea (Ea ⟨_,rfl,Ea (hQ _ hit' (Heap.SameBut.update ..))⟩)
theorem zR {Q:Option Value->Shared->Prop}(hh:A.handled=none)(hit:s.heap.IsKeyIter it d i es.size ep)(hm:RawAt s.heap d es ep)(hx:es.size<=i)
  (hQ:∀ h',Heap.ExtBut it s.heap h'->Q none { s with heap:=h' }):wpAny (model prog w) A (pyNext (.ref it)) Q E s:=by
 obtain⟨o,ho,hc,hd⟩:=id hit;obtain⟨od,hod,hcd,hdd⟩:=id hm;unfold pyNext;refine D5 (wpAny_attempt (wpAny_callSpecial?_slot (name:=Str.ofString "__next__") hit.typeIs Fd (FE Fd hit.typeIs F.entry_dict_keyiterator_next ?go (F.args_dict_keyiterator_next_1 _))))
 case go =>
  refine D5 (Ea (D5 (D5 ?_)))
  first | refine D5 (Fa hit.typeIs (Ea (D5 (wpAny_fieldsOf ho hd ?_)))) | refine D5 (Fp hit.typeIs (Ea (D5 (wpAny_fieldsOf ho hd ?_))))
  simp only[show Builtin.Dict_items.ownsTuple "dict_keyiterator" = false by decide,Bool.false_eq_true,if_false]
  show wpAny _ _ (if (Value.ref d == Value.none)=true then _ else _) _ _ s;rw[D7 (show ¬ ((Value.ref d == Value.none)=true) from Ed)]
  refine D5 (Ea (D5 (wpAny_dictEntries hod hdd ?_)));rw[D7 (by simp)];refine D5 (Ea (D5 (wpAny_dictEpoch hod hdd ?_)));rw[D7 (by simp)];refine Ea ?_;simp only[show ¬ ((i:Int)<0) from by omega,if_false,FN,Array.getElem?_eq_none hx];refine D5 ?_
  first | refine D5 (Fa hit.typeIs (Ea ?_)) | refine D5 (Fp hit.typeIs (Ea ?_))
  show wpAny _ _ (setField (.ref it) 0 .none >>= _) _ _ s;refine D5 (FQ ho hd (by simp) ?_)
  show wpAny _ _ (newExc (.type "StopIteration") [] >>= _) _ _ _;refine D5 ?_;simp only[newExc,newTuple]
  refine D5 (EL ?_ (by size_fits));refine D5 (m:=firstArgMember _ _) (wpAny_of_eq (a:=Value.none) (by first | rfl | (simp only[firstArgMember];rfl)) ?_);refine EL ?_ (by size_fits);simp only[raiseNew];refine D5 (wpAny_handled ?_);rw[show A.in1.handled=none from hh];refine D5 (Ea (wpAny_throw ?_));refine D5 (wpAny_isInstance (T:="StopIteration") (b:=true) ⟨_,Heap.get?_push_size _ rfl,rfl⟩ isSubtype_stop ?_);exact Ea (hQ _ (((Heap.SameBut.update ..).extBut.push _).push _))
end
theorem wG {prog:Program}{w:World}{A:Around}(hh:A.handled=none)(I d:Addr)(hne:d≠I)(es:Array DictEntry)(ep:Nat) :
  Walks prog w A I [I,d] [I] es.size (fun i v=>∃ e,es[i]? = some e/\v=e.key) (fun i h=>h.IsKeyIter I d i es.size ep/\RawAt h d es ep) where
 sub:=fun b hb=>by simp at hb;simp[hb]
 frame:=fun _ _ _ st hk=>⟨st.1.at fun o e=>hk I (by simp) o e,st.2.at fun o e=>hk d (by simp) o e⟩
 item:=fun i s Q E hi st hQ=>yh st.1 st.2 (Array.getElem?_eq_getElem hi) fun h' hit' hs'=>hQ _ h' s.toks ⟨_,Array.getElem?_eq_getElem hi,rfl⟩ ⟨hit',st.2.at fun o e=>hs'.extBut d o hne e⟩ fun b o hb e=>hs'.extBut b o (fun h=>hb (by simp[h])) e
 done:=fun s Q E st hQ=>zR hh st.1 st.2 (D9 _) fun h' he'=>hQ h' s.toks fun b o hb e=>he' b o (fun h=>hb (by simp[h])) e
 self:=fun _ _ _ _ st hQ=>wpAny_pyIter_keyiter st.1 hQ
theorem raw_src {prog:Program}{w:World}{d:Addr}{es:Array DictEntry}{ep:Nat}(lo:(d == sysModules)=false):KdlSrc prog w "dict" d d es.size (fun i v=>∃ e,es[i]? = some e/\v=e.key) (fun h=>RawAt h d es ep) where
 type:=fun _ hm=>hm.typeIs
 there:=fun _ hm=>⟨hm.lt,hm.lt⟩
 keep:=fun _ _ hm hk=>hm.at fun o e=>hk d (.inl rfl) o e
 notList:=by decide
 notTuple:=by decide
 hint:=fun _ _ _ _ hm hq=>kdl_hint_dict hm.typeIs hq
 iter:=fun _ _ hh hm=>⟨_,_,(fun _ _ hq=>yi lo hm hq),wG hh _ d (Em hm.lt) es ep,⟨⟨_,Heap.get?_push_size _ rfl,rfl,rfl⟩,hm.at fun o e=>Heap.get?_push_of_some _ e⟩⟩
end Qs
namespace Wz
open PySem PySem.Spec PyProof.Rows L2
theorem ic {α β γ:Type}{F:β->γ->Prop}{f:α->β}{g:α->γ}:∀ (l:List α),(∀ x∈l,F (f x) (g x))->Paired F (l.map f) (l.map g)
 | [],_=>.nil
 | x::l,h=>.cons (h x Ec) (ic l fun y hy=>h y (Eb _ hy))
theorem jc {α:Type}(d:α)(l:List α):(List.range l.length).map (fun i=>l.getD i d)=l:=by
 apply List.ext_getElem?
 intro i;rw[List.getElem?_map]
 by_cases hi:i<l.length
 ·rw[List.getElem?_range hi];simp[hi]
 ·rw[List.getElem?_eq_none (by simp;omega),List.getElem?_eq_none (by omega)];rfl
theorem qd {X:Cx}(hc:X.calm=true):gF X (.builtin "sorted") (fun xs H Q=>∃ (p:Addr)(ml:List (Int×Int)),xs=[.ref p]/\H p=some (.dT (lL ml))/\ml.Nodup/\ml.length<64 /\
  ∀ (l:Addr)(qs:List (Int×Int))(H':Hp),H l=none->aE H H'->kU H' l qs->qs.Perm ml->qs.Pairwise (fun a b=>Qs.ltP a b=true)->Q (.ref l) H'):=by
 intro pins s σ H xs us Q I r h;obtain⟨p,ml,rfl,hH,nd,h64,q⟩:=h;obtain⟨u,rfl,rx⟩:=eO r;cases rx;obtain⟨hz,lo,ks,rel,o,es,ep,ho,hex,hd,hes,hnd⟩:=(show aT X.prog X.w H s.heap p (.dT (lL ml)) from I.hok p _ hH);have raw:Qs.RawAt s.heap p es ep:=⟨o,ho,hex,hd⟩
 have l1:ks.length=ml.length:=by
  have:=Ej rel;unfold lL at this;rw[D6]at this;exact this.symm
 have l2:es.size=ml.length:=by
  have:=E9 List.length hes;rw[D6,ED]at this;omega
 have tup:∀ i,i<ml.length->H ((ks.map fun x=>x.2.1).getD i 0)=some (.tup [.int (ml.getD i (0,0)).1,.int (ml.getD i (0,0)).2]):=fun i hi=>by
  have hk:ks[i]? = some (ks[i]'(by omega)):=by simp[show i<ks.length by omega]
  have hm:(lL ml)[i]? = some ([Sum.inl (ml[i]).1,Sum.inl (ml[i]).2],V.bl true):=by unfold lL;rw[List.getElem?_map];simp[hi]
  obtain⟨b,hb,e1,e2,e3⟩:=bw rel hm;rw[hk]at hb;cases hb
  have e4:(ks.map fun x=>x.2.1).getD i 0=(ks[i]'(by omega)).2.1:=by simp[show i<ks.length by omega]
  have e5:ml.getD i (0,0)=ml[i]:=by simp[hi]
  rw[e4,e5,e2];rfl
 refine PySem.Calls.call_function_entry kind_sorted plain_sorted entry_sorted (args_sorted1 _) ?_;unfold Builtin.«sorted»;refine D5 (m:=checkCount "sorted" 1 1 _) (Ea (D5 (PySem.W.kdu_collect (A:=X.A.in1) (Qs.raw_src lo) (I.ok.hd hc) raw (by rw[l2,EZ];omega) fun h' tk acc kp hacc=>?_)));have I1:ar X pins σ H { s with heap:=h',toks:=tk }:=I.kept kp
 have al:acc.toList.length=ml.length:=by rw[ED,hacc.1,l2]
 have ea:acc.toList=(ks.map fun x=>x.2.1).map Value.ref:=by
  apply List.ext_getElem?
  intro i
  by_cases hi:i<ml.length
  ·have hv:acc.toList[i]? = some (acc.toList[i]'(by omega)):=by simp[show i<acc.size by rw[hacc.1,l2];exact hi]
   obtain⟨e,he,hk⟩:=hacc.2 i _ (by rw[<-Array.getElem?_toList];exact hv);rw[hv,hk,List.getElem?_map,List.getElem?_map]
   have:es.toList[i]? = some e:=by rw[Array.getElem?_toList];exact he
   rw[hes,List.getElem?_map]at this
   cases ek:ks[i]? with
   | none=>rw[ek]at this;cases this
   | some x =>
    rw[ek]at this;have e2:=Ef this;rw[<-e2];rfl
  ·rw[List.getElem?_eq_none (by omega),List.getElem?_eq_none (by simp;omega)]
 have pa:Paired (Qs.PairAt h') acc.toList ml:=by
  rw[ea,<-jc (0,0) ml,<-jc 0 (ks.map fun x=>x.2.1),D6,l1,EH];refine ic _ fun i hi=>?_
  have hi:i<ml.length:=by simpa using hi
  obtain⟨_,its,rv,ob,hob,hcl,n,hdt⟩:=(show aT X.prog X.w H h' _ (.tup _) from I1.hok _ _ (tup i hi))
  cases rv with
  | cons r1 r2 =>
   cases r2 with
   | cons r3 r4 =>
    cases r4;obtain⟨t,rfl⟩:=r1;obtain⟨t',rfl⟩:=r3;exact⟨_,ob,n,t,t',rfl,hob,hcl,hdt⟩
 refine D5 (wpAny_newList ?_ (by rw[al,EZ];omega));have hoL:(h'.push (seqObj "list" acc.toList.toArray 0)).get? h'.objs.size=some (seqObj "list" acc.toList.toArray 0):=Heap.get?_push_size _ rfl;have eR:Paired (Qs.PairAt (h'.push (seqObj "list" acc.toList.toArray 0))) acc.toList ml:=Paired.mapP pa fun v x ⟨b,ob,n,t,t',e,hb,hc',hd'⟩=>⟨b,ob,n,t,t',e,Heap.get?_push_of_some _ hb,hc',hd'⟩;refine D5 (EK (FE slot_list_sort ⟨_,hoL,rfl⟩ entry_list_sort (Qs.sort_pairs hoL eR nd (by rw[al];exact h64) fun out so=>⟨_,rfl,?_⟩) (args_list_sort _)));refine Ea ⟨_,rfl,?_⟩;obtain⟨ix,hx,hout,hso⟩:=so;rw[al]at hx
 have hin:∀ i∈ix,i<ml.length:=fun i hi=>by have:=hx.mem_iff.mp hi;simpa using this
 have eo:out=(ix.map fun i=>(ks.map fun x=>x.2.1).getD i 0).map Value.ref:=by
  rw[hout,EH];refine ET fun i hi=>?_;have:=hin i hi;rw[ea]
  show ((ks.map fun x=>x.2.1).map Value.ref).getD i Value.none=Value.ref ((ks.map fun x=>x.2.1).getD i 0)
  simp[show i<ks.length by omega]
 obtain⟨e,he⟩:=sortedHeap_at (vs:=acc.toList) (out:=out.toArray) hoL
 have hl2:out.length=ml.length:=by rw[eo,D6,D6,hx.length_eq,List.length_range]
 have vr:∀ l:List Addr,aL (l.map V.ref) (l.map Value.ref):=fun l=>by
  induction l with
  | nil=>exact .nil
  | cons a l ih=>exact .cons rfl ih
 have fr:=I1.hok.fresh (D9 h'.objs.size);refine⟨.ref h'.objs.size,_,I1.laid (t':=tk) (a:=h'.objs.size) (o:=.lst ((ix.map fun i=>(ks.map fun x=>x.2.1).getD i 0).map V.ref)) (fun b ob eb=>?_) (D9 _) ⟨?_,out,e,?_,by simpa using he⟩,rfl,?_⟩
 ·rw[sortedHeap_old (Em (Eg eb)) (by rw[size_push'];exact Ft (Eg eb))]
  exact Heap.get?_push_of_some _ eb
 ·rw[D6,D6,hx.length_eq,List.length_range,EZ];omega
 ·rw[eo];exact vr _
 ·refine q h'.objs.size (ix.map fun i=>ml.getD i (0,0)) _ fr (ah fr) ⟨_,ac,?_⟩ ?_ hso
  ·refine ic ix fun i hi=>(ah fr) _ _ (tup i (hin i hi))
  ·have:=hx.map fun i=>ml.getD i (0,0)
   rwa [jc]at this
end Wz
namespace L2
open PySem PySem.Spec PyProof.Rows
theorem ar.thaw {X:Cx}{pins:List (Addr×Obj)}{σ:St}{H:Hp}{s:Shared}{d:Addr}{o:Obj}{u:HO}(I:ar X pins σ H s)(hd:H d=some (.frz o u))(h0:∀ o' u',X.H₀ d≠some (.frz o' u')):ar X pins σ (upd H d u) s:=by
 have up:∀ b,upd H d u b=none->H b=none:=fun b e=>by
  by_cases hb:b=d
  ·rw[hb,ac]at e;cases e
  ·rw[ae hb]at e;exact e
 have dn:∀ b,H b=none->upd H d u b=none:=fun b e=>by rw[ae (fun z=>by rw[z,hd]at e;cases e)];exact e
 have ne:∀ b v,H b=some v->(∀ o' u',v≠.frz o' u')->b≠d:=fun b v e n z=>by rw[z,hd]at e;exact n _ _ (Ef e).symm
 refine⟨I.ok,I.os,I.bare,⟨I.base.keep,I.base.slot,fun b ob e n hx=>dn _ (I.base.free b ob e n hx),I.base.there,fun b xs e=>?_,fun b ob v e=>?_,fun b ps e=>?_⟩,I.loc,I.cell,dn _ I.free,fun x c e=>dn _ (I.freeC x c e),fun p hp=>?_,fun b ob e=>?_,I.len⟩
 ·have e1:=I.base.tups b xs e
  rw[ae (ne b _ e1 (fun _ _ z=>by cases z))];exact e1
 ·have nb:b≠d:=fun z=>h0 ob v (by rw[<-z];exact e)
  rw[ae nb];exact I.base.frzs b ob v e
 ·obtain⟨more,e1⟩:=I.base.tbls b ps e
  exact⟨more,by rw[ae (ne b _ e1 (fun _ _ z=>by cases z))];exact e1⟩
 ·obtain⟨a1,a2,a3⟩:=I.pin p hp
  exact⟨a1,dn _ a2,a3⟩
 ·have tr:∀ v,aT X.prog X.w H s.heap b v->aT X.prog X.w (upd H d u) s.heap b v:=fun v x=>x.stay (fun c w' hc q=>q) (fun c q=>(by rw[ae (ne c _ q (fun _ _ z=>by cases z))];exact q)) (fun c y q=>(by rw[ae (ne c _ q (fun _ _ z=>by cases z))];exact q))
  by_cases hb:b=d
  ·rw[hb,ac]at e
   cases e;obtain⟨_,x⟩:=(show aT X.prog X.w H s.heap d (.frz o u) from I.hok d _ hd);rw[hb];rw[hb]at tr;exact tr u x
  ·rw[ae hb]at e
   exact tr ob (I.hok b ob e)
def CB (H0:Hp)(nx:St->Hp->Prop):St->Hp->Prop:=fun σ H=>∃ d o u,H d=some (.frz o u)/\(∀ o' u',H0 d≠some (.frz o' u'))/\nx σ (upd H d u)
theorem zM {X:Cx}{st:Stmt}{t:TS}(h:PS X st t):PS X st (fun D σ H=>t { D with nx:=CB X.H₀ D.nx } σ H):=by
 intro pins s σ H D I ht;refine aU (h pins s σ H _ I ht) fun f s' hq=>?_
 cases f with
 | next=>obtain⟨σ',H',I',d,o,u,hd,h0,q⟩:=hq;exact⟨σ',_,I'.thaw hd h0,q⟩
 | brk=>exact hq
 | cont=>exact hq
 | ret v=>exact hq
end L2
namespace Wz
open PySem L2
structure sZ (L:List Int)(st:bI):Prop where
 kn:(st.circ.map (·.1)).Nodup
 kl:∀ x∈st.circ,x.1∈L/\x.2.Nodup/\∀ b∈x.2,b∈L
theorem C2 {L:List Int}:sZ L ⟨[],[],[],[]⟩:=⟨FP,fun x h=>by cases h⟩
theorem yU {L ks:List Int}{b:Int}(h:ks.Nodup/\∀ x∈ks,x∈L)(hb:b∈L):(iK ks b).Nodup/\∀ x∈iK ks b,x∈L:=by
 unfold iK;split
 ·exact h
 ·rename_i n
  refine⟨lM h.1 n,fun x hx=>?_⟩;rcases EA.mp hx with z | z
  ·exact h.2 x z
  ·rw[Et.mp z];exact hb
theorem pW {L:List Int}{a b:Int}(ha:a∈L)(hb:b∈L):∀ {ci:List (Int×List Int)},(ci.map (·.1)).Nodup->(∀ x∈ci,x.1∈L/\x.2.Nodup/\∀ y∈x.2,y∈L) ->
  ((bu ci a b).map (·.1)).Nodup/\(∀ x∈bu ci a b,x.1∈L/\x.2.Nodup/\∀ y∈x.2,y∈L)/\∀ k,k∈(bu ci a b).map (·.1)->k∈ci.map (·.1)\/k=a
 | [],_,_=>by
  refine⟨by simp[bu],fun x hx=>?_,fun k hk=>?_⟩
  ·simp[bu]at hx
   subst hx;exact⟨ha,by simp,fun y hy=>by simp at hy;rw[hy];exact hb⟩
  ·simp[bu]at hk
   exact .inr hk
 | x::r,hn,hl=>by
  rw[Er,EI]at hn;unfold bu
  by_cases h:x.1=a
  ·rw[D8 h]
   refine⟨by rw[Er,EI];exact hn,fun y hy=>?_,fun k hk=>.inl (by simpa using hk)⟩;rcases Eh.mp hy with z | z
   ·subst z
    obtain⟨h1,h2,h3⟩:=hl x Ec;exact⟨h1,yU ⟨h2,h3⟩ hb⟩
   ·exact hl y (Eb _ z)
  ·rw[D7 h]
   obtain⟨i1,i2,i3⟩:=pW ha hb (ci:=r) hn.2 (fun y hy=>hl y (Eb _ hy));refine⟨?_,fun y hy=>?_,fun k hk=>?_⟩
   ·rw[Er,EI]
    refine⟨fun z=>?_,i1⟩;rcases i3 _ z with z | z
    ·exact hn.1 z
    ·exact h z
   ·rcases Eh.mp hy with z | z
    ·subst z;exact hl _ Ec
    ·exact i2 y z
   ·rw[Er]at hk
    rcases Eh.mp hk with z | z
    ·exact .inl (by rw[z];simp)
    ·rcases i3 k z with z | z
     ·exact .inl (Eb _ z)
     ·exact .inr z
theorem xi {L:List Int}{st:bI}{d:au}(h:sZ L st)(hn:∀ g∈names d,g∈L):sZ L (bt st d):=by
 unfold bt;split
 ·cases d with
  | come g=>exact⟨h.kn,h.kl⟩
  | go g=>exact⟨h.kn,h.kl⟩
  | exch a b =>
   have ha:=hn a (by simp[names]);have hb:=hn b (by simp[names]);obtain⟨j1,j2,_⟩:=pW ha hb h.kn h.kl;obtain⟨k1,k2,_⟩:=pW hb ha j1 j2;exact⟨k1,k2⟩
 ·exact h
theorem qa {L:List Int}{a:Int}:∀ {ci:List (Int×List Int)},(∀ x∈ci,x.1∈L/\x.2.Nodup/\∀ y∈x.2,y∈L)->(f9 ci a).Nodup/\(∀ y∈f9 ci a,y∈L)/\∀ y,y∈f9 ci a->a∈ci.map (·.1)
 | [],_=>⟨FP,(fun y h=>by cases h),fun y h=>by cases h⟩
 | x::r,hl=>by
  unfold f9
  by_cases h:x.1=a
  ·rw[D8 h]
   obtain⟨_,h2,h3⟩:=hl x Ec;exact⟨h2,h3,fun y _=>by rw[<-h];simp⟩
  ·rw[D7 h]
   obtain⟨i1,i2,i3⟩:=qa (ci:=r) (a:=a) fun y hy=>hl y (Eb _ hy);exact⟨i1,i2,fun y hy=>Eb _ (i3 y hy)⟩
theorem sZ.cl {L:List Int}{st:bI}(h:sZ L st)(a:Int):(f9 st.circ a).length<=L.length:=by obtain⟨h1,h2,_⟩:=qa (a:=a) h.kl;exact fS h1 h2
theorem sZ.kk {L:List Int}{st:bI}(h:sZ L st):st.circ.length<=L.length:=by
 have:=fS h.kn (m:=L) fun x hx=>by obtain⟨y,hy,e⟩:=Ez.mp hx;rw[<-e];exact (h.kl y hy).1
 rwa [D6]at this
def cJ (ci:List (Int×List Int))(a:Int):List (Int×Int):=((bB (f9 ci a)).filter fun b=>decide (a<b)).map fun b=>(a,b)
def cV (ci:List (Int×List Int)):List (Int×Int):=(bB (ci.map (·.1))).flatMap (cJ ci)
structure oz (ml:List (Int×Int)):Prop where
 nd:ml.Nodup
 lo:∀ p∈ml,p.1<p.2
theorem DT:oz []:=⟨FP,fun p h=>by cases h⟩
theorem zr {st:bI}{ml:List (Int×Int)}(h:oz ml)(d:au):oz (fR st ml d):=by
 unfold fR;split
 ·rename_i hj
  cases d with
  | come g=>exact h
  | go g=>exact h
  | exch a b =>
   have hab:a≠b:=fun e=>by
    subst e
    cases e:look st.worn a with
    | none=>simp[aK,e]at hj
    | some m=>simp[aK,e]at hj
   show oz (mf ml (dS a b))
   unfold mf;split
   ·exact h
   ·rename_i n
    refine⟨?_,fun p hp=>?_⟩
    ·rw[List.nodup_append]
     exact⟨h.nd,by simp,fun x hx y hy e=>n (by rw[Et.mp hy]at e;rw[<-e];exact hx)⟩
    ·rcases EA.mp hp with z | z
     ·exact h.lo p z
     ·rw[Et.mp z]
      unfold dS;split
      ·assumption
      ·show a<b
       omega
 ·exact h
theorem jE {L:List Int}{st:bI}(h:sZ L st):(cV st.circ).Pairwise fun a b=>Qs.ltP a b=true:=by
 have ss:∀ l:List Int,l.Nodup->(bB l).Pairwise (· < ·):=fun l nd=>by
  have h1:=uG l;have h2:(bB l).Nodup:=(uH l).nodup_iff.mpr nd
  exact (h1.and h2).imp fun {a b} ⟨x,y⟩=>by have:a≠b:=y;omega
 unfold cV;rw[List.pairwise_flatMap];refine⟨fun a ha=>?_,(ss _ h.kn).imp fun {a b} hab x hx y hy=>?_⟩
 ·unfold cJ
  rw[List.pairwise_map];refine ((ss _ (qa h.kl).1).filter _).imp fun {x y} hxy=>?_;unfold Qs.ltP;exact Ee (.inr ⟨rfl,hxy⟩)
 ·unfold cJ at hx hy
  obtain⟨x',_,rfl⟩:=Ez.mp hx;obtain⟨y',_,rfl⟩:=Ez.mp hy;unfold Qs.ltP;exact Ee (.inl hab)
theorem pK {L:List Int}{st:bI}{ml:List (Int×Int)}(h:sZ L st)(al:kK st ml)(ok:oz ml)(p:Int×Int):p∈cV st.circ↔p∈ml:=by
 obtain⟨a,b⟩:=p
 have hm:b∈f9 st.circ a↔dS a b∈ml:=by
  have:=al a b;unfold gP mU at this;constructor
  ·intro z;rw[Ee z]at this;exact ER this.symm
  ·intro z;rw[Ee z]at this;exact ER this
 unfold cV;rw[List.mem_flatMap];constructor
 ·rintro⟨a',ha',hb⟩
  unfold cJ at hb;obtain⟨b',hb',e⟩:=Ez.mp hb;cases e;obtain⟨h1,h2⟩:=List.mem_filter.mp hb';have h2:=ER h2;have:=hm.mp (kj.mp h1);unfold dS at this;rw[D7 (by omega)]at this;exact this
 ·intro hp
  have hlt:=ok.lo _ hp;have hb:b∈f9 st.circ a:=hm.mpr (by unfold dS;rw[D7 (by show ¬ b<a;have:a<b:=hlt;omega)];exact hp);refine⟨a,kj.mpr ((qa h.kl).2.2 b hb),?_⟩;unfold cJ;exact Ez.mpr ⟨b,List.mem_filter.mpr ⟨kj.mpr hb,Ee hlt⟩,rfl⟩
theorem xY {L:List Int}{st:bI}{ml qs:List (Int×Int)}(h:sZ L st)(al:kK st ml)(ok:oz ml)(hp:qs.Perm ml)(hs:qs.Pairwise fun a b=>Qs.ltP a b=true):cV st.circ=qs:=by
 have p1:=jE h
 have irr:∀ a b:Int×Int,Qs.ltP a b=true->a≠b:=fun a b z e=>by rw[e,Qs.ltP_irr]at z;cases z
 have nd1:(cV st.circ).Nodup:=p1.imp fun {a b} z=>irr a b z;have nd2:qs.Nodup:=hp.nodup_iff.mpr ok.nd
 have pm:(cV st.circ).Perm qs:=(List.perm_ext_iff_of_nodup nd1 nd2).mpr fun x=>by rw[pK h al ok,hp.mem_iff]
 exact pm.eq_of_pairwise (fun a b _ _ z1 z2=>by have:=Qs.ltP_tr z1 z2;rw[Qs.ltP_irr]at this;cases this) p1 hs
inductive gu (C:Addr) (vs:List V) (H:Hp) (Q:VK) (E_:XK):Prop
 | mk (p:Addr) (A:HA) (st:bI) (g:Int) (h_0:vs=[.ref p,.int g]) (h_1:aJ C H p A st) (h_2:(f9 st.circ g).length<64) (h_3:∀ (l:Addr)(H':Hp),H l=none->aE H H'->H' l=some (.lst ((bB (f9 st.circ g)).map V.int))->Q (.ref l) H'):gu C vs H Q E_
inductive jR (C:Addr) (vs:List V) (H:Hp) (Q:VK) (E_:XK):Prop
 | mk (p:Addr) (A:HA) (st:bI) (L:List Int) (h_0:vs=[.ref p]) (h_1:aJ C H p A st) (h_2:sZ L st) (h_3:L.length<64) (h_4:(cV st.circ).length<=1000) (h_5:∀ (l:Addr)(H':Hp),H l=none->aE H H'->kU H' l (cV st.circ)->Q (.ref l) H'):jR C vs H Q E_
end Wz
namespace L2
open PySem PySem.Spec PyProof.Rows
inductive Ck (neg:Bool) (x:V) (y:V) (H:Hp) (Q:VK):Prop
 | mk (a b:Bool) (h_0:x=.bl a) (h_1:y=.bl b) (h_2:Q (.bl (if neg then !decide (a=b) else decide (a=b))) H):Ck neg x y H Q
theorem wA {X:Cx}:js X (compareOp .IsNot) (Ck true):=by
 intro pins s σ H x y v u Q I rx ry h;obtain⟨a,b,rfl,rfl,q⟩:=h;cases rx;cases ry;refine wpAny_isNot_plain rfl ⟨.bl _,H,I,?_,q⟩;cases a<;>cases b<;>rfl
theorem x9 {X:Cx}{tg:Expr}(K:PySem.W.Frag){l:Expr}{tl:TE}(hl:PE X l tl)(hK:X.K=K:=by rfl):PI X tg l (Ac K tl):=by subst hK;exact du hl
theorem yw {wi1:TI}{g1:TG}{tt1:TT}{te:TE}{a:Addr}{D:fg}{σ:St}{H:Hp}(h:wi1 σ H fun J1 H2=>kT J1 g1 (yP tt1 te a) { nx:=D.nx,rt:=fun _ _=>False } σ H2):Bt uJ wi1 g1 tt1 te a D σ H:=by
 unfold Bt uJ;dsimp only;rw[D8 rfl];exact h
end L2
namespace Wz
open PySem L2
inductive jV (c:HX) (vs:List V) (H:Hp) (Q:VK) (E_:XK):Prop
 | mk (p w m ls:Addr) (A:HA) (st:bI) (ml:List (Int×Int)) (L:List Int) (h_0:vs=[.ref p,.ref w,.ref m,.ref ls]) (h_1:aJ c.C H p A st) (h_2:w∉A.fp) (h_3:H w=some (.dK (dk st.worn))) (h_4:H m=some (.dT (lL ml))) (h_5:bE H ls st.deeds) (h_6:gK st) (h_7:kK st ml) (h_8:sZ L st) (h_9:oz ml) (h_10:L.length<64) (h_11:ml.length<64) (h_12:st.worn.length<64) (h_13:(∀ g∈aH st.worn,bF g)) (h_14:∀ H',aE H H'->Q (.bl true) H'):jV c vs H Q E_
theorem zf {i j c:Int}(hi:0<=i/\i<100)(hj:0<=j/\j<100)(h:jv i c=jv j c):i=j:=by
 have ht0:0<=cB c*1234567891%2147483646:=EJ _ (by decide);have ht1:cB c*1234567891%2147483646<2147483646:=EF _ (by decide);unfold jv at h;dsimp only at h;generalize cB c*1234567891%2147483646=t0 at *;generalize cB c/2147483646=q at *
 have h2:(i*(1+t0)+q)%2147483647=(j*(1+t0)+q)%2147483647:=by
  by_cases e:cB c%5=4
  ·rw[D8 e,D8 e]at h;omega
  ·rw[D7 e,D7 e]at h;exact h
 have h3:(2147483647:Int) ∣ (i-j)*(1+t0):=by
  have h5:=Int.dvd_of_emod_eq_zero (Int.emod_eq_emod_iff_emod_sub_eq_zero.mp h2)
  have e:i*(1+t0)+q-(j*(1+t0)+q)=(i-j)*(1+t0):=by rw[Int.sub_mul];omega
  rw[e]at h5;exact h5
 have key:∀ d:Nat,d<100->d≠0->Nat.gcd 2147483647 d=1:=by decide +kernel
 by_cases hij:i=j
 ·exact hij
 exfalso
 have h6:2147483647 ∣ (i-j).natAbs*(1+t0).natAbs:=by
  have:=Int.natAbs_dvd_natAbs.mpr h3;rw[Int.natAbs_mul]at this;exact this
 have h7:2147483647 ∣ (1+t0).natAbs:=Nat.Coprime.dvd_of_dvd_mul_left (key _ (by omega) (by omega)) h6;have:=Nat.le_of_dvd (by omega) h7;omega
inductive qZ (vs:List V) (H:Hp) (Q:VK) (E_:XK):Prop
 | mk (k c:Int) (h_0:vs=[.int k,.int c]) (h_1:(0<=k/\k<=1000)) (h_2:Q (.int (jv (60+k) c)) H):qZ vs H Q E_
theorem uj {m c g:Int}(h:g∈aO m c):∃ k:Int,(0<=k/\k<m)/\g=jv k c:=by
 unfold aO at h;obtain⟨k,hk,rfl⟩:=Ez.mp h;have:=FC.mp hk;exact⟨k,by omega,rfl⟩
theorem tS {k m c:Int}(hm:m<=k)(hk:k<100)(h0:0<=k):jv k c∉aO m c:=fun z=>by
 obtain⟨j,hj,e⟩:=uj z;have:=zf ⟨h0,hk⟩ ⟨hj.1,by omega⟩ e;omega
theorem xK {st:bI}{L:List Int}{g:Int}(o:Of L st)(h:g∉L):look st.worn g=none:=by
 cases e:look st.worn g with
 | none=>rfl
 | some m=>exact absurd (o.1 g (cE.mp (by rw[e];rfl))) h
end Wz
namespace L2
open PySem PySem.Spec PyProof.Rows
theorem BS (xs:List V):dM xs (some 1) none=xs.drop 1:=by
 unfold dM;rw[show HT.sIx xs.length 0 (some 1)=min 1 xs.length from HT.sIx_nat _ _ 1,HT.sIx_none]
 by_cases h:xs=[]
 ·subst h;rfl
 ·have:0<xs.length:=List.length_pos_iff.mpr h
  rw[show min 1 xs.length=1 by omega,Fx (by rw[Fk];omega)]
theorem vQ {X:Cx}:gF X (.builtin "isinstance") (fun xs H Q=>∃ x C t b,xs=[x,.ref C]/\jt X.K H x t/\PySem.W.kitOne X.K t (.ref C)=some b/\Q (.bl b) H):=by
 intro pins s σ H xs us Q I r h;obtain⟨x,C,t,b,rfl,ty,e,q⟩:=h
 cases r with
 | cons rx r2 =>
  cases r2 with
  | cons rt r3 =>
   cases r3;cases rt;exact v2 I rx ty e fun tk=>⟨.bl b,H,I.tok tk,rfl,q⟩
end L2
namespace Wz
open PySem L2
theorem rE (xs:List V)(n:Nat):dM xs (some (n:Int)) none=xs.drop n:=by
 unfold dM;rw[HT.sIx_nat,HT.sIx_none]
 by_cases h:n<=xs.length
 ·rw[Nat.min_eq_left h,Fx (by rw[Fk];exact D9 _)]
 ·rw[Nat.min_eq_right (by omega),List.drop_length,List.drop_of_length_le (by omega)];simp
theorem yX (xs:List V):dM xs none (some (-1))=xs.dropLast:=by
 unfold dM;rw[HT.sIx_none,List.drop_zero,Nat.sub_zero,List.dropLast_eq_take]
 congr 1
 unfold HT.sIx;dsimp only;rw[D8 (by decide)];omega
end Wz
namespace L2
open PySem PySem.Spec PyProof.Rows
theorem vo {X:Cx}{pos:Pos}(K:PySem.W.Frag){es:List Expr}{k:Nat}{t:yK}{n:Nat}(hc:X.calm=true)(h:BL X es t)(hK:X.K=K:=by rfl)
  (hn:(assignEach es X.env).length=n:=by rfl) (hst:(assignEach es X.env).findIdx? (·.1)=none:=by rfl):PG X (.Tuple es k pos) (BY K n t):=by
 subst hK;exact kA hc h hn hst
end L2
namespace Wz
open PySem L2
theorem tK (xs:List V)(n:Nat):dM xs none (some (n:Int))=xs.take n:=by
 unfold dM;rw[HT.sIx_none,HT.sIx_nat,List.drop_zero,Nat.sub_zero]
 by_cases h:n<=xs.length
 ·rw[Nat.min_eq_left h]
 ·rw[Nat.min_eq_right (by omega),Fx (by omega),Fx (by omega)]
end Wz
namespace L2
open PySem
theorem bN.m {j k:Nat}{A:Around}(r:bN k A)(h:j<=k:=by decide):bN j A:=r.mono h
theorem fT {X:Cx}{e:Expr}{t:TE}(h:PE X e t)(hs:starEach [e] X.env=(false,eval e X.env)::starEach [] X.env:=by rfl):PA X [e] (i6 t lF):=ak h aF hs
theorem eR {X:Cx}{e e2:Expr}{t t2:TE}(h:PE X e t)(h2:PE X e2 t2)(hs:starEach [e,e2] X.env=(false,eval e X.env)::starEach [e2] X.env:=by rfl)(hs2:starEach [e2] X.env=(false,eval e2 X.env)::starEach [] X.env:=by rfl):PA X [e,e2] (i6 t (i6 t2 lF)):=ak h (ak h2 aF hs2) hs
theorem w9 {X:Cx}{e e2 e3:Expr}{t t2 t3:TE}(h:PE X e t)(h2:PE X e2 t2)(h3:PE X e3 t3)(hs:starEach [e,e2,e3] X.env=(false,eval e X.env)::starEach [e2,e3] X.env:=by rfl)(hs2:starEach [e2,e3] X.env=(false,eval e2 X.env)::starEach [e3] X.env:=by rfl)(hs3:starEach [e3] X.env=(false,eval e3 X.env)::starEach [] X.env:=by rfl):PA X [e,e2,e3] (i6 t (i6 t2 (i6 t3 lF))):=ak h (ak h2 (ak h3 aF hs3) hs2) hs
theorem bp {X:Cx}{pos:Pos}(i:Nat){x:Str}{e:Expr}{te:TE}{pos':Pos}(hN:X.N.Nodup)(he:PE X e te)(hi:X.N[i]? = some x:=by rfl)(hx:z9 X.env.scope x:=by first | exact Or.inl rfl | exact Or.inr rfl)(hs:swapsWith e (some (.Name x pos')) pos.line X.env=pure false:=by rfl)(hf:X.fn x=true\/X.env.scope.names.lookup x=some .local:=by first | exact .inl rfl | exact .inr rfl | assumption) :
  PS X (.Assign [.Name x pos'] e pos) (Bj te (mG i)):=cx hN hi hx he hs hf
theorem k8 {X:Cx}{pos:Pos}(i:Nat){x:Str}(hN:X.N.Nodup)(hi:X.N[i]? = some x:=by rfl)(hx:z9 X.env.scope x:=by first | exact Or.inl rfl | exact Or.inr rfl)(hf:X.fn x=true\/X.env.scope.names.lookup x=some .local:=by first | exact .inl rfl | exact .inr rfl | assumption):PG X (.Name x pos) (mG i):=jG hN hi hx hf
theorem yW {so sc:Scope}{N N':List Str}{src:List (Option Nat)}(a:sc.kind=.function:=by rfl)(b:∀ y∈sc.names,y.2≠.cell:=by decide +kernel)(c:∀ y∈sc.names,y.2=.local->sc.names.lookup y.1=some .local:=by decide +kernel)(d:∀ y∈sc.names,y.2=.free->so.names.lookup y.1=some .cell\/so.names.lookup y.1=some .free:=by decide +kernel)(e:N'.Nodup:=by decide +kernel)(f:src.length=N'.length:=by rfl)
  (g:∀ p∈N'.zip src,(match p.2 with | none=>true | some j=>decide (N[j]? = some p.1/\sc.names.lookup p.1=some .free))=true:=by decide +kernel):rk so sc N N' src:=⟨a,b,c,d,e,f,g⟩
theorem fM {N P:List Str}{sc:Scope}(a:sc.kind=.function:=by rfl)(b:sc.isCoroutine=false:=by rfl)(c:sc.isGenerator=false:=by rfl)(d:N.Nodup:=by decide +kernel)(e:N.take P.length=P:=by rfl)(f:∀ x∈P,sc.names.lookup x=some .local\/sc.names.lookup x=some .cell:=by decide +kernel)(g:∀ y∈sc.names,y.2≠.free:=by decide +kernel):ay N P sc:=⟨a,b,c,d,e,f,g⟩
end L2
namespace Wz
open PySem L2
def bh (K:PySem.W.Frag)(x:Str)(st:Stmt):Prop:=∃ (f:Addr)(fd:FuncData),PySem.W.nsIn K mainGlobals x=some (some (.ref f))/\dB K x x st f fd
theorem fact_mk {K:PySem.W.Frag}{x:Str}{st:Stmt}{f:Addr}{oc:Value}{od an:Option Addr}{osl:Array (Option Value)}{kV doc pm cdv ct:Value}(a:PySem.W.nsIn K mainGlobals x=some (some (.ref f)))(l:K.lookup f=some ⟨oc,od,.func (PySem.W.fnOf x x (dR st) (cR st) (am st) .none kV doc pm an cdv ct),osl⟩)
  (c:PySem.W.codeIn K cdv x=true) (k:PySem.W.keepIn K (.ref f)=true):bh K x st:=⟨f,_,a,xy l c k⟩
def bU (K:PySem.W.Frag)(C:Addr)(m q:Str)(st:Stmt):Prop:=∃ (f:Addr)(fd:FuncData),PySem.W.findIn K (.ref C) m=some (some (.ref f))/\PySem.W.isFn K (.ref f)=true/\dB K m q st f fd
theorem mfact_mk {K:PySem.W.Frag}{C:Addr}{m q:Str}{st:Stmt}{f:Addr}{oc:Value}{od an:Option Addr}{osl:Array (Option Value)}{kV doc pm cdv ct:Value}(a:PySem.W.findIn K (.ref C) m=some (some (.ref f)))(i:PySem.W.isFn K (.ref f)=true)(l:K.lookup f=some ⟨oc,od,.func (PySem.W.fnOf m q (dR st) (cR st) (am st) .none kV doc pm an cdv ct),osl⟩)
  (c:PySem.W.codeIn K cdv q=true) (k:PySem.W.keepIn K (.ref f)=true):bU K C m q st:=⟨f,_,a,i,xy l c k⟩
section
variable {P:Program}{w:World}{K:PySem.W.Frag}{h base:Heap}{mg:Str->Option Value}{x m q:Str}{st:Stmt}{k:Nat}{ps:List Str}{sp:Sp}{C:Addr}{CX:sY}
theorem BC {n:Nat}{P:List Value->Prop}(h:∀ (a:Value)(vs:List Value),vs.length=n->P (a::vs)):∀ us:List Value,us.length=n+1->P us
 | a::vs,e=>h a vs (Nat.succ.inj e)
theorem BB {P:List Value->Prop}(h:P []):∀ us:List Value,us.length=0->P us
 | [],_=>h
theorem oE (X:K.In h)(G:h.Ns mainGlobals mg)(F:bh K x st)(ok:∀ f fd,dB K x x st f fd->aV P w K mg base cz k f fd ps sp)
  (hb:∀ (kV doc pm:Value)(an:Option Addr)(cdv ct:Value)(us:List Value),us.length=ps.length->bindArgs (PySem.W.fnOf x x (dR st) (cR st) (am st) .none kV doc pm an cdv ct) ⟨us,[]⟩=pure (ps.zip us):=by intro _ _ _ _ _ _;(repeat refine BC fun _=>?_);exact BB rfl):aA P w K mg base x k ps sp:=by
 obtain⟨f,fd,a,g⟩:=F;exact⟨f,fd,ok f fd g,ES X G a,g.kp,g.binds hb⟩
theorem DG (X:K.In h)(G:h.Ns mainGlobals mg)(F:bh K x st)(ok:∀ f fd,dB K x x st f fd->aV P w K mg base (iN P w) k f fd ps sp)
  (hb:∀ (kV doc pm:Value)(an:Option Addr)(cdv ct:Value)(us:List Value),us.length=ps.length->bindArgs (PySem.W.fnOf x x (dR st) (cR st) (am st) .none kV doc pm an cdv ct) ⟨us,[]⟩=pure (ps.zip us):=by intro _ _ _ _ _ _;(repeat refine BC fun _=>?_);exact BB rfl):f8 P w K mg base x k ps sp:=by
 obtain⟨f,fd,a,g⟩:=F;exact⟨f,fd,ok f fd g,ES X G a,g.kp,g.binds hb⟩
theorem vc (F:bU K C m q st)(ok:∀ f fd,dB K m q st f fd->aV P w K mg base CX k f fd ps sp)
  (hb:∀ (kV doc pm:Value)(an:Option Addr)(cdv ct:Value)(us:List Value),us.length=ps.length->bindArgs (PySem.W.fnOf m q (dR st) (cR st) (am st) .none kV doc pm an cdv ct) ⟨us,[]⟩=pure (ps.zip us):=by intro _ _ _ _ _ _;(repeat refine BC fun _=>?_);exact BB rfl):aG P w K mg base CX C m k ps sp:=by
 obtain⟨f,fd,a,i,g⟩:=F;exact⟨f,fd,ok f fd g,⟨a,i,g.kp⟩,g.binds hb⟩
end
end Wz
namespace L2
open PySem PySem.Spec PyProof.Rows
theorem pF {i:Int}(h:i.natAbs<10 ^ 100):i.natAbs.log2<1920:=by
 by_cases h0:i.natAbs=0
 ·rw[h0];decide
 ·rw[Nat.log2_lt h0]
  exact Nat.lt_trans h (by decide +kernel)
theorem xg {X:Cx}:gF X (.type "str") (fun xs H Q=>(∃ s,xs=[.str s]/\Q (.str s) H)\/∃ i:Int,xs=[.int i]/\i.natAbs<10 ^ 100/\Q (.str (Str.ofString (toString i))) H):=by
 intro pins s σ H xs us Q I r h;rcases h with ⟨z,rfl,q⟩ | ⟨i,rfl,hi,q⟩
 ·obtain⟨u,rfl,rx⟩:=eO r
  obtain⟨t,rfl⟩:=rx;exact P.str_of_str ⟨.str z,H,I,⟨t,rfl⟩,q⟩
 ·obtain⟨u,rfl,rx⟩:=eO r
  obtain⟨t,rfl⟩:=rx;exact P.str_of_int (pF hi) ⟨.str _,H,I.tok _,⟨_,rfl⟩,q⟩
theorem pQ:∀ {ts:List Str}{its:List Value},aL (ts.map V.str) its->∃ l:List (Str×Tok),its=strValues l/\l.map (·.1)=ts
 | [],its,r=>by
  have:=r.length;refine⟨[],?_,rfl⟩;exact List.eq_nil_of_length_eq_zero this.symm
 | t::ts,its,r=>by
  cases r with
  | cons rx rt =>
   obtain⟨l,e1,e2⟩:=pQ rt;obtain⟨k,rfl⟩:=rx;exact⟨(t,k)::l,by rw[e1];rfl,by rw[Er,e2]⟩
def Ah (K:PySem.W.Frag):V->List V->Hp->VK->Prop:=fun x vs H Q=>∃ sep l ts,x=.str sep/\vs=[.ref l]/\be K H l (ts.map V.str)/\JoinOk sep ts=true/\Q (.str (Txt.join sep ts)) H
theorem zv {X:Cx}(K:PySem.W.Frag)(hK:X.K=K:=by rfl):CU X "str.join" (Ah K):=by
 subst hK;intro pins s σ H x xs v us Q I rx rv h;obtain⟨sep,l,ts,rfl,rfl,hq,ok,q⟩:=h;obtain⟨t,rfl⟩:=rx;obtain⟨u,rfl,ru⟩:=eO rv;cases ru;obtain⟨its,rl,pl,hz⟩:=I.list hq;obtain⟨ls,rfl,e⟩:=pQ rl;exact SC.join pl.isList e ok fun t' k=>⟨.str _,H,I.tok _,⟨_,rfl⟩,q⟩
theorem vn {X:Cx}(K:PySem.W.Frag){o e:Expr}{to te:TE}{apos cpos:Pos}(ho:PE X o to)(he:PE X e te)(hK:X.K=K:=by rfl)(hbase:attributeBase o "join" X.env (eval o X.env)=eval o X.env:=by rfl)
  (hfew:((backTo cpos (starEach [e] X.env)).all (fun x=>!x.1)&&(backToKw cpos (keywordEach [] X.env)).all (fun x=>x.1.isSome)&&decide ([e].length+([]:List Keyword).length+(if ([]:List Keyword).isEmpty then 0 else 1)<30))=true:=by rfl)
  (hline:(apos.endLine == cpos.line)=true:=by rfl) (hs:starEach [e] X.env=(false,eval e X.env)::starEach [] X.env:=by rfl) (hplain:(backTo cpos (starEach [] X.env)).any (·.1)=false:=by rfl) :
  PE X (.Call (.Attribute o "join" apos) [e] [] cpos) (Dl K "str" (Ah K) to (i6 te lF)):=by
 subst hK;exact jF PySem.F.plainAttrs_str PySem.F.slot_str_join PySem.F.type_str_join (zv X.K) ho (ak he aF hs) hbase hfew hline hs hplain
end L2
namespace Wz
open PySem L2
def dF (g:Int):Str:=Str.ofString (toString g)
def iq (d:au):List Str:=bA d::(names d).map dF
def bf (d:au):Str:=Txt.join (Str.ofString " ") (iq d)
theorem zA {g:Int}(h:bF g):(dF g).length<=1921:=PyProof.Rows.int_text_len_1921 (pF h)
theorem yD (d:au):(bA d).length<=8:=by
 have h1:(("come" : Str)).length<=8:=by decide +kernel
 have h2:(("go" : Str)).length<=8:=by decide +kernel
 have h3:(("exchange" : Str)).length<=8:=by decide +kernel
 cases d
 ·exact h1
 ·exact h2
 ·exact h3
theorem w8 {d:au}(h:∀ g∈names d,bF g):(∀ y∈iq d,y.length<=1921)/\(iq d).length<=3:=by
 refine⟨fun y hy=>?_,?_⟩
 ·rcases Eh.mp hy with z | z
  ·rw[z];have:=yD d;omega
  ·obtain⟨g,hg,rfl⟩:=Ez.mp z
   exact zA (h g hg)
 ·unfold iq
  rw[Eu,D6];cases d<;>simp[names]
theorem u8 {sep:Str}{ts:List Str}{B:Nat}(h:∀ y∈ts,y.length<=B)(hl:ts.length*B+ts.length*sep.length<=16777216):JoinOk sep ts=true:=by
 unfold JoinOk;rw[StrLaws.joinFits h hl];rfl
inductive qY (vs:List V) (H:Hp) (Q:VK) (E_:XK):Prop
 | mk (t:Addr) (d:au) (h_0:vs=[.ref t]) (h_1:H t=some (bv d)) (h_2:(∀ g∈names d,bF g)) (h_3:∀ H',aE H H'->Q (.str (bf d)) H'):qY vs H Q E_
theorem yF {d:au}(h:∀ g∈names d,bF g):JoinOk (Str.ofString " ") (iq d)=true:=by
 obtain⟨w1,w2⟩:=w8 h
 have e:(Str.ofString " ").length=1:=by decide +kernel
 refine u8 w1 ?_;rw[e];have:(iq d).length*1921<=3*1921:=Nat.mul_le_mul_right _ w2;omega
end Wz
namespace PySem
open Sem (wp)
section
variable {M:Model}{A:Around}{E:Value->Shared->Prop}{s:Shared}{env:Env}
def Bz (M:Model)(A:Around)(E:Value->Shared->Prop)(use:Option (Value->Sem Unit))(Q:Value->Shared->Prop)(acc:Value)(C:Addr)(fr:Option Addr)(r:Result)(s':Shared):Prop :=
 match r,use with
 | .ok _,none=>∃ m,s'.heap.Ns C m/\∀ h',Heap.SameBut C s'.heap h'->Q acc { s' with heap:=h' }
 | .ok _,some u=>wpAny M A (u acc) (fun _ s''=>∃ m,s''.heap.Ns C m/\∀ h',Heap.SameBut C s''.heap h'->Q .none { s'' with heap:=h' }) E s'
 | .error x,_=>∃ m,s'.heap.Ns C m/\∀ h',Heap.SameBut C s'.heap h'->∀ cenv:Env,cenv.frame=fr->wpAny M A (passOn "comprehension.variables-let-go" x cenv:Sem Value) (fun _ _=>False) E { s' with heap:=h' }
end
end PySem
namespace L2
open PySem PySem.Spec PyProof.Rows
open AutoSeq1 (wpAny_loadPart')
theorem y6 (a v:Value):checkTypeCall "enumerate" ⟨[a],[("start",v)]⟩=pure ():=by kernel_rfl
theorem AK (a v:Value):checkBuiltinCall "enumerate.__new__" ⟨[.type "enumerate",a],[("start",v)]⟩=pure ():=by kernel_rfl
theorem y4 (o a v:Value):argsOk "object.__init__" ⟨[o,a],[("start",v)]⟩:=by unfold argsOk;kernel_rfl
theorem xu (l:Addr)(items:Array Value)(n:Nat)(dct:Option Addr)(sl:Array (Option Value))(t:Tok) :
  Meets (Builtin.«enumerate.__new__» ⟨[.type "enumerate",.ref l],[("start",.int 1 t)]⟩) (fun _ R s=>s.heap.get? l=some { cls:=.type "list",dict:=dct,data:=.seq items n,slots:=sl } /\
   R (.ok (.ret (.ref (s.heap.push { cls:=.type "list_iterator",data:=.fields #[.ref l,.int 0 0] }).objs.size)))
    { s with heap:=(s.heap.push { cls:=.type "list_iterator",data:=.fields #[.ref l,.int 0 0] }).push { cls:=.type "enumerate",data:=.fields #[.none,.bool false,.ref s.heap.objs.size,rawInt 1,.none,.none] } }) :=
 .of_wp fun prog w A R s h=>by
  obtain⟨hp,g,d,tk,os⟩:=s;obtain⟨hl,h⟩:=h;have hsub:=sub_enumerate;have hL:Heap.IsList (Shared.heap ⟨hp,g,d,tk,os⟩) l items:=⟨_,hl,rfl,n,rfl⟩
  wp_walk using wpAny_loadPart' hl
  refine wpAny_stack_any fun st=>Ea ?_;split
  ·rename_i c _ _ _ _ _
   cases (c == Value.type "enumerate")
   ·wp_walk using wpAny_loadPart' hl,FM hL
    exact⟨_,rfl,h⟩
   ·wp_walk using wpAny_loadPart' hl,FM hL
    exact⟨_,rfl,h⟩
  ·wp_walk using wpAny_loadPart' hl,FM hL
   exact⟨_,rfl,h⟩
section
variable {prog:Program}{w:World}{A:Around}{E:Value->Shared->Prop}{s:Shared}
theorem tM {self a v:Value}:Meets (Builtin.«object.__init__» ⟨[self,a],[("start",v)]⟩) (fun _ R s=>s.TypeIs self "enumerate"/\R (.ok (.ret .none)) s):=by
 refine Meets.of_wp fun prog w A R s hs=>?_;obtain⟨hT,hq⟩:=hs;have hl:=(F.called_enumerate).init.lookup;have hm:=(F.called_enumerate).made
 repeat (any_goals (first | assumption | wp_step))
 exact⟨_,rfl,hq⟩
theorem y3 {l:Addr}{items:Array Value}{t:Tok}{Q:Value->Shared->Prop}(hL:s.heap.IsList l items)
  (h:∀ h',IsEnum h' (s.heap.objs.size+1) s.heap.objs.size 1 .none->h'.IsListIter s.heap.objs.size l 0->(∀ b o,s.heap.get? b=some o->h'.get? b=some o)->Q (.ref (s.heap.objs.size+1)) { s with heap:=h' }) :
  wpAny (model prog w) A (call (.type "enumerate") [.ref l] [("start",.int 1 t)]) Q E s:=by
 obtain⟨⟨c,dct,dt,sl⟩,hl,hc,n,hd⟩:=hL
 replace hc:c=.type "list":=hc
 replace hd:dt=.seq items n:=hd
 subst hc hd;have ft:=F.called_enumerate;obtain⟨c,tl,hmro⟩:=ft.mro;have hmade:=ft.made;have hsub:=ft.sub;refine FR (codeAny_of_tree ?_)
 show wpAny _ _ (callAny (.type "enumerate") _) _ _ _
 refine Ea ⟨Code.quiet_builtin _ (by decide +kernel),codeAny_builtin F.entry_type_call ?_⟩;rw[Around.under_plain (weight_type_call_type _ _ _) (units_type_call_type _ _ _)];have h1:=ft.notType;have h2:=ft.canCreate;have hct:=y6 (.ref l) (.int 1 t)
 repeat (any_goals (first | assumption | wp_step))
 have hz:(s.heap.push { cls:=.type "list_iterator",data:=.fields #[.ref l,.int 0 0] }).objs.size=s.heap.objs.size+1:=FD ..;refine Fo (FB ft.plain F.entry_enumerate_new (wpAny_of_eq (AK _ _) (xu l items n dct sl t prog w A.in1 (wants (fun obj s₁=>s₁.TypeIs obj "enumerate"/\Q obj s₁) E) s ⟨hl,?_⟩))) fun r s₁ hr=>?_
 ·show _/\_
  have he:IsEnum ((s.heap.push { cls:=.type "list_iterator",data:=.fields #[.ref l,.int 0 0] }).push
    { cls:=.type "enumerate",data:=.fields #[.none,.bool false,.ref s.heap.objs.size,rawInt 1,.none,.none] }) (s.heap.objs.size+1) s.heap.objs.size 1 .none:=by
   have:=Heap.get?_push_size (s.heap.push { cls:=.type "list_iterator",data:=.fields #[.ref l,.int 0 0] })
    (o:={ cls:=.type "enumerate",data:=.fields #[.none,.bool false,.ref s.heap.objs.size,rawInt 1,.none,.none] }) rfl
   rw[hz]at this;exact this
  rw[hz];exact⟨⟨_,he,rfl⟩,h _ he ⟨_,Heap.get?_push_of_some _ (Heap.get?_push_size _ rfl),rfl,rfl⟩ fun b o x=>Heap.get?_push_of_some _ (Heap.get?_push_of_some _ x)⟩
 ·cases r with
  | error e=>exact hr
  | ok fl =>
   cases fl with
   | ret obj =>
    obtain⟨hT,hQ⟩:=hr;have hli:=ft.init.lookup;have hbi:=ft.init.bind obj
    repeat (any_goals (first | assumption | wp_step))
    refine Fo (FB ft.init.plain F.entry_object_init (ft.init.check _ _ _ _ _ _ _ _ hT (y4 _ _ _) (tM prog w A.in1 (wants (fun r s₂=>r=.none/\Q obj s₂) E) s₁ ⟨hT,rfl,hQ⟩))) fun r₂ s₂ hr₂=>?_
    cases r₂ with
    | error e=>exact hr₂
    | ok fl₂ =>
     cases fl₂ with
     | ret r =>
      obtain⟨rfl,hq⟩:=hr₂
      repeat (any_goals (first | assumption | wp_step))
     | _=>exact hr₂.elim
   | _=>exact hr.elim
end
theorem xm {prog:Program}{w:World}{A:Around}{it:Addr}{fp:List Addr}{n:Nat}{P:Nat->Value->Prop}{St:Nat->Heap->Prop}(D:Draws prog w A it fp n P St):Draws prog w A it fp (n+1) (fun j v=>P (j-1) v) (fun j h=>1<=j/\St (j-1) h) where
 live:=fun i h st=>D.live _ h st.2
 frame:=fun i h h' st k=>⟨st.1,D.frame _ h h' st.2 k⟩
 item:=fun i s Q E hi st hQ=>D.item (i-1) s Q E (by have:=st.1;omega) st.2 fun x h' tk hp hs hb=>hQ x h' tk hp ⟨by omega,by have:=st.1;rw[show i+1-1=i-1+1 by omega];exact hs⟩ hb
 done:=fun s Q E st hE=>D.done s Q E st.2 hE
theorem vV {prog:Program}{w:World}{A:Around}(hh:A.handled=none)(it l:Addr)(items:Array Value){i:Nat}(hx:items[i]? = none):Draws prog w A it [it,l] (i+1) (fun _ _=>False) (fun j h=>j=i+1/\h.IsListIter it l i/\h.IsList l items) where
 live:=fun j h st=>let ⟨o,ho,_⟩:=st.2.1;⟨o,ho⟩
 frame:=fun j h h' st k=>⟨st.1,st.2.1.at fun o x=>k it (by simp) o x,st.2.2.at fun o x=>k l (by simp) o x⟩
 item:=fun j s Q E hj st hQ=>by have:=st.1;omega
 done:=fun s Q E st hE=>wpAny_nextOf_list_end hh st.2.1 st.2.2 hx hE
def BG (K:PySem.W.Frag)(l:Addr):It :=
 ⟨fun i H=>∃ xs x,be K H l xs/\xs[i]? = some x,fun i H y H'=>∃ T x,H T=none/\y=.ref T/\H'=upd H T (.tup [.int ((i:Int)+1),x])/\∀ xs,be K H l xs->xs[i]? = some x,fun i H=>∃ xs,be K H l xs/\xs.length<=i⟩
theorem uK {P:Program}{w:World}{K:PySem.W.Frag}{elts:List Expr} {kk}{pos:Pos}(e it l:Addr)(hne:e≠it):pU P w K (.Tuple elts kk pos) (BG K l) [e,it] e (fun i h=>(∃ old,IsEnum h e it ((i+1:Nat):Int) old)/\h.IsListIter it l i) where
 mem:=by simp
 obj:=fun i h st b hb=>by
  obtain⟨⟨old,he⟩,⟨o,eo,c,d⟩⟩:=st
  have hb:b=e\/b=it:=by simpa using hb
  rcases hb with rfl | rfl
  ·exact⟨_,he,fun v z=>by cases z⟩
  ·exact⟨o,eo,fun v z=>by rw[d]at z;cases z⟩
 keep:=fun i h h' st k=>⟨st.1.elim fun old he=>⟨old,k e (by simp) _ he⟩,st.2.at fun o x=>k it (by simp) o x⟩
 item:=by
  intro X hP hw hK hc i pins s σ H E I hf st hg;subst hP hw hK;obtain⟨xs,x,hq,hx⟩:=hg;obtain⟨its,rv,p,hz⟩:=I.list hq;obtain⟨u,hu,ru⟩:=rv.get hx;obtain⟨⟨old,he⟩,hit⟩:=st;have fe:=hf e (by simp);have fi:=hf it (by simp);have lte:e<s.heap.objs.size:=Eg he
  have lti:it<s.heap.objs.size:=by obtain⟨_,q,_⟩:=id hit;exact Eg q
  obtain⟨ol,hol,hcl,_⟩:=id p.isList
  have nl:l≠it:=fun z=>by
   obtain⟨oi,hoi,hci,_⟩:=id hit;rw[<-z,hol]at hoi;cases hoi;rw[hcl]at hci;exact absurd (Value.type.inj hci) (by decide)
  have nle:e≠l:=fun z=>by
   have q:s.heap.get? e=some _:=he;rw[z,hol]at q;cases q;exact absurd (Value.type.inj hcl) (by decide)
  refine wpAny_pyNext_enum_itemD (xm (Draws.list (A:=X.A.in1) (I.ok.hd hc) it l nl its.toArray)) he ⟨by omega,hit,p.isList⟩ (by have:=(List.getElem?_eq_some_iff.mp hu).1;simp;omega) hne (by simp[hne,nle]) fun u' h' tk hu' ho hst' hT hsz hk=>⟨.ref s.heap.objs.size,rfl,?_⟩
  have eu:u'=u:=by
   have:its.toArray[i+1-1]? = some u':=hu';rw[show i+1-1=i by omega]at this
   have h2:its.toArray[i]? = some u:=by simpa using hu
   rw[this]at h2;exact Ef h2
  subst eu;have hit':h'.IsListIter it l (i+1):=hst'.2.1;refine wpAny_letOwnedTupleGo_enum (s:={ s with heap:=h',toks:=tk+1 }) ho fun h2 he2 sb2=>?_;have hfr:H s.heap.objs.size=none:=I.hok.fresh (D9 _)
  have IL:ar X pins σ (upd H s.heap.objs.size (.tup [.int ((i:Int)+1),x])) { s with heap:=s.heap.push { cls:=.type "tuple",data:=.seq #[.int ((i+1:Nat):Int) tk,u'] },toks:=s.toks } :=
   I.laid (fun b o q=>Heap.get?_push_of_some _ q) (D9 _) ⟨by show 2<=sizeLine;decide,[.int ((i+1:Nat):Int) tk,u'],.cons ⟨_,rfl⟩ (.cons ru .nil),⟨_,Heap.get?_push_size _ rfl,rfl,_,rfl⟩⟩
  have fp':∀ b,b<s.heap.objs.size->fh X pins H b->fh X pins (upd H s.heap.objs.size (.tup [.int ((i:Int)+1),x])) b:=fun b hb ⟨f0,f1,f2,f3,f4,f5⟩=>⟨by rw[ae (Em hb)];exact f0,f1,f2,f3,f4,f5⟩
  have I2:ar X pins σ (upd H s.heap.objs.size (.tup [.int ((i:Int)+1),x])) { s with heap:=h2,toks:=tk+1 }:=IL.turned2 (t':=tk+1) (h':=h2) (fun b o n1 n2 q=>by
   refine (sb2.2 b n1).trans ?_
   show h'.get? b=some o
   by_cases hb:b=s.heap.objs.size
   ·subst hb
    have q:(s.heap.push { cls:=.type "tuple",data:=.seq #[.int ((i+1:Nat):Int) tk,u'] }).get? s.heap.objs.size=some o:=q;rw[Heap.get?_push_size _ rfl]at q;cases q;exact hT
   ·have q:(s.heap.push { cls:=.type "tuple",data:=.seq #[.int ((i+1:Nat):Int) tk,u'] }).get? b=some o:=q
    refine hk b o n1 n2 ?_;rw[Heap.get?_push_ne _ _ _ hb]at q
    exact q) (fp' e lte fe) (fp' it lti fi)
  refine⟨.ref s.heap.objs.size,_,I2,rfl,⟨s.heap.objs.size,x,hfr,rfl,rfl,fun ys hy=>by rw[I.list_inj hy hq];exact hx⟩,⟨⟨_,by simpa using he2⟩,hit'.at fun o q=>(sb2.2 it (Eo hne)).trans q⟩,fun b hb=>?_⟩
  have hb':b=e\/b=it:=by simpa using hb
  rcases hb' with rfl | rfl
  ·exact (fp' _ lte fe).1
  ·exact (fp' _ lti fi).1
 done:=by
  intro X hP hw hK hc i pins s σ H E I hf st hg;subst hP hw hK;obtain⟨xs,hq,hx⟩:=hg;obtain⟨its,rv,p,hz⟩:=I.list hq;obtain⟨⟨old,he⟩,hit⟩:=st;obtain⟨f0,f1,f2,f3,f4,f5⟩:=hf it (by simp);have hl:=rv.length;exact wpAny_pyNext_enum_endD (vV (A:=X.A.in1) (I.ok.hd hc) it l its.toArray (i:=i) (by simp;omega)) he ⟨rfl,hit,p.isList⟩ fun h' eb=>⟨rfl,I.turned (t':=s.toks) (fun b o hb q=>eb b o hb q) f0 f1 f3 f4 f5⟩
 self:=fun _ _ _ _ _ st h=>st.1.elim fun old he=>wpAny_pyIter_enum he h
theorem li {M:Model}{A:Around}{E:Value->Shared->Prop}{s:Shared}{env:Env}{pos:Pos}{T:String}{Q:Value->Shared->Prop}{e:Expr}{rest:List Expr}{kws:List Keyword}(hall:(backToKw pos (keywordEach kws env)).all (·.1.isSome)=true)
  (h:wpAny M A (spliced (backTo pos (starEach (e::rest) env))) (fun vs s₁=>wpAny M A (evalAll ((backToKw pos (keywordEach kws env)).map (·.2)))
   (fun ks s₂=>wpAny M A (call (.type T) vs (((backToKw pos (keywordEach kws env)).filterMap (·.1)).zip ks)) Q E s₂) E s₁) E s)
  (hplain:((backTo pos (starEach (e::rest) env)).any (·.1)||(backToKw pos (keywordEach kws env)).any (·.1.isNone))=false:=by rfl) (he:starEach (e::rest) env=(false,eval e env)::starEach rest env:=by rfl) :
  wpAny M A (callWith pos (.type T) [] (backTo pos (starEach (e::rest) env)) (backToKw pos (keywordEach kws env))) Q E s:=by
 unfold callWith;refine D5 (EK (Ew (evalArgs_kw2 (Q:=fun a s₁=>wpAny M A (call (.type T) a.pos a.kw) Q E s₁) hall h he) (fun a s₁ h₁=>D5 (EU ?_)) fun _ _ x=>x));simp only[hplain];refine D5 (Ea ?_);exact D5 (Ew h₁ (fun r s₂ hr=>D5 (EK (wpAny_point (Ea hr)))) fun _ _ x=>x)
def AO (K:PySem.W.Frag)(t:TA):TI:=fun σ H R=>t σ H fun vs H1=>∃ l,vs=[.ref l]/\(∃ xs,be K H1 l xs)/\R (BG K l) H1
theorem x8 {X:Cx}{elts:List Expr} {kk}{tpos:Pos}{a:Expr}{ta:TA}{p pos cp kp:Pos}{cj:Nat}(hg:Gl X "enumerate")(hm:X.mg "enumerate" = none)(ha:PA X [a] ta)
  (he:starEach [a] X.env=(false,eval a X.env)::starEach [] X.env:=by rfl)
  (hpl:((backTo pos (starEach [a] X.env)).any (·.1)||(backToKw pos (keywordEach [⟨some "start",.Constant (.int 1) cj cp,kp⟩] X.env)).any (·.1.isNone))=false:=by rfl) :
  PI X (.Tuple elts kk tpos) (.Call (.Name "enumerate" p) [a] [⟨some "start",.Constant (.int 1) cj cp,kp⟩] pos) (AO X.K ta):=by
 intro pins s σ H R I h;refine Fl (mK I hg hm boot_enumerate ?_ (by decide) (by decide));refine li (by rfl) (aU (ha pos pins s σ H _ I h) fun us s1 ⟨vs,H1,I1,r1,l,e1,⟨xs,hq⟩,q⟩=>?_) hpl he;subst e1;obtain⟨u,rfl,rx⟩:=eO r1;cases rx;refine aU ((zL ai Bc:PK X [⟨some "start",.Constant (.int 1) cj cp,kp⟩] _) pos pins s1 σ H1 (fun vs H2=>vs=[.int 1]/\H2=H1) I1 ⟨rfl,rfl⟩) fun ws s2 ⟨zs,H2,I2,rz,ez,eh⟩=>?_;subst ez eh;obtain⟨u2,rfl,rx2⟩:=eO rz;obtain⟨t,rfl⟩:=rx2;obtain⟨its,rv,pl,hz⟩:=I2.list hq;refine y3 pl.isList fun h' hE hI hk=>?_;have I3:ar X pins σ H2 { s2 with heap:=h',toks:=s2.toks }:=I2.kept hk;refine wpAny_pyIter_enum (s:={ s2 with heap:=h' }) hE ?_;refine⟨s2.heap.objs.size+1,[s2.heap.objs.size+1,s2.heap.objs.size],_,_,H2,rfl,I3,uK _ _ l (Nat.succ_ne_self _),⟨⟨_,hE⟩,hI⟩,fun b hb=>?_,q⟩
 have hb:b=s2.heap.objs.size+1\/b=s2.heap.objs.size:=by simpa using hb
 rcases hb with rfl | rfl
 ·exact I2.fpOk (Fw _) (I2.hok.fresh (Fw _))
 ·exact I2.fpOk (D9 _) (I2.hok.fresh (D9 _))
theorem vW {K:PySem.W.Frag}{a:Addr}{xs:List V}{g:TG}{tb:TS}{D:fg}{σ:St}{H:Hp}(Pv:Nat->St->Hp->Prop)(h0:Pv 0 σ H)(hl:∀ i σ H,i<=xs.length->Pv i σ H->be K H a xs)
  (hs:∀ i x σ H T,xs[i]? = some x->Pv i σ H->H T=none->g (.ref T) σ (upd H T (.tup [.int ((i:Int)+1),x])) fun σ2 H2=>tb { D with nx:=Pv (i+1),ct:=Pv (i+1),bk:=D.nx } σ2 H2) (hd:∀ σ H,Pv xs.length σ H->D.nx σ H) :
  ∃ W:Nat->Nat->St->Hp->Prop,(∃ m,W 0 m σ H)/\∀ i m σ H,W i m σ H ->
   ((BG K a).stop i H/\D.nx σ H)\/((BG K a).go i H/\∃ N:St->Hp->Prop,(∀ σ' H',N σ' H'->∃ m',m'<m/\W (i+1) m' σ' H')/\∀ x H',(BG K a).yld i H x H'->g x σ H' fun σ2 H2=>tb { D with nx:=N,ct:=N,bk:=D.nx } σ2 H2):=by
 refine⟨fun i m σ H=>m=xs.length-i/\i<=xs.length/\Pv i σ H,⟨xs.length,by simp,Ey _,h0⟩,?_⟩;rintro i m σ H ⟨rfl,hi,p⟩;have q:=hl i σ H hi p
 by_cases hlt:i<xs.length
 ·refine .inr ⟨⟨xs,xs[i],q,by simp[hlt]⟩,Pv (i+1),fun σ' H' p'=>⟨xs.length-(i+1),by omega,rfl,hlt,p'⟩,fun y H' z=>?_⟩
  obtain⟨T,x,hT,e1,e2,hx⟩:=z;subst e1 e2;exact hs i x σ _ T (hx xs q) p hT
 ·have e:i=xs.length:=by omega
  exact .inl ⟨⟨xs,q,by omega⟩,hd σ H (e▸p)⟩
end L2
set_option maxRecDepth 1000000
set_option maxHeartbeats 8000000
namespace Wz
open PySem L2
theorem oh {P:St->Hp->Prop}{G:Prop}(C:St->Hp->Prop)(main:(∀ σ HH,C σ HH->P σ HH)->G)(key:∀ σ HH,C σ HH->P σ HH):G:=main key
end Wz
set_option maxRecDepth 1000000
set_option maxHeartbeats 8000000
namespace Tm
open PySem PyProof.Rows
def el (xs:Array Keyed)(i:Nat):Keyed:=xs.getD i (.none,.none)
structure D3 (P:Program)(w:World)(A:Around)(s:Shared)(κ:SortKind)(a0:Array Keyed)(lt:Keyed->Keyed->Bool):Prop where
 cmp:∀ {x y:Keyed}{E:Value->Shared->Prop}{Q:Bool->Prop},x∈a0->y∈a0->Q (lt x y)->wpAny (model P w) A (keyLt' κ x.1 y.1) (fun b s'=>s'=s/\Q b) E s
 irr:∀ x,lt x x=false
 tr:∀ x y z,lt x y=true->lt y z=true->lt x z=true
 tot:∀ x y,x∈a0->y∈a0->x≠y->lt x y=true\/lt y x=true
 nd:a0.toList.Nodup
structure DL (κ:SortKind)(a0:Array Keyed)(st:SortSt):Prop where
 pm:(arrOf st).Perm a0
 fl:failedOf st=none
 kd:kindOf st=κ
section
variable {P:Program}{w:World}{A:Around}{E:Value->Shared->Prop}{s:Shared}{κ:SortKind}{a0:Array Keyed}{lt:Keyed->Keyed->Bool}{st:SortSt}
def Up (lt:Keyed->Keyed->Bool)(xs:Array Keyed)(lo hi:Nat):Prop:=∀ i j,lo<=i->i<j->j<hi->lt (el xs i) (el xs j)=true
def Dn (lt:Keyed->Keyed->Bool)(xs:Array Keyed)(lo hi:Nat):Prop:=∀ i j,lo<=i->i<j->j<hi->lt (el xs j) (el xs i)=true
def D2 (xs ys:Array Keyed)(lo hi:Nat):Prop:=∀ i,i<lo\/hi<=i->el ys i=el xs i
def DP (st st':SortSt):Prop:=pendingOf st'=pendingOf st/\gallopOf st'=gallopOf st
end
def CL:Bool->Keyed->Array Keyed->Nat->Nat->Nat->StateT SortSt Sem (Option Nat):=sortPriv% PySem.Builtin.gallop
def Bf (lt:Keyed->Keyed->Bool)(left:Bool)(key:Keyed)(xs:Array Keyed)(b i:Nat):Bool:=if left=true then lt (el xs (b+i)) key else !lt key (el xs (b+i))
def Fn (R:Keyed->Keyed->Prop)(T r:List Keyed):Prop:=r.Perm T/\r.Pairwise R
structure J (R:Keyed->Keyed->Prop)(T out ra rb:List Keyed):Prop where
 pm:(out++(ra++rb)).Perm T
 so:out.Pairwise R
 oa:∀ x,x∈out->∀ y,y∈ra->R x y
 ob:∀ x,x∈out->∀ y,y∈rb->R x y
 sa:ra.Pairwise R
 sb:rb.Pairwise R
 la:∀ x,x∈rb->∀ z,ra.getLast? = some z->R x z
def B6:Array Keyed->Array Keyed->StateT SortSt Sem (Array Keyed):=sortPriv% PySem.Builtin.mergeLo
def yO:Nat->StateT SortSt Sem Unit:=sortPriv% PySem.Builtin.setMinGallop
structure D4 (a0:Array Keyed)(lt:Keyed->Keyed->Bool)(a b:Array Keyed):Prop where
 ma:∀ i,i<a.size->el a i∈a0
 mb:∀ i,i<b.size->el b i∈a0
 ne:∀ i j,i<a.size->j<b.size->el a i≠el b j
 ua:Up lt a 0 a.size
 ub:Up lt b 0 b.size
 za:0<a.size
 zb:0<b.size
 h0:lt (el b 0) (el a 0)=true
 hl:lt (el b (b.size-1)) (el a (a.size-1))=true
def aE (st st':SortSt):Prop:=arrOf st'=arrOf st/\failedOf st'=failedOf st/\kindOf st'=kindOf st/\pendingOf st'=pendingOf st
def Jl (lt:Keyed->Keyed->Bool)(a b:Array Keyed)(out:Array Keyed)(ia ib:Nat):Prop:=J (fun x y=>lt x y=true) (a.toList++b.toList) out.toList (a.toList.drop ia) (b.toList.drop ib)
def Sl (lt:Keyed->Keyed->Bool)(a b:Array Keyed)(n:Nat)(r:Option (Array Keyed))(out:Array Keyed)(ia ib:Nat):Prop :=
 (∃ q,r=some q/\Fn (fun x y=>lt x y=true) (a.toList++b.toList) q.toList)\/(r=none/\Jl lt a b out ia ib/\ia+1<a.size/\ib<b.size/\n<=out.size)
def B3:Array Keyed->Array Keyed->StateT SortSt Sem (Array Keyed):=sortPriv% PySem.Builtin.mergeHi
def Jh (lt:Keyed->Keyed->Bool)(a b:Array Keyed)(out:Array Keyed)(na nb:Nat):Prop:=J (fun x y=>lt y x=true) (a.toList++b.toList) out.toList (b.toList.take nb).reverse (a.toList.take na).reverse
def Sh (lt:Keyed->Keyed->Bool)(a b:Array Keyed)(n:Nat)(r:Option (Array Keyed))(out:Array Keyed)(na nb:Nat):Prop :=
 (∃ q,r=some q/\Fn (fun x y=>lt x y=true) (a.toList++b.toList) q.toList)\/(r=none/\Jh lt a b out na nb/\0<na/\na<a.size/\1<nb/\nb<=b.size/\n<=out.size)
def DQ (q:Nat)(m arr:Array Keyed):Array Keyed:=m.toList.zipIdx.foldl (fun a (p,j)=>a.setIfInBounds (q+j) p) arr
def Ch (lt:Keyed->Keyed->Bool)(xs:Array Keyed):Nat->List (Nat×Nat×Nat)->Nat->Prop
 | f,[],u=>f=u
 | f,t::r,u=>t.1=f/\1<=t.2.1/\Up lt xs f (f+t.2.1)/\Ch lt xs (f+t.2.1) r u
end Tm
namespace Qs
open PySem PySem.W PyProof.Rows
open Classical in
noncomputable def dec (h:Heap) (v:Value):Int×Int:=if z:∃ p,PairAt h v p then choose z else (0,0)
end Qs
namespace Wz
open PySem L2
theorem mF {n:Nat}{v:V}{σ:St}{H:Hp}{Q:St->Hp->Prop}(h:Q (σ.set n (some v)) H):mG n v σ H Q:=h
open PySem PySem.Spec
theorem wU:typeLookup (.type "str") "__int__" = pure none:=by rw[typeLookup_type,builtinLookup_eq_fast];kernel_rfl
theorem wT:typeLookup (.type "str") "__index__" = pure none:=by rw[typeLookup_type,builtinLookup_eq_fast];kernel_rfl
theorem sQ:typeLookup (.type "str") "__trunc__" = pure none:=by rw[typeLookup_type,builtinLookup_eq_fast];kernel_rfl
theorem pp {f:Array Nat×Bool->Nat->Option (Array Nat×Bool)}(hf:∀ p d,d<10->f p (d+48)=some (p.1.push d,true)):∀ (l:List Nat)(p:Array Nat×Bool),(∀ d∈l,d<10)->(l.map (·+48)).foldlM f p=some (p.1++l.toArray,if l=[] then p.2 else true)
 | [],p,_=>by simp
 | d::l,p,h=>by
  rw[Er,List.foldlM_cons,hf p d (h d Ec)]
  show (l.map (·+48)).foldlM f (p.1.push d,true)=_
  rw[pp hf l _ fun x hx=>h x (Eb _ hx)];simp
theorem j8 {d:Nat}(h:d<10):d=0\/d=1\/d=2\/d=3\/d=4\/d=5\/d=6\/d=7\/d=8\/d=9:=by omega
theorem rH {p:Nat->Bool}(hp:∀ d,d<10->p (d+48)=false){q:List Nat}(h:∀ c∈q,∃ d,d<10/\c=d+48):q.dropWhile p=q:=by
 cases q with
 | nil=>rfl
 | cons c q =>
  obtain⟨d,hd,rfl⟩:=h c Ec;rw[List.dropWhile_cons_of_neg];rw[hp d hd];exact Ed
theorem AZ {q:List Nat}{y:Option (Array Nat)}{l:List Nat}{f:Array Nat×Bool->Nat->Option (Array Nat×Bool)}{g:Array Nat×Bool->Option (Array Nat)}(h:y=(q.foldlM f (#[],false)).bind g)(hq:q=l.map (·+48))(hl:l≠[])(hd:∀ d∈l,d<10)
  (hf:∀ p d,d<10->f p (d+48)=some (p.1.push d,true)) (hg:∀ ds,g (ds,true)=some ds):y=some l.toArray:=by
 rw[h,hq,pp hf l _ hd,D7 hl]
 show g (#[]++l.toArray,true)=_
 rw[hg];simp
theorem meets_int_new_str (x:Str)(t:Tok)(d:Nat)(l:List Nat)(hx:x.cps.toList=(d::l).map (·+48))(h0:d=0->l=[])(hd:∀ e∈d::l,e<10)(hl:(d::l).length<=640):Meets (Builtin.«int.__new__» ⟨[.type "int",.str x t],[]⟩) (Made.int ((d::l).foldl (fun a e=>a*10+e) 0:Nat)).spec :=
 Meets.of_wp fun prog w A R s hs=>by
  obtain⟨hp,g,dr,tk,os⟩:=s;have f1:=F.conv_sub_int;have f2:=F.madeHere_int;have f3:=wU;have f4:=wT;have f5:=sQ;have hT:(⟨hp,g,dr,tk,os⟩:Shared).TypeIs (.str x t) "str":=rfl
  have g1:(x.cps.all fun x=>decide (x<128))=true:=by
   rw[<-Array.all_toList,hx,EQ];intro c hc;obtain⟨e,he,rfl⟩:=Ez.mp hc;have:=hd e he;exact Ee (by omega)
  have g2:x.cps.toList.takeWhile (fun x=>x != 0)=x.cps.toList:=by
   have tw:∀ q:List Nat,(∀ c∈q,c≠0)->q.takeWhile (fun x=>x != 0)=q:=fun q=>by
    induction q with
    | nil=>intro _;rfl
    | cons c q ih=>intro h;rw[List.takeWhile_cons_of_pos (by simpa using h c Ec),ih fun c hc=>h c (Eb _ hc)]
   refine tw _ fun c hc=>?_;rw[hx]at hc;obtain⟨e,he,rfl⟩:=Ez.mp hc;omega
  have g3:x.cps.toList.length<=640:=by rw[hx,D6];exact hl
  repeat (any_goals (first | assumption | wp_step))
  rw[g1];simp only[if_true,g2,g3];refine D5 (Ea ?_)
  have hq:∀ c∈(d::l).map (·+48),∃ e,e<10/\c=e+48:=fun c hc=>by
   obtain⟨e,he,rfl⟩:=Ez.mp hc;exact⟨e,hd e he,rfl⟩
  have hq2:∀ c∈((d::l).map (·+48)).reverse,∃ e,e<10/\c=e+48:=fun c hc=>hq c (List.mem_reverse.mp hc)
  have sz:l.length<=639:=by have:l.length+1<=640:=hl;omega
  rw[hx];rcases j8 (hd d Ec) with rfl | z
  ·have e0:=h0 rfl
   subst e0
   conv=>arg 3;arg 2;whnf
   show wpAny _ _ (if _ then _ else _) _ _ _
   rw[D8 (by simp)]
   repeat (any_goals (first | assumption | wp_step))
   exact⟨_,rfl,hs⟩
  ·rcases z with rfl | rfl | rfl | rfl | rfl | rfl | rfl | rfl | rfl
   all_goals
    conv=>arg 3;arg 2;whnf
    rw[rH (by decide) hq,rH (by decide) hq2,List.reverse_reverse]
    conv =>
     arg 3;arg 2;arg 2
     tactic=>exact AZ rfl rfl (List.cons_ne_nil _ _) hd (by rintro⟨ds,b⟩ d h;rcases j8 h with rfl | rfl | rfl | rfl | rfl | rfl | rfl | rfl | rfl | rfl<;>rfl) fun _=>rfl
    dsimp only;rw[D7 (by simp),D7 (by simp;omega),D7 (by simp)]
    show wpAny _ _ (if _ then _ else _) _ _ _
    rw[D8 (by simp)]
    repeat (any_goals (first | assumption | wp_step))
    refine⟨_,rfl,?_⟩;rw[D7 Ed,List.foldl_toArray];exact hs
structure Num (x:Str)(ds:List Nat):Prop where
 eq:x.cps.toList=ds.map (·+48)
 ne:ds≠[]
 nz:ds.head? = some 0->ds=[0]
 dg:∀ e∈ds,e<10
 ln:ds.length<=12
def numV (ds:List Nat):Nat:=ds.foldl (fun a e=>a*10+e) 0
end Wz
namespace L2
open PySem PySem.Spec PyProof.Rows
theorem vP {X:Cx}:gF X (.type "int") (fun xs H Q=>∃ x ds,xs=[.str x]/\Wz.Num x ds/\Q (.int (Wz.numV ds)) H):=by
 intro pins s σ H xs us Q I r h;obtain⟨x,ds,rfl,N,q⟩:=h;obtain⟨u,rfl,rx⟩:=eO r;obtain⟨t,rfl⟩:=rx
 cases ds with
 | nil=>exact absurd rfl N.ne
 | cons d l =>
  have ln:l.length+1<=12:=N.ln
  exact call_int_1 (Wz.meets_int_new_str x t d l N.eq (fun z=>by
   have:=N.nz (by rw[z];rfl)
   exact (List.cons.inj this).2) N.dg (by show l.length+1<=640;omega)) ⟨rfl,.int _,H,I.tok _,⟨_,rfl⟩,q⟩
def yQ (x:Str):Prop:=x.cps.all (· < 128)=true
def Bx (x:Str):It :=
 ⟨fun i _=>i<x.cps.toList.length,fun i H v H'=>H'=H/\∃ c,x.cps.toList[i]? = some c/\v=.str ⟨#[c]⟩,fun i _=>x.cps.toList.length<=i⟩
theorem yy {P:Program}{w:World}{K:PySem.W.Frag}{tg:Expr}(x:Str)(t:Tok)(it:Addr):pU P w K tg (Bx x) [it] it (fun i h=>h.IsStrIter it "str_ascii_iterator" x t i) where
 mem:=by simp
 obj:=fun i h st b hb=>by
  have e:b=it:=by simpa using hb
  subst e;obtain⟨o,e,c,d⟩:=st;exact⟨o,e,fun v z=>by rw[d]at z;cases z⟩
 keep:=fun i h h' ⟨o,e,r⟩ k=>⟨o,k it (by simp) o e,r⟩
 item:=by
  intro X hP hw hK hc i pins s σ H E I hf st hg;subst hP hw hK;have hg:i<x.cps.toList.length:=hg;obtain⟨f0,f1,f2,f3,f4,f5⟩:=hf it (by simp)
  have hx:x.cps[i]? = some x.cps.toList[i]:=by simp
  refine wpAny_pyNext_ascii_item st hx fun h' st' sb=>?_;have I1:ar X pins σ H { s with heap:=h',toks:=s.toks+1 }:=I.turned (t':=s.toks+1) (fun b o hb e=>(sb.2 b hb).trans e) f0 f1 f3 f4 f5;obtain⟨o,e,c,d⟩:=id st';exact⟨_,rfl,rM (s:={ s with heap:=h',toks:=s.toks+1 }) e c d (by decide) ⟨.str ⟨#[x.cps.toList[i]]⟩,H,I1,⟨_,rfl⟩,⟨rfl,_,List.getElem?_eq_getElem hg,rfl⟩,st',fun b hb=>(hf b hb).1⟩⟩
 done:=by
  intro X hP hw hK hc i pins s σ H E I hf st hg;subst hP hw hK;have hg:x.cps.toList.length<=i:=hg;obtain⟨f0,f1,f2,f3,f4,f5⟩:=hf it (by simp);refine wpAny_pyNext_ascii_end (I.ok.hd hc) st (by rw[Array.getElem?_eq_none];simpa using hg) fun h' eb=>⟨rfl,I.turned (t':=s.toks) (fun b o hb e=>eb b o hb e) f0 f1 f3 f4 f5⟩
 self:=fun _ _ _ _ _ st h=>wpAny_pyIter_striter_ascii st h
def C7 (t:TE):TI:=fun σ H R=>t σ H fun v H1=>∃ x,v=.str x/\yQ x/\R (Bx x) H1
theorem Bb {X:Cx}{tg l:Expr}{tl:TE}(hl:PE X l tl):PI X tg l (C7 tl):=by
 intro pins s σ H R I h;refine aU (hl pins s σ H _ I h) fun v s1 ⟨y,H1,I1,r1,x,e,ha,q⟩=>?_;subst e;obtain⟨t,rfl⟩:=r1;refine wpAny_pyIter_ascii ha ?_;refine⟨s1.heap.objs.size,[s1.heap.objs.size],_,_,H1,rfl,I1.kept (t':=s1.toks) fun b o e=>Heap.get?_push_of_some _ e,yy x t _,⟨_,Heap.get?_push_size _ rfl,rfl,rfl⟩,fun b hb=>?_,q⟩
 have e:b=s1.heap.objs.size:=by simpa using hb
 subst e;exact I1.fpOk (D9 _) (I1.hok.fresh (D9 _))
theorem y9 {x:Str}{g:TG}{tb:TS}{D:fg}{σ:St}{H:Hp}(Pv:Nat->St->Hp->Prop)(h0:Pv 0 σ H)
  (hs:∀ i c σ H,x.cps.toList[i]? = some c->Pv i σ H->g (.str ⟨#[c]⟩) σ H fun σ2 H2=>tb { D with nx:=Pv (i+1),ct:=Pv (i+1),bk:=D.nx } σ2 H2) (hd:∀ σ H,Pv x.cps.toList.length σ H->D.nx σ H) :
  ∃ W:Nat->Nat->St->Hp->Prop,(∃ m,W 0 m σ H)/\∀ i m σ H,W i m σ H ->
   ((Bx x).stop i H/\D.nx σ H)\/((Bx x).go i H/\∃ N:St->Hp->Prop,(∀ σ' H',N σ' H'->∃ m',m'<m/\W (i+1) m' σ' H')/\∀ v H',(Bx x).yld i H v H'->g v σ H' fun σ2 H2=>tb { D with nx:=N,ct:=N,bk:=D.nx } σ2 H2):=by
 generalize hl:x.cps.toList.length=n at hd;refine⟨fun i m σ H=>m=n-i/\i<=n/\Pv i σ H,⟨n,by simp,Ey _,h0⟩,?_⟩;rintro i m σ H ⟨rfl,hi,p⟩
 by_cases hlt:i<n
 ·refine .inr ⟨show i<x.cps.toList.length by omega,Pv (i+1),fun σ' H' p'=>⟨n-(i+1),by omega,rfl,hlt,p'⟩,fun v H' y=>?_⟩
  obtain⟨e,c,hc,e2⟩:=y;subst e e2;exact hs i c σ _ hc p
 ·have e:i=n:=by omega
  subst e;exact .inl ⟨show x.cps.toList.length<=i by omega,hd σ H p⟩
theorem jZ:∀ l:List (Str×Tok),aL ((l.map (·.1)).map V.str) (strValues l)
 | []=>.nil
 | p::l=>.cons ⟨p.2,rfl⟩ (jZ l)
def yf:V->List V->Hp->VK->Prop:=fun x xs H Q=>∃ z y,x=.str z/\xs=[.str y]/\(y.length == 0)=false/\z.length<=1000000/\∀ l,H l=none->Q (.ref l) (upd H l (.lst ((Txt.split z y).map V.str)))
theorem xO {X:Cx}:CU X "str.split" yf:=by
 intro pins s σ H x xs v us Q I rx rv h;obtain⟨z,y,rfl,rfl,hy,hz,q⟩:=h;obtain⟨t,rfl⟩:=rx;obtain⟨u,rfl,ru⟩:=eO rv;obtain⟨t2,rfl⟩:=ru;have sl:sizeLine=16777216:=EZ
 have fin:∀ (l:List (Str×Tok))(k:Nat),l.length<=sizeLine->l.map (·.1)=Txt.split z y->EP X pins σ Q (.ref s.heap.objs.size) { s with toks:=k,heap:=s.heap.push { cls:=.type "list",data:=.seq (strValues l).toArray } }:=fun l k hl e=>by
  have IL:=I.laid (t':=k) (a:=s.heap.objs.size) (o:=.lst ((Txt.split z y).map V.str)) (h':=s.heap.push { cls:=.type "list",data:=.seq (strValues l).toArray }) (fun b o e=>Heap.get?_push_of_some _ e) (D9 _)
   (show aT X.prog X.w _ _ _ (.lst _) from ⟨by rw[<-e,D6,D6];exact hl,strValues l,_,by rw[<-e];exact jZ l,Heap.get?_push_size _ rfl⟩)
  exact⟨.ref s.heap.objs.size,_,IL,rfl,q _ (I.hok.fresh (D9 _))⟩
 have nl:∀ k ps,(numbered k ps).length=ps.length:=fun k ps=>by rw[<-D6 (f:=(·.1)),numbered_texts]
 have pl:(Builtin.Str.partsBetween z (Builtin.Str.occurrences z y 0 z.length (z.length+1)) y.length).length<=sizeLine:=by
  rw[length_partsBetween];have:=StrLaws.occ_length_le z y 0 z.length (z.length+1);omega
 cases h1:(decide (z.length<y.length)||decide (Builtin.Str.strKind z<Builtin.Str.strKind y)) with
 | true=>exact call_meets F.slot_str_split (typeIs_str _ _ _) F.entry_str_split (F.args_str_split_2 _ _) (meets_str_split_cannot_occur z y t t2 h1) (fin [(z,t)] s.toks (by show 1<=sizeLine;decide) (D8 h1).symm)
 | false =>
  cases hf:(Builtin.Str.occurrences z y 0 z.length (z.length+1)).isEmpty with
  | true=>exact call_meets F.slot_str_split (typeIs_str _ _ _) F.entry_str_split (F.args_str_split_2 _ _) (meets_str_split_not_found z y t t2 h1 hy hf) (fin [(z,t)] s.toks (by show 1<=sizeLine;decide) ((D7 (ne_true_of_eq_false h1)).trans (D8 hf)).symm)
  | false =>
   refine call_meets F.slot_str_split (typeIs_str _ _ _) F.entry_str_split (F.args_str_split_2 _ _) (meets_str_split_sep z y t t2 h1 hy hf (by omega) pl) ?_;rw[strsFrom_eq];exact fin (numbered s.toks _) _ (by rw[nl];exact pl) ((numbered_texts _ _).trans ((D7 (ne_true_of_eq_false h1)).trans (D7 (ne_true_of_eq_false hf))).symm)
theorem sw {X:Cx}{o e:Expr}{to te:TE}{apos cpos:Pos}(ho:PE X o to)(he:PE X e te)(hbase:attributeBase o "split" X.env (eval o X.env)=eval o X.env:=by rfl)
  (hfew:((backTo cpos (starEach [e] X.env)).all (fun x=>!x.1)&&(backToKw cpos (keywordEach [] X.env)).all (fun x=>x.1.isSome)&&decide ([e].length+([]:List Keyword).length+(if ([]:List Keyword).isEmpty then 0 else 1)<30))=true:=by rfl)
  (hline:(apos.endLine == cpos.line)=true:=by rfl) (hs:starEach [e] X.env=(false,eval e X.env)::starEach [] X.env:=by rfl) (hplain:(backTo cpos (starEach [] X.env)).any (·.1)=false:=by rfl) :
  PE X (.Call (.Attribute o "split" apos) [e] [] cpos) (Dl X.K "str" yf to (i6 te lF)) :=
 jF PySem.F.plainAttrs_str PySem.F.slot_str_split PySem.F.type_str_split xO ho (ak he aF hs) hbase hfew hline hs hplain
end L2
namespace Wz
open PySem L2
def iI (c:Nat):List Nat->List (List Nat)
 | []=>[[]]
 | a::l=>if a=c then []::iI c l else match iI c l with | []=>[[a]] | p::ps=>(a::p)::ps
def jd (c:Nat):List Nat->List Nat
 | []=>[]
 | a::l=>(if a=c then [0] else [])++(jd c l).map (·+1)
theorem pL (c a:Nat)(l:List Nat):jd c (a::l)=(if a=c then [0] else [])++(jd c l).map (·+1):=rfl
theorem bz (c a:Nat)(l:List Nat):iI c (a::l)=if a=c then []::iI c l else match iI c l with | []=>[[a]] | p::ps=>(a::p)::ps:=rfl
theorem nL (c:Nat):∀ (l:List Nat)(k m:Nat),m=l.length+1->(List.range' k m).filter (fun i=>decide (l[i-k]? = some c))=(jd c l).map (·+k)
 | [],k,m,h=>by
  subst h;simp[jd]
 | a::l,k,m,h=>by
  subst h;have ih:=nL c l (k+1) (l.length+1) rfl;rw[show (a::l).length+1=(l.length+1)+1 from rfl,List.range'_succ,List.filter_cons]
  have e1:(a::l)[k-k]? = some a:=by simp
  have e2:(List.range' (k+1) (l.length+1)).filter (fun i=>decide ((a::l)[i-k]? = some c))=(List.range' (k+1) (l.length+1)).filter (fun i=>decide (l[i-(k+1)]? = some c)):=List.filter_congr fun i hi=>by
   have:=(List.mem_range'_1.mp hi).1;rw[show i-k=(i-(k+1))+1 by omega];rfl
  rw[e1,e2,ih,pL]
  by_cases z:a=c
  ·rw[D8 (by rw[z];exact Ee rfl),D8 z]
   simp[Function.comp_def,Nat.add_assoc,Nat.add_comm 1 k]
  ·rw[D7 (by simpa using z),D7 z]
   simp[Function.comp_def,Nat.add_assoc,Nat.add_comm 1 k]
theorem nh (x:Str)(c:Nat):∀ (m k:Nat)(arr:Array Nat)(free:Nat),k+m=x.length+1->free<=k->arr.size<=k ->
  (forIn (List.range' k m) (arr,free) (StrLaws.occBody x ⟨#[c]⟩ x.length (x.length+1))).run.fst.toList=arr.toList++(List.range' k m).filter (fun i=>decide (x.cps.toList[i]? = some c))
 | 0,k,arr,free,_,_,_=>by simp
 | m+1,k,arr,free,h,hf,ha=>by
  rw[List.range'_succ,List.forIn_cons,List.filter_cons];have so:=StrLaws.subAt_one x c k;unfold StrLaws.occBody
  by_cases z:x.cps.toList[k]? = some c
  ·have s2:=so.mpr z
   rw[D8 ⟨⟨⟨by show arr.size<x.length+1;omega,hf⟩,s2.1⟩,s2.2⟩,D8 (Ee z)];have ih:=nh x c m (k+1) (arr.push k) (k+(⟨#[c]⟩:Str).length) (by omega) (D9 _) (by rw[Array.size_push];omega);refine Eq.trans ih ?_;simp
  ·rw[D7 (fun q=>z (so.mp ⟨q.1.2,q.2⟩)),D7 (by rw[Ei z];exact Ed)]
   exact nh x c m (k+1) arr free (by omega) (by omega) (by omega)
theorem zC (x:Str)(c:Nat):Builtin.Str.occurrences x ⟨#[c]⟩ 0 x.length (x.length+1)=jd c x.cps.toList:=by
 rw[StrLaws.occ_eq,nh x c _ 0 #[] 0 (by omega) (D9 _) (D9 _)];have:=nL c x.cps.toList 0 (x.length+1-0) (by show x.length+1=_;rw[ED];rfl);simpa using this
def iM (l:List Nat)(p:Nat×Nat):List Nat:=(l.drop p.1).take (p.2-p.1)
def pk (l:List Nat)(cs:List Nat):List (List Nat):=((0::cs.map (·+1)).zip (cs++[l.length])).map (iM l)
theorem yq (a:Nat)(l:List Nat)(p:Nat×Nat):iM (a::l) (p.1+1,p.2+1)=iM l p:=by
 unfold iM;rw[List.drop_succ_cons,Nat.add_sub_add_right]
theorem ou (a:Nat)(l:List Nat):∀ (us vs:List Nat),((us.map (·+1)).zip (vs.map (·+1))).map (iM (a::l))=(us.zip vs).map (iM l)
 | [],_=>by simp
 | _::_,[]=>by simp
 | u::us,v::vs=>by
  rw[Er,Er,Fm,Er,Fm,Er,ou a l us vs];rw[show iM (a::l) (u+1,v+1)=iM l (u,v) from yq a l (u,v)]
theorem mj (c:Nat):∀ l:List Nat,pk l (jd c l)=iI c l
 | []=>rfl
 | a::l=>by
  have ih:=mj c l;unfold pk;rw[pL]
  by_cases z:a=c
  ·rw[D8 z]
   have e1:((0:Nat)::(([0]++(jd c l).map (·+1)).map (·+1)))=0::((0::(jd c l).map (·+1)).map (·+1)):=by simp
   have e2:([0]++(jd c l).map (·+1))++[(a::l).length]=0::((jd c l++[l.length]).map (·+1)):=by simp
   rw[e1,e2,Fm,Er,ou,show (((0::(jd c l).map (·+1)).zip (jd c l++[l.length])).map (iM l))=iI c l from ih,bz,D8 z];rfl
  ·rw[D7 z,bz,D7 z,<-ih]
   unfold pk
   cases hp:jd c l with
   | nil=>simp[iM]
   | cons q qs =>
    have e1:((0:Nat)::(([]++(q::qs).map (·+1)).map (·+1)))=0::(((q::qs).map (·+1)).map (·+1)):=by simp
    have e2:([]++(q::qs).map (·+1))++[(a::l).length]=(q+1)::((qs++[l.length]).map (·+1)):=by simp
    rw[e1,e2,Fm,Er,ou]
    show _=(a::iM l (0,q))::_
    rw[show iM (a::l) (0,q+1)=a::iM l (0,q) by simp[iM]];rfl
theorem xZ (x:Str)(cs:List Nat):(Builtin.Str.partsBetween x cs 1).map (·.cps.toList)=pk x.cps.toList cs:=by
 unfold Builtin.Str.partsBetween pk;rw[EH,ED];refine ET fun p _=>?_;obtain⟨i,j⟩:=p
 show (Builtin.Str.strSub x i j).cps.toList=_
 unfold Builtin.Str.strSub iM;simp
theorem wN (x:Str){c:Nat}(hc:c<256):(Txt.split x ⟨#[c]⟩).map (·.cps.toList)=iI c x.cps.toList:=by
 have e0:∀ y:Str,(decide (x.length<y.length)||decide (Builtin.Str.strKind x<Builtin.Str.strKind y))=true->y=⟨#[c]⟩->x.cps.toList=[]:=fun y h e=>by
  subst e
  have k1:Builtin.Str.strKind ⟨#[c]⟩=1:=by unfold Builtin.Str.strKind;rw[D8 (by simpa using hc)]
  have k2:1<=Builtin.Str.strKind x:=by
   unfold Builtin.Str.strKind;split
   ·decide
   ·split<;>decide
  rw[k1]at h
  have:x.length<1:=by
   rw[Bool.or_eq_true]at h;rcases h with z | z
   ·exact ER z
   ·have:=ER z;omega
  have:x.cps.size=0:=by have t:x.cps.size<1:=this;omega
  simpa using this
 unfold Txt.split
 by_cases h1:(decide (x.length<(⟨#[c]⟩:Str).length)||decide (Builtin.Str.strKind x<Builtin.Str.strKind ⟨#[c]⟩))=true
 ·rw[D8 h1]
  have:=e0 _ h1 rfl
  show [x.cps.toList]=_
  rw[this];rfl
 ·rw[D7 h1,zC]
  by_cases h2:(jd c x.cps.toList).isEmpty=true
  ·rw[D8 h2,<-mj,List.isEmpty_iff.mp h2]
   simp only[pk,iM,List.map_nil,List.nil_append,Fm,List.zip_nil_left,Er,List.drop_zero,Nat.sub_zero];rw[Fx (D9 _)]
  ·rw[D7 h2]
   exact (xZ x _).trans (mj c _)
theorem re {c:Nat}:∀ {p:List Nat},c∉p->iI c p=[p]
 | [],_=>rfl
 | a::p,h=>by
  rw[bz,D7 (fun z=>h (by rw[z];exact Ec)),re fun z=>h (Eb _ z)]
theorem rc {c:Nat}:∀ {p:List Nat}(r:List Nat),c∉p->iI c (p++c::r)=p::iI c r
 | [],r,_=>by show iI c (c::r)=_;rw[bz,D8 rfl]
 | a::p,r,h=>by
  show iI c (a::(p++c::r))=_
  rw[bz,D7 (fun z=>h (by rw[z];exact Ec)),rc r fun z=>h (Eb _ z)]
end Wz
namespace L2
open PySem PySem.Spec PyProof.Rows
def AM (p:Params)(q:(Str×Int)×Tok×Tok):DictEntry:=⟨PyData.keyHash p q.1.1,.str q.1.1 q.2.1,.int q.1.2 q.2.2⟩
def gObj (p:Params)(xs:List (Str×Int))(ts:List (Tok×Tok))(n:Nat):Obj:={ cls:=.type "dict",data:=.dict ((xs.zip ts).map (AM p)).toArray n }
structure GD (K:PySem.W.Frag)(p:Params)(a:Addr)(xs:List (Str×Int)):Prop where
 nd:(xs.map (·.1)).Nodup
 ns:(a == sysModules)=false
 at':∃ ts n,ts.length=xs.length/\K.lookup a=some (gObj p xs ts n)
def hJ (xs:List (Str×Int))(z:Str):V:=match xs.lookup z with | some i=>.int i | none=>.non
def BA (q:(Str×Int)×Tok×Tok):bK×Value:=(.inr q.1.1,.int q.1.2 q.2.2)
theorem rL (P:Program)(w:World):∀ l:List ((Str×Int)×Tok×Tok),Pairs (aX P w) (l.map (AM w.params)) (l.map BA)
 | []=>.nil
 | q::l=>.cons (eX P w q.1.1 q.2.1) rfl (rL P w l)
theorem u5:∀ (xs:List (Str×Int))(ts:List (Tok×Tok)),ts.length=xs.length->((xs.zip ts).map BA).map (·.1)=(xs.map (·.1)).map Sum.inr
 | [],_,_=>rfl
 | x::xs,[],h=>by cases h
 | x::xs,t::ts,h=>by
  rw[Fm,Er,Er,u5 xs ts (by simpa using h)];rfl
theorem xz:∀ (xs:List (Str×Int))(ts:List (Tok×Tok))(z:Str),ts.length=xs.length->aI (hJ xs z) ((valueAt ((xs.zip ts).map BA) (Sum.inr z)).getD .none)
 | [],_,_,_=>rfl
 | x::xs,[],_,h=>by cases h
 | x::xs,t::ts,z,h=>by
  have ih:=xz xs ts z (by simpa using h);unfold hJ valueAt at *;rw[Fm,Er,EO,List.find?_cons]
  show aI (match (match z == x.1 with | true=>some x.2 | false=>xs.lookup z) with | some i=>V.int i | none=>V.non) _
  by_cases e:z=x.1
  ·have e1:(z == x.1)=true:=by rw[e];simp
   have e2:decide ((BA (x,t)).1=Sum.inr z)=true:=Ee (by rw[e];rfl);rw[e1,e2];exact⟨t.2,rfl⟩
  ·have e1:(z == x.1)=false:=by simpa using e
   have e2:decide ((BA (x,t)).1=Sum.inr z)=false:=Ei (fun q=>e (Sum.inr.inj q).symm);rw[e1,e2];exact ih
theorem u4 {K:PySem.W.Frag}{P:Program}{w:World}{a:Addr}{xs:List (Str×Int)}{h:Heap}(g:GD K w.params a xs)(k:K.In h):∃ ts:List (Tok×Tok),ts.length=xs.length/\h.DictOf (aX P w) a ((xs.zip ts).map BA):=by
 obtain⟨ts,n,hl,e⟩:=g.at';refine⟨ts,hl,_,_,_,k _ _ e,⟨rfl,rfl,rfl⟩,rfl,fun en hen=>?_,?_,?_⟩
 ·have hen:en∈(xs.zip ts).map (AM w.params):=by simpa using hen
  obtain⟨q,_,rfl⟩:=Ez.mp hen;exact⟨.inr q.1.1,eX P w q.1.1 q.2.1,rfl⟩
 ·have:=rL P w (xs.zip ts)
  simpa using this
 ·rw[u5 xs ts hl]
  exact List.Pairwise.map _ (fun x y ne e=>ne (Sum.inr.inj e)) g.nd
def Cs (xs:List (Str×Int))(ty:TE):TE:=fun σ H Q=>ty σ H fun y H1=>∃ z,y=.str z/\Q (hJ xs z) H1
theorem zH {X:Cx}{x:Str}{a:Addr}{xs:List (Str×Int)}{e:Expr}{p apos cpos:Pos}{ty:TE}(g:GD X.K X.w.params a xs)(hg:Gl X x)(hm:X.mg x=some (.ref a))(he:PE X e ty)(m:M1 X (.Name x p) "get" apos e cpos)
  (hd:(x == ("__debug__" : Str))=false:=by decide):PE X (.Call (.Attribute (.Name x p) "get" apos) [e] [] cpos) (Cs xs ty):=by
 intro pins s σ H Q I h;refine wpAny_Call_method m.base m.few m.line PySem.F.plainAttrs_dict Fz PySem.F.type_dict_get (dq I hg hm ?_ hd);have kin:∀ {s1:Shared}{H1:Hp},ar X pins σ H1 s1->X.K.In s1.heap:=fun I1 a o e=>I1.bk a o (I1.mod.kin a o e);obtain⟨ts,hl,dd⟩:=u4 (P:=X.prog) g (kin I);refine⟨dd.typeIs,fun b q=>?_,?_⟩
 ·cases q
  obtain⟨ob,_,_,h1,h2,_⟩:=dd;exact⟨ob,h1,h2.2.1⟩
 rw[m.trees];refine Fi rfl (E6 (EM (aU (he pins s σ H _ I h) fun iv s2 ⟨y,H2,I2,ry,z,e1,q2⟩=>Ff ?_)));subst e1;obtain⟨t,rfl⟩:=ry;obtain⟨ts2,hl2,dd2⟩:=u4 (P:=X.prog) g (kin I2);exact call_meetsIn Fz dd2.typeIs PySem.F.entry_dict_get (PySem.F.args_dict_get_2 _ _) (meets_dict_get (aX X.prog X.w) a (eX X.prog X.w z t) g.ns) ⟨_,dd2.mapOf,_,H2,I2.tok _,xz xs ts2 z hl2,q2⟩
end L2
namespace Wz
open PySem L2
theorem xS (ds:List Nat)(e:Nat):numV (ds++[e])=numV ds*10+e:=by unfold numV;rw[List.foldl_append];rfl
theorem C4 (n:Nat):∃ ds:List Nat,(Nat.toDigits 10 n).map Char.toNat=ds.map (·+48)/\ds≠[]/\(ds.head? = some 0->n=0)/\(∀ e∈ds,e<10)/\numV ds=n/\(n=0->ds=[0])/\∀ k,1<=k->n<10 ^ k->ds.length<=k:=by
 induction n using Nat.strongRecOn with
 | _ n ih =>
  have dc:∀ d,d<10->(Nat.digitChar d).toNat=d+48:=fun d h=>by
   rcases j8 h with rfl | rfl | rfl | rfl | rfl | rfl | rfl | rfl | rfl | rfl<;>rfl
  by_cases h:n<10
  ·rw[Nat.toDigits_of_lt_base h]
   refine⟨[n],by show [(Nat.digitChar n).toNat]=[n+48];rw[dc n h],by simp,fun z=>by simpa using z,fun e he=>by rw[Et.mp he];exact h,by show 0*10+n=n;omega,fun z=>by rw[z],fun k hk _=>by simpa using hk⟩
  ·rw[Nat.toDigits_of_base_le (by decide) (by omega)]
   obtain⟨ds,h1,h2,h3,h4,h5,_,h6⟩:=ih (n/10) (by omega);refine⟨ds++[n%10],?_,by simp,fun z=>?_,fun e he=>?_,?_,fun z=>by omega,fun k hk hn=>?_⟩
   ·rw[Es,h1,Es]
    show _++[(Nat.digitChar (n%10)).toNat]=_++[n%10+48]
    rw[dc _ (by omega)]
   ·cases ds with
    | nil=>exact absurd rfl h2
    | cons d ds=>have:=h3 z;omega
   ·rcases EA.mp he with y | y
    ·exact h4 e y
    ·rw[Et.mp y];omega
   ·rw[xS,h5];omega
   ·rw[El,EG]
    cases k with
    | zero=>omega
    | succ k =>
     by_cases k0:k=0
     ·subst k0;omega
     ·have:=h6 k (by omega) (by rw[Nat.pow_succ]at hn;omega)
      omega
theorem zB {g:Int}(h0:0<=g)(h:g<10 ^ 12):∃ ds,Num (dF g) ds/\(numV ds:Int)=g:=by
 obtain⟨n,rfl⟩:=Int.eq_ofNat_of_zero_le h0;obtain⟨ds,h1,h2,h3,h4,h5,h7,h6⟩:=C4 n;refine⟨ds,⟨?_,h2,fun z=>?_,h4,h6 12 (by decide) (by omega)⟩,by rw[h5]⟩
 ·unfold dF
  rw[show toString (n:Int)=String.ofList (Nat.toDigits 10 n) from rfl,Str.ofString_eq_toList]
  show ((String.ofList (Nat.toDigits 10 n)).toList.map Char.toNat)=_
  rw[String.toList_ofList,h1]
 ·have hn:=h3 z
  exact h7 hn
theorem xT {z:Str}{ds es:List Nat}(a:Num z ds)(b:Num z es):ds=es:=by
 have:=a.eq.symm.trans b.eq;exact (List.map_inj_right (fun x y e=>by omega)).mp this
end Wz
namespace L2
open PySem PySem.Spec PyProof.Rows
theorem su {X:Cx}{x:Str}{v:V}{pos:Pos}(hg:Gl X x)(hm:∃ u,X.mg x=some u/\aI v u)(hd:(x == ("__debug__" : Str))=false:=by decide):PE X (.Name x pos) (tC v):=by
 obtain⟨u,hm,r⟩:=hm;exact vm hg hm r hd
end L2
namespace Wz
open PySem L2
def sizesD:List (Str×Int):=[("come",2),("go",2),("exchange",3)]
structure HB (K:PySem.W.Frag)(mg:Str->Option Value)(w:World)(dz:Addr):Prop where
 md:∃ u,mg "MOST_DIGITS" = some u/\aI (.int 12) u
 dg:∃ u,mg "DIGITS" = some u/\aI (.str "0123456789") u
 ms:mg "DEED_SIZES" = some (.ref dz)
 gd:GD K w.params dz sizesD
inductive zW (vs:List V) (H:Hp) (Q:VK) (E:XK):Prop
 | mk (z:Str) (h_0:vs=[.str z]) (h_1:yQ z) (h_2:z.length<=100000) (h_3:∀ ds H',Num z ds->aE H H'->Q (.int (numV ds)) H') (h_4:(∀ ds,¬ Num z ds)->∀ H',aE H H'->Q .non H'):zW vs H Q E
theorem wQ {te:TE}{Qf:Hp->Prop}{x:Str}{q:Addr}{f:Nat->Bool}{rest:L2.St}{H:Hp}(hq:H q=none)(hlen:x.cps.toList.length<=1000)
  (ht:∀ (c:Nat)(HK:Hp)(Q':VK),aE H HK->(∀ H5,aE HK H5->Q' (.bl (f c)) H5)->te (some (.str ⟨#[c]⟩)::rest) HK Q') (k:∀ (HK:Hp),aE H HK->HK q=some (.lst ((x.cps.toList.map f).map V.bl))->Qf HK) :
  kT (Bx x) (mG 0) (yP uJ te q) { nx:=fun _ H'=>Qf H',rt:=fun _ _=>False } (none::rest) (upd H q (.lst [])):=by
 refine y9 (fun i σ HK=>∃ v:Option V,σ=v::rest/\aE H HK/\HK q=some (.lst (((x.cps.toList.take i).map f).map V.bl))) ⟨none,rfl,ah hq,ac⟩ ?_ ?_
 ·rintro i c σ HK hi ⟨v,rfl,t1,hq2⟩
  have hil:i<x.cps.toList.length:=(List.getElem?_eq_some_iff.mp hi).1;refine gE (ht c HK _ t1 fun H5 s5=>⟨_,s5 _ _ hq2,by rw[D6,D6,EE];exact aS (by omega),_,rfl,bX (t1.trans s5) hq,?_⟩);rw[ac,E8,hi,Fb,Es,Es];rfl
 ·rintro σ HK ⟨v,rfl,t1,hq2⟩
  rw[Fc]at hq2;exact k HK t1 hq2
def jx (c:Nat):Bool:=decide (48<=c/\c<58)
theorem AI (c:Nat):(!(Builtin.Str.occurrences (Str.ofString "0123456789") ⟨#[c]⟩ 0 (Str.ofString "0123456789").length 1).isEmpty)=jx c:=by
 rw[StrLaws.found_one]
 have e:(Str.ofString "0123456789").cps.toList=[48,49,50,51,52,53,54,55,56,57]:=by decide +kernel
 rw[e];unfold jx;rw[decide_eq_decide];simp only[Eh,List.not_mem_nil,or_false];omega
theorem iA (z:Str):(∃ ds,Num z ds)↔1<=z.length/\z.length<=12/\(∀ c∈z.cps.toList,jx c=true)/\¬ (z.cps.toList.head? = some 48/\z.cps.toList≠[48]):=by
 have hz:z.length=z.cps.toList.length:=by rw[ED];rfl
 rw[hz];constructor
 ·rintro⟨ds,N⟩
  have h1:=N.ne;have h2:=N.ln;have h3:=N.nz;rw[N.eq,D6];refine⟨?_,h2,fun c hc=>?_,fun ⟨a,b⟩=>?_⟩
  ·cases ds with
   | nil=>exact absurd rfl h1
   | cons _ _=>simp
  ·obtain⟨e,he,rfl⟩:=Ez.mp hc
   have:=N.dg e he;exact Ee ⟨by omega,by omega⟩
  ·cases ds with
   | nil=>exact absurd rfl h1
   | cons d ds =>
    have d0:d=0:=by simpa using a
    have:=h3 (by rw[d0];rfl);rw[this]at b;exact b rfl
 ·rintro⟨h1,h2,h3,h4⟩
  have hd:∀ c∈z.cps.toList,48<=c/\c<58:=fun c hc=>ER (h3 c hc);refine⟨z.cps.toList.map (· - 48),⟨?_,?_,fun q=>?_,fun e he=>?_,by rw[D6];exact h2⟩⟩
  ·rw[EH]
   refine Eq.symm ((ET (g:=id) fun c hc=>?_).trans (List.map_id _));have:=hd c hc
   show c-48+48=c
   omega
  ·intro q
   have:=E9 List.length q;rw[D6]at this;have this:z.cps.toList.length=0:=this;omega
  ·rw[List.head?_map]at q
   cases hc:z.cps.toList.head? with
   | none=>rw[hc]at q;cases q
   | some c =>
    rw[hc]at q;have q:c-48=0:=Ef q;have cm:c∈z.cps.toList:=List.mem_of_mem_head? hc;have:=hd c cm
    have c48:c=48:=by omega
    have l48:z.cps.toList=[48]:=Classical.byContradiction fun n=>h4 ⟨by rw[hc,c48],n⟩;rw[l48];rfl
  ·obtain⟨c,hc,rfl⟩:=Ez.mp he
   have:=hd c hc;omega
theorem uI {z y:Str}:decide (V.str z=V.str y)=decide (z.cps.toList=y.cps.toList):=by
 rw[decide_eq_decide];constructor
 ·intro e;rw[V.str.inj e]
 ·intro e
  obtain⟨⟨l⟩⟩:=z;obtain⟨⟨m⟩⟩:=y;have e:l=m:=e;rw[e]
open Classical in
noncomputable def numW (z:Str):V:=if h:∃ ds,Num z ds then .int (numV h.choose) else .non
theorem ng {z:Str}{ds:List Nat}(h:Num z ds):numW z=.int (numV ds):=by
 have e:∃ ds,Num z ds:=⟨ds,h⟩;unfold numW;rw[dif_pos e,xT e.choose_spec h]
theorem r6 {z:Str}(h:∀ ds,¬ Num z ds):numW z=.non:=by
 unfold numW;rw[dif_neg fun ⟨ds,e⟩=>h ds e]
theorem kq (z:Str):fL (numW z)=true:=by
 unfold numW;split<;>rfl
theorem lK {c:Nat}:∀ {l p:List Nat},p∈iI c l->(∀ a∈p,a∈l)/\p.length<=l.length
 | [],p,h=>by
  rw[show iI c []=[[]] from rfl,Et]at h;subst h;exact⟨fun a ha=>(by cases ha),D9 _⟩
 | b::l,p,h=>by
  rw[bz]at h
  by_cases z:b=c
  ·rw[D8 z]at h
   rcases Eh.mp h with e | e
   ·subst e;exact⟨fun a ha=>(by cases ha),Ey _⟩
   ·have:=lK e
    exact⟨fun a ha=>Eb _ (this.1 a ha),Nat.le_succ_of_le this.2⟩
  ·rw[D7 z]at h
   cases hs:iI c l with
   | nil =>
    rw[hs]at h;have e:=Et.mp h;subst e;exact⟨fun a ha=>by rw[Et.mp ha];exact Ec,by simp⟩
   | cons q qs =>
    rw[hs]at h;rcases Eh.mp h with e | e
    ·subst e
     have:=lK (c:=c) (l:=l) (p:=q) (by rw[hs];exact Ec)
     exact⟨fun a ha=>by
      rcases Eh.mp ha with y | y
      ·rw[y];exact Ec
      ·exact Eb _ (this.1 a y),Nat.succ_le_succ this.2⟩
    ·have:=lK (c:=c) (l:=l) (p:=p) (by rw[hs];exact Eb _ e)
     exact⟨fun a ha=>Eb _ (this.1 a ha),Nat.le_succ_of_le this.2⟩
theorem qt (c:Nat):∀ l:List Nat,(iI c l).length<=l.length+1/\iI c l≠[]
 | []=>⟨D9 _,by simp[iI]⟩
 | b::l=>by
  have ih:=qt c l;rw[bz]
  by_cases z:b=c
  ·rw[D8 z];exact⟨by rw[Eu,Eu];omega,by simp⟩
  ·rw[D7 z]
   cases hs:iI c l with
   | nil=>exact absurd hs ih.2
   | cons q qs=>rw[hs]at ih;exact⟨by have:=ih.1;rw[Eu]at *;rw[Eu];omega,by simp⟩
def fH (c:Nat)(z:Str):List Str:=Txt.split z ⟨#[c]⟩
theorem eP {c:Nat}(hc:c<256)(z:Str):(fH c z).map (·.cps.toList)=iI c z.cps.toList:=wN z hc
theorem pS {c:Nat}(hc:c<256){z:Str}{ws:List Str}(h:ws.map (·.cps.toList)=iI c z.cps.toList):fH c z=ws:=by
 have:=(eP hc z).trans h.symm
 exact (List.map_inj_right (fun x y e=>by
  obtain⟨⟨l⟩⟩:=x;obtain⟨⟨m⟩⟩:=y;have e:l=m:=e
  rw[e])).mp this
theorem w4 {c:Nat}(hc:c<256)(z:Str):∃ w ws,fH c z=w::ws:=by
 cases e:fH c z with
 | nil =>
  have:=eP hc z;rw[e]at this;exact absurd this.symm (qt c _).2
 | cons w ws=>exact⟨w,ws,rfl⟩
theorem w5 {c:Nat}(hc:c<256){z:Str}(a:yQ z):(fH c z).length<=z.length+1/\∀ w∈fH c z,yQ w/\w.length<=z.length:=by
 have hz:z.length=z.cps.toList.length:=by rw[ED];rfl
 have e:=eP hc z;refine⟨?_,fun w hw=>?_⟩
 ·rw[<-D6 (f:=(·.cps.toList)),e,hz]
  exact (qt c _).1
 ·have hm:w.cps.toList∈iI c z.cps.toList:=by rw[<-e];exact FF (f:=(·.cps.toList)) hw
  have:=lK hm;refine⟨?_,by rw[hz];show w.cps.size<=_;rw[<-ED];exact this.2⟩;unfold yQ at a ⊢;rw[<-Array.all_toList,EQ]at a ⊢;exact fun x hx=>a x (this.1 x hx)
theorem wk {K:PySem.W.Frag}{te:TE}{Qf:Hp->Prop}{lr q:Addr}{α:Type}(g:α->V){rs:List α}{f:α->V}{rest:L2.St}{H:Hp}(hq:H q=none)(h1:H lr=some (.lst (rs.map g)))(hlen:rs.length<=1000)
  (ht:∀ (r:α)(HK:Hp)(Q':VK),r∈rs->aE H HK->(∀ H5,aE HK H5->Q' (f r) H5)->te (some (g r)::rest) HK Q') (k:∀ (HK:Hp),aE H HK->HK q=some (.lst (rs.map f))->Qf HK) :
  kT (Bv K lr) (mG 0) (yP uJ te q) { nx:=fun _ H'=>Qf H',rt:=fun _ _=>False } (none::rest) (upd H q (.lst [])):=by
 refine cD (K:=K) (a:=lr) (xs:=rs.map g) (fun i σ HK=>∃ v:Option V,σ=v::rest/\aE H HK/\HK q=some (.lst ((rs.take i).map f))) ⟨none,rfl,ah hq,ac⟩ (fun i σ HK _ ⟨_,_,s2,_⟩=>be.of (s2 _ _ h1)) ?_ ?_
 ·rintro i y σ HK hi ⟨v,rfl,t1,hq2⟩
  obtain⟨r,hr0,rfl⟩:=bL hi;have hil:i<rs.length:=(List.getElem?_eq_some_iff.mp hr0).1;refine gE (ht r HK _ (EB hr0) t1 fun H5 s5=>⟨_,s5 _ _ hq2,by rw[D6,EE];exact aS (by omega),_,rfl,bX (t1.trans s5) hq,?_⟩);rw[ac,E8,hr0,Fb,Es];rfl
 ·rintro σ HK ⟨v,rfl,t1,hq2⟩
  rw[D6,Fc]at hq2;exact k HK t1 hq2
inductive zV (vs:List V) (H:Hp) (Q:VK) (E:XK):Prop
 | mk (z w0:Str) (ws:List Str) (h_0:vs=[.str z]) (h_1:yQ z) (h_2:z.length<=900) (h_3:fH 32 z=w0::ws) (h_4:(∀ w∈ws,∃ ds,Num w ds)->∀ (t:Addr)(H':Hp),H t=none->aE H H'->H' t=some (.tup (.str w0::ws.map numW))->Q (.ref t) H') (h_5:(∃ w∈ws,∀ ds,¬ Num w ds)->∀ H',aE H H'->Q .non H'):zV vs H Q E
def aZ (x:Str):List Nat:=x.cps.toList
theorem gi (x:Str):x.length=(aZ x).length:=by unfold aZ;rw[ED];rfl
theorem ir (x y:Str):aZ (x++y)=aZ x++aZ y:=by
 show (x.cps++y.cps).toList=_
 rw[Array.toList_append];rfl
theorem pq (g:Array Nat):∀ (ps:List Str)(a:Array Nat),(ps.foldl (fun acc p=>acc++g++p.cps) a).toList=a.toList++(ps.map fun p=>g.toList++aZ p).flatten
 | [],a=>by simp
 | p::ps,a=>by
  rw[List.foldl_cons,pq g ps];simp[aZ]
theorem u7 (sep p:Str)(ps:List Str):aZ (Txt.join sep (p::ps))=aZ p++(ps.map fun q=>aZ sep++aZ q).flatten:=by
 unfold Txt.join Builtin.Str.glued
 show ((ps.foldl (fun acc p=>acc++sep.cps++p.cps) p.cps)).toList=_
 rw[pq];rfl
def tj (g:Int):Prop:=0<=g/\g<10 ^ 12
theorem nc {g:Int}(h:tj g):∃ ds,Num (dF g) ds/\(numV ds:Int)=g:=zB h.1 h.2
theorem A2 {g:Int}(h:tj g):numW (dF g)=.int g:=by
 obtain⟨ds,N,e⟩:=nc h;rw[ng N,e]
theorem d5 {g:Int}(h:tj g):(∀ c∈aZ (dF g),48<=c/\c<58)/\(aZ (dF g)).length<=12:=by
 obtain⟨ds,N,e⟩:=nc h;unfold aZ;rw[N.eq];refine⟨fun c hc=>?_,by rw[D6];exact N.ln⟩;obtain⟨d,hd,rfl⟩:=Ez.mp hc;have:=N.dg d hd;exact⟨by omega,by omega⟩
theorem pR (d:au):(∀ c∈aZ (bA d),97<=c/\c<123)/\(aZ (bA d)).length<=8:=by
 have e1:aZ (Str.ofString "come")=[99,111,109,101]:=by decide +kernel
 have e2:aZ (Str.ofString "go")=[103,111]:=by decide +kernel
 have e3:aZ (Str.ofString "exchange")=[101,120,99,104,97,110,103,101]:=by decide +kernel
 cases d with
 | come g=>show (∀ c∈aZ (Str.ofString "come"),_)/\(aZ (Str.ofString "come")).length<=8;rw[e1];decide
 | go g=>show (∀ c∈aZ (Str.ofString "go"),_)/\(aZ (Str.ofString "go")).length<=8;rw[e2];decide
 | exch a b=>show (∀ c∈aZ (Str.ofString "exchange"),_)/\(aZ (Str.ofString "exchange")).length<=8;rw[e3];decide
theorem qv (d:au):aZ (bf d)=aZ (bA d)++((names d).map fun g=>32::aZ (dF g)).flatten:=by
 unfold bf iq;rw[u7,EH]
 have e:aZ (Str.ofString " ")=[32]:=by decide +kernel
 have e2:(fun q=>aZ (Str.ofString " ")++aZ q) ∘ dF=fun g=>32::aZ (dF g):=funext fun g=>by
  show aZ (Str.ofString " ")++_=_
  rw[e];rfl
 rw[e2]
theorem pN {p:List Nat}:∀ {qs:List (List Nat)}{p:List Nat},32∉p->(∀ q∈qs,32∉q)->iI 32 (p++(qs.map fun q=>32::q).flatten)=p::qs
 | [],p,hp,_=>by rw[List.map_nil,List.flatten_nil,Fy,re hp]
 | q::qs,p,hp,hq=>by
  rw[Er,List.flatten_cons,List.cons_append,rc _ hp];rw[pN (p:=q) (hq q Ec) fun r hr=>hq r (Eb _ hr)]
theorem mO {d:au}(h:∀ g∈names d,tj g):fH 32 (bf d)=bA d::(names d).map dF:=by
 refine pS (by decide) ?_
 show _=iI 32 (aZ (bf d))
 rw[qv,show ((names d).map fun g=>32::aZ (dF g))=((names d).map fun g=>aZ (dF g)).map fun q=>32::q by rw[EH];rfl,pN (p:=[])]
 ·rw[Er,EH];rfl
 ·intro z;have:=(pR d).1 32 z;omega
 ·intro q hq z
  obtain⟨g,hg,rfl⟩:=Ez.mp hq;have:=(d5 (h g hg)).1 32 z;omega
theorem d4 {d:au}(h:∀ g∈names d,tj g):(∀ c∈aZ (bf d),32<=c/\c<128)/\(aZ (bf d)).length<=40:=by
 rw[qv];have w:=pR d;refine⟨fun c hc=>?_,?_⟩
 ·rcases EA.mp hc with z | z
  ·have:=w.1 c z;omega
  ·obtain⟨l,hl,hc⟩:=List.mem_flatten.mp z
   obtain⟨g,hg,rfl⟩:=Ez.mp hl;rcases Eh.mp hc with y | y
   ·omega
   ·have:=(d5 (h g hg)).1 c y;omega
 ·cases d with
  | come g =>
   have:=(d5 (h g Ec)).2;rw[El]
   have e:((names (.come g)).map fun g=>32::aZ (dF g)).flatten=32::aZ (dF g):=by simp[names]
   rw[e,Eu];omega
  | go g =>
   have:=(d5 (h g Ec)).2;rw[El]
   have e:((names (.go g)).map fun g=>32::aZ (dF g)).flatten=32::aZ (dF g):=by simp[names]
   rw[e,Eu];omega
  | exch a b =>
   have h1:=(d5 (h a Ec)).2;have h2:=(d5 (h b (Eb _ Ec))).2;rw[El]
   have e:((names (.exch a b)).map fun g=>32::aZ (dF g)).flatten=32::aZ (dF a)++32::aZ (dF b):=by simp[names]
   rw[e,El,Eu,Eu];omega
theorem AF {x:Str}(h:∀ c∈aZ x,c<128):yQ x:=by
 unfold yQ;rw[<-Array.all_toList,EQ];exact fun c hc=>Ee (h c hc)
structure CQ (K:PySem.W.Frag)(mg:Str->Option Value)(w:World)(c:HX)(dz:Addr):Prop extends HB K mg w dz where
 ha:PySem.W.findIn K (.ref c.C) "__class__" = some (some (.builtin "object.__class__"))
 hn:PySem.W.specialIn K (.builtin "object.__class__") "__get__" = some (some (.builtin "getset_descriptor.__get__"))
 ht:PySem.W.takesIn K (.builtin "object.__class__")=some true
 hm:PySem.W.mroIn K c.C (.type "object")=some true
 kk:PySem.W.kitOne K (.ref c.C) (.ref c.C)=some true
theorem ze (k c:Int):tj (jv k c):=by
 unfold tj jv;have h:=EJ (k*(1+cB c*1234567891%2147483646)+cB c/2147483646) (show (2147483647:Int)≠0 by decide);have h2:=EF (k*(1+cB c*1234567891%2147483646)+cB c/2147483646) (show (0:Int)<2147483647 by decide);dsimp only;generalize (k*(1+cB c*1234567891%2147483646)+cB c/2147483646)%2147483647=y at h h2;split<;>omega
theorem pH {m c g:Int}(h:g∈aO m c):tj g:=by
 unfold aO at h;obtain⟨k,_,rfl⟩:=Ez.mp h;exact ze _ _
structure Ay (K:PySem.W.Frag)(mg:Str->Option Value)(w:World)(c:HX)(dz cQ fQ:Addr):Prop extends CQ K mg w c dz where
 eQ:gj K cQ fQ=true
 gQ:Az K cQ "place"
 tQ:PySem.W.typeIn K (.ref fQ)=some (.type "function")
 mQ:mg "NoText" = some (.ref cQ)
 qq:PySem.W.exmOne K (.ref cQ) (.ref cQ)=some true
 aq:PySem.W.exmOne K (.ref c.cA) (.ref cQ)=some false
 nq:PySem.W.exmOne K (.ref c.cN) (.ref cQ)=some false
 mq:PySem.W.exmOne K (.ref c.cM) (.ref cQ)=some false
 sq:PySem.W.exmOne K (.ref c.cS) (.ref cQ)=some false
 tq:PySem.W.exmOne K (.ref c.cT) (.ref cQ)=some false
def l9 (P:Program)(w:World)(K:PySem.W.Frag)(mg:Str->Option Value)(base:Heap)(cQ fQ:Addr):Prop:=∃ fd:FuncData,aV P w K mg base cz 1 fQ fd ["self","place"] (wM cQ "place")/\dy K fd ["self","place"] []
theorem vi {X:Cx}{c:HX}{dz cQ fQ:Addr}{E:XK}{e:Expr}{te:TE}{np cpos pos:Pos}(N:l9 X.prog X.w X.K X.mg X.base cQ fQ)(U:Ay X.K X.mg X.w c dz cQ fQ)(hr:bN 2 X.A)(hfl:rn X E)(hex:X.ex=[])(hh:X.A.handled=none)(hg:Gl X "NoText")(he:PE X e te)
  (hs:starEach [e] X.env=[(false,eval e X.env)]:=by rfl):PS X (.Raise (some (.Call (.Name "NoText" np) [e] [] cpos)) none pos) (rg te cQ "place" E):=by
 obtain⟨fd,G,hb⟩:=N;exact pM U.eQ U.tQ G hr hb hfl hex hh hg U.mQ he (by decide) hs
inductive RO where
 | done | notext (k:Int) | out (o:vN)
def b6 (st:bI)(k:Nat):List (Option au)->Bool->RO×bI
 | [],tail=>(if tail=true then .notext ((k:Int)+1) else .done,st)
 | none::_,_=>(.notext ((k:Int)+1),st)
 | some d::l,tail=>if aK st d=.done then b6 (after st d) (k+1) l tail else (.out (aK st d),st)
def uQ (c:HX)(cQ:Addr)(E:XK)(H:Hp):RO->Prop
 | .done=>False
 | .notext k=>∀ dx H',aE H H'->H' dx=some (.xd [("place",.int k)])->E (.ref cQ) (some dx) H'
 | .out o=>f7 c E H o
theorem f7.mono {c:HX}{E:XK}{H H1:Hp}{o:vN}(h:f7 c E H o)(s:aE H H1):f7 c E H1 o:=by
 cases o with
 | done=>exact h
 | already=>exact fun H' s'=>h H' (s.trans s')
 | masked=>exact fun H' s'=>h H' (s.trans s')
 | same=>exact fun H' s'=>h H' (s.trans s')
 | met=>exact fun H' s'=>h H' (s.trans s')
 | noguest g=>exact fun dx H' s' e=>h dx H' (s.trans s') e
structure lW (z:Str):Prop where
 asc:∀ c∈aZ z,32<=c/\c<128
 len:(aZ z).length<=100
 bad:∃ w0 ws,fH 32 z=w0::ws/\((∃ w∈ws,∀ ds,¬ Num w ds)\/hJ sizesD w0≠.int ((ws.length+1:Nat):Int))
def rp (L:List Int)(q:Str×Option au):Prop:=match q.2 with
 | some d=>q.1=bf d/\∀ g∈names d,g∈L/\bF g/\tj g
 | none=>lW q.1
structure pV (L:List Int)(qs:List (Str×Option au))(tl z:Str):Prop where
 ok:∀ q∈qs,rp L q
 cp:aZ z=(qs.map fun q=>aZ q.1++[10]).flatten++aZ tl
 ta:∀ c∈aZ tl,32<=c/\c<128
 tn:(aZ tl).length<=100
theorem jB {L:List Int}{q:Str×Option au}(h:rp L q):(∀ c∈aZ q.1,32<=c/\c<128)/\(aZ q.1).length<=100:=by
 obtain⟨z,o⟩:=q
 cases o with
 | none=>have h:lW z:=h;exact⟨h.asc,h.len⟩
 | some d =>
  have h:z=bf d/\∀ g∈names d,g∈L/\bF g/\tj g:=h;have:=d4 fun g hg=>(h.2 g hg).2.2
  show (∀ c∈aZ z,_)/\(aZ z).length<=100
  rw[h.1];exact⟨this.1,by omega⟩
theorem yA {L:List Int}{qs:List (Str×Option au)}{tl z:Str}(h:pV L qs tl z):fH 10 z=qs.map (·.1)++[tl]:=by
 refine pS (by decide) ?_
 show _=iI 10 (aZ z)
 rw[h.cp]
 have n10:10∉aZ tl:=fun z=>by have:=h.ta 10 z;omega
 have ok:=h.ok;clear h
 induction qs with
 | nil =>
  rw[List.map_nil,List.map_nil,List.nil_append,List.flatten_nil,List.nil_append,re n10];rfl
 | cons q qs ih =>
  have nq:10∉aZ q.1:=fun z=>by have:=(jB (ok q Ec)).1 10 z;omega
  have e9:((q::qs).map fun q=>aZ q.1++[10]).flatten++aZ tl=aZ q.1++10::((qs.map fun q=>aZ q.1++[10]).flatten++aZ tl):=by simp
  rw[e9,rc _ nq,<-ih fun x hx=>ok x (Eb _ hx)];rfl
theorem yz {L:List Int}{qs:List (Str×Option au)}{tl z:Str}(h:pV L qs tl z):z.length<=101*qs.length+100:=by
 rw[gi,h.cp,El];have tn:=h.tn;have ok:=h.ok;clear h
 have:((qs.map fun q=>aZ q.1++[10]).flatten).length<=101*qs.length:=by
  induction qs with
  | nil=>exact D9 _
  | cons q qs ih =>
   have l1:=(jB (ok q Ec)).2;have:=ih fun x hx=>ok x (Eb _ hx);rw[Er,List.flatten_cons,El,El,EG,Eu];omega
 omega
def cF (tl:Str):Bool:=!decide (aZ tl=[])
inductive jU (c:HX) (cQ:Addr) (vs:List V) (H:Hp) (Q:VK) (E:XK):Prop
 | mk (qs:List (Str×Option au)) (tl z:Str) (L:List Int) (h_0:vs=[.str z]) (h_1:pV L qs tl z) (h_2:qs.length<=60) (h_3:L.length<=100) (h_4:(b6 ⟨[],[],[],[]⟩ 0 (qs.map (·.2)) (cF tl)).1=.done->∀ (x:Addr)(B:HA)(H':Hp),H x=none->Ev c H H' x B (b6 ⟨[],[],[],[]⟩ 0 (qs.map (·.2)) (cF tl)).2->Q (.ref x) H') (h_5:(b6 ⟨[],[],[],[]⟩ 0 (qs.map (·.2)) (cF tl)).1≠.done->uQ c cQ E H (b6 ⟨[],[],[],[]⟩ 0 (qs.map (·.2)) (cF tl)).1):jU c cQ vs H Q E
theorem gq {st:bI}{k:Nat}{d:au}{l:List (Option au)}{t:Bool}(h:aK st d=.done):b6 st k (some d::l) t=b6 (after st d) (k+1) l t:=by
 show (if aK st d=.done then _ else _)=_
 rw[D8 h]
theorem iE {st:bI}{k:Nat}{d:au}{l:List (Option au)}{t:Bool}(h:aK st d≠.done):b6 st k (some d::l) t=(.out (aK st d),st):=by
 show (if aK st d=.done then _ else _)=_
 rw[D7 h]
theorem nO:∀ (l:List (Option au))(st:bI)(k:Nat)(t:Bool),(b6 st k l t).1≠.out .done
 | [],st,k,t=>by
  show (if t=true then RO.notext ((k:Int)+1) else .done)≠_
  split<;>(intro z;cases z)
 | none::_,st,k,t=>fun z=>by cases z
 | some d::l,st,k,t=>by
  by_cases h:aK st d=.done
  ·rw[gq h];exact nO l _ _ t
  ·rw[iE h]
   intro z;exact h (RO.out.inj z)
def oV:RO->List V
 | .done=>[.str "done",.non]
 | .notext k=>[.str "NoText",.int k]
 | .out o=>wD o
def DN (c:HX)(H H':Hp)(ro:RO)(st:bI)(fv:V):Prop:=match ro with
 | .done=>∃ x B,fv=.ref x/\H x=none/\Ev c H H' x B st
 | _=>fv=.non
inductive vA (c:HX) (vs:List V) (H:Hp) (Q:VK) (E_:XK):Prop
 | mk (qs:List (Str×Option au)) (tl z:Str) (L:List Int) (h_0:vs=[.str z]) (h_1:pV L qs tl z) (h_2:qs.length<=60) (h_3:L.length<=100) (h_4:∀ (r tw:Addr)(fv:V)(H':Hp),aE H H'->H r=none->H tw=none->H' r=some (.tup [.ref tw,fv])->H' tw=some (.tup (oV (b6 ⟨[],[],[],[]⟩ 0 (qs.map (·.2)) (cF tl)).1))->DN c H H' (b6 ⟨[],[],[],[]⟩ 0 (qs.map (·.2)) (cF tl)).1 (b6 ⟨[],[],[],[]⟩ 0 (qs.map (·.2)) (cF tl)).2 fv->Q (.ref r) H'):vA c vs H Q E_
theorem zG {c:HX}{cQ:Addr}{H:Hp}{Q:VK}{E:XK}{qs:List (Str×Option au)}{tl z:Str}{L:List Int}(h_1:pV L qs tl z)(h_2:qs.length<=60)(h_3:L.length<=100)
  (h:((b6 ⟨[],[],[],[]⟩ 0 (qs.map (·.2)) (cF tl)).1=.done->∀ (x:Addr)(B:HA)(H':Hp),H x=none->Ev c H H' x B (b6 ⟨[],[],[],[]⟩ 0 (qs.map (·.2)) (cF tl)).2->Q (.ref x) H')/\((b6 ⟨[],[],[],[]⟩ 0 (qs.map (·.2)) (cF tl)).1≠.done->uQ c cQ E H (b6 ⟨[],[],[],[]⟩ 0 (qs.map (·.2)) (cF tl)).1)):jU c cQ [.str z] H Q E:=⟨qs,tl,z,L,rfl,h_1,h_2,h_3,h.1,h.2⟩
end Wz
namespace L2
open PySem PySem.Spec PyProof.Rows
theorem qR {M:Model}{Γ:PySem.Ctx}{p:Pos}{t:Sem Fin}{fs:List Frame}{s s':Shared}{e:End}(h:Runs M Γ p t fs s e s'):s.toks<=s'.toks:=by
 induction h<;>(try simp only[Shared.setGen]at *)<;>first | omega | exact D9 _ | (rename_i ih;exact EC (Fw _) ih) | assumption
theorem yC {M:Model}{Γ:PySem.Ctx}{p:Pos}{g:Nat}{r:Resume}{s s':Shared}{res:GenResult}(h:Wakes M Γ p g r s res s'):s.toks<=s'.toks:=by
 unfold Wakes at h;split at h
 ·exact h.elim
 ·split at h
  ·obtain⟨_,s1,h1,_,_,rfl⟩:=h
   exact (show (s.setGen g .running).toks<=s1.toks from qR h1)
  ·rw[h.2];exact D9 _
  ·rw[h.2];exact D9 _
 ·obtain⟨_,s1,h1,_,_,rfl⟩:=h
  exact (show (s.setGen g .running).toks<=s1.toks from qR h1)
 ·rw[h.2];exact D9 _
 ·rw[h.2];exact D9 _
theorem CG {α:Type}{M:Model}{Γ:PySem.Ctx}(n:Nat)(t:Sem α):∀ {Q:α->Pos->Shared->Prop}{E:Value->Pos->Shared->Prop}{p:Pos}{s:Shared},n<=s.toks->Sem.wp M Γ t Q E p s ->
  Sem.wp M Γ t (fun a p' s'=>Q a p' s'/\n<=s'.toks) (fun e p' s'=>E e p' s'/\n<=s'.toks) p s:=by
 induction t with
 | call c h g l k ih =>
  intro Q E p s hn hw;rw[Sem.wp_call]at hw ⊢;obtain⟨r,s1,hr,hk⟩:=hw;exact⟨r,s1,hr,ih r (EC hn (qR hr)) hk⟩
 | resume g r l k ih =>
  intro Q E p s hn hw;rw[Sem.wp_resume]at hw ⊢;obtain⟨res,s1,hr,hk⟩:=hw;exact⟨res,s1,hr,ih res (EC hn (yC hr)) hk⟩
 | fresh k ih =>
  intro Q E p s hn hw;rw[Sem.wp_fresh]at hw ⊢;exact ih _ (show n<=s.toks+1 from Nat.le_succ_of_le hn) hw
 | pure a =>
  intro Q E p s hn hw;rw[Sem.wp]at hw ⊢;exact⟨hw,hn⟩
 | raise a =>
  intro Q E p s hn hw;rw[Sem.wp]at hw ⊢;exact⟨hw,hn⟩
 | load a pt k ih =>
  intro Q E p s hn hw;rw[Sem.wp]at hw ⊢;obtain⟨o,ho,hk⟩:=hw;exact⟨o,ho,ih _ hn hk⟩
 | update a pt f k ih =>
  intro Q E p s hn hw;rw[Sem.wp]at hw ⊢;exact⟨hw.1,ih _ (show n<=s.toks from hn) hw.2⟩
 | choose a b k ih =>
  intro Q E p s hn hw;rw[Sem.wp]at hw ⊢;exact⟨hw.1,ih _ (show n<=s.toks from hn) hw.2⟩
 | genState g k ih =>
  intro Q E p s hn hw;rw[Sem.wp]at hw ⊢;obtain⟨o,ho,hk⟩:=hw;exact⟨o,ho,ih _ hn hk⟩
 | _ =>
  intro Q E p s hn hw;rw[Sem.wp]at hw ⊢
  first
   | exact hw
   | (rename_i ih;exact ih _ hn hw)
theorem tG {α:Type}{M:Model}{A:Around}{t:Sem α}{Q:α->Shared->Prop}{E:Value->Shared->Prop}{s:Shared}{n:Nat}(hn:n<=s.toks)(h:wpAny M A t Q E s):wpAny M A t (fun a s'=>Q a s'/\n<=s'.toks) E s :=
 fun Γ p hΓ=>Sem.wp_mono M Γ t (fun _ _ _ x=>x) (fun _ _ _ x=>x.1) p s (CG n t hn (h Γ p hΓ))
section
variable {X:Cx}
def Dy (X:Cx)(e:Expr)(t:TT):Prop :=
 ∀ (pins:List (Addr×Obj))(s:Shared)(σ:St)(H:Hp)(Q:Bool->Hp->Prop),ar X pins σ H s->t σ H Q->wpAny (model X.prog X.w) X.A (isTrue e X.env (eval e X.env)) (fun b s'=>TP X pins σ Q b s'/\1<=s'.toks) X.xe s
def BN (X:Cx)(st:List Stmt)(t:TS):Prop :=
 ∀ (pins:List (Addr×Obj))(s:Shared)(σ:St)(H:Hp)(D:fg),ar X pins σ H s->1<=s.toks->t D σ H->wpAny (model X.prog X.w) X.A (execs st X.env) (SP X pins D) X.xe s
def Dw (X:Cx)(e:Expr)(t:TE):Prop :=
 ∀ (pins:List (Addr×Obj))(s:Shared)(σ:St)(H:Hp)(Q:VK),ar X pins σ H s->1<=s.toks->t σ H Q->wpAny (model X.prog X.w) X.A (eval e X.env) (EP X pins σ Q) X.xe s
theorem zO {op:CmpOp}{r:R2}{a:Expr}{ta:TE}{i:Int}{j:Nat}{p pos:Pos}(ho:js X (compareOp op) r)(ha:PE X a ta)(hm:behindInMarks op (.Constant (.int i) j p)=false):Dy X (.Compare a [op] [.Constant (.int i) j p] pos) (yu (Cv r ta (tC (.int i)))):=by
 intro pins s σ H Q I h;refine wpAny_isTrue_Compare1 (aU (ha pins s σ H _ I h) fun v s1 ⟨x,H1,I1,r1,q1⟩=>wpAny_Constant_int ?_) hm;refine aU (tG (n:=1) (show 1<=s1.toks+1 from Nat.succ_le_succ (Ey _)) (ho pins _ σ H1 x (.int i) v _ _ (I1.tok _) r1 ⟨_,rfl⟩ q1)) fun c s3 ⟨⟨z,H3,I3,r3,k,e,q3⟩,tk⟩=>?_;subst e;cases r3;exact Fe ⟨⟨H3,I3,q3⟩,tk⟩
theorem zN {c:Expr}{a rest:List Stmt}{tc:TT}{t u:TS}{pos:Pos}(hc:Dy X c tc)(ha:rq X a t)(hr:BN X rest u):rq X (.If c a [] pos::rest) (Cz (Ct tc t Al) u):=by
 intro pins s σ H D I h;refine wpAny_execs_cons (wpAny_If (aU (hc pins s σ H _ I h) fun d s1 ⟨⟨H1,I1,q1⟩,tk⟩=>?_))
 cases d with
 | true =>
  refine aU (tG tk (ha pins s1 σ H1 { D with nx:=u D } I1 q1)) fun f s2 ⟨q,le⟩=>?_
  cases f with
  | next =>
   obtain⟨σ',H',I',q⟩:=q;exact hr pins s2 σ' H' D I' le q
  | ret v=>exact q
  | brk=>exact q
  | cont=>exact q
 | false=>exact FG (hr pins s1 σ H1 D I1 tk q1)
theorem yc {e:Expr}{te:TE}{pos:Pos}(he:Dw X e te):BN X [.Return (some e) pos] (Cy te):=by
 intro pins s σ H D I tk h;refine wpAny_execs_cons (wpAny_Return_some (aU (he pins s σ H _ I tk h) fun v s1 ⟨x,H1,I1,r1,q1⟩=>?_));exact⟨x,σ,H1,I1,r1,q1⟩
def yt (y z:Str)(to:TE):TE:=fun σ H Q=>to σ H fun x H1=>∃ w,x=.str w/\w.length<=1048576/\Q (.str (Txt.replace w y z)) H1
theorem sx {o:Expr}{to:TE}{y z:Str}{j1 j2:Nat}{p1 p2 apos cpos:Pos}(ho:PE X o to)(hyz:(y == z)=false)(hz:z.length<=14)(hbase:attributeBase o "replace" X.env (eval o X.env)=eval o X.env:=by rfl)
  (hfew:((backTo cpos (starEach [.Constant (.str y) j1 p1,.Constant (.str z) j2 p2] X.env)).all (fun x=>!x.1)&&(backToKw cpos (keywordEach [] X.env)).all (fun x=>x.1.isSome)
   && decide ([Expr.Constant (.str y) j1 p1,.Constant (.str z) j2 p2].length+([]:List Keyword).length+(if ([]:List Keyword).isEmpty then 0 else 1)<30))=true:=by rfl)
  (hline:(apos.endLine == cpos.line)=true:=by rfl) (hs:starEach [.Constant (.str y) j1 p1,.Constant (.str z) j2 p2] X.env=[(false,eval (.Constant (.str y) j1 p1) X.env),(false,eval (.Constant (.str z) j2 p2) X.env)]:=by rfl) :
  Dw X (.Call (.Attribute o "replace" apos) [.Constant (.str y) j1 p1,.Constant (.str z) j2 p2] [] cpos) (yt y z to):=by
 intro pins s σ H Q I tk h;refine wpAny_Call_method_late hbase hfew hline rfl (aU (tG tk (ho pins s σ H _ I h)) fun v s1 ⟨⟨x,H1,I1,r1,q1⟩,tk1⟩=>?_);obtain⟨wd,rfl,hw,q⟩:=q1;obtain⟨t,rfl⟩:=r1;refine⟨"str","str.replace",PySem.F.plainAttrs_str,PySem.F.slot_str_replace,PySem.F.type_str_replace,typeIs_str _ _ _,?_,?_⟩
 ·exact fun _ e=>nomatch e
 rw[hs];refine Fi rfl (E6 ?_)
 show wpAny _ _ (spliced ((false,eval (.Constant (.str y) j1 p1) X.env)::backTo cpos [(false,eval (.Constant (.str z) j2 p2) X.env)])) _ _ s1
 refine EM (Calls.Constant_str ?_)
 show wpAny _ _ (spliced ((false,eval (.Constant (.str z) j2 p2) X.env)::[])) _ _ _
 refine EM (Calls.Constant_str (Ff ?_));refine SC.replaceW (by show s1.toks≠0;omega) (by show s1.toks+1≠0;omega) (by show s1.toks≠s1.toks+1;omega) hyz hw hz fun t' k=>?_;exact⟨.str (Txt.replace wd y z),H1,I1.tok k,⟨_,rfl⟩,q⟩
end
end L2
namespace Wz
open PySem L2
def m9 (p:List Nat):Bool:=decide (1<=p.length)&&decide (p.length<=12)&&p.all jx&&!(decide (p.head? = some 48)&&decide (p≠[48]))
def Aj (p:List Nat):Nat:=if p=[99,111,109,101] then 2 else if p=[103,111] then 2 else if p=[101,120,99,104,97,110,103,101] then 3 else 0
def tH (l:List Nat):Bool:=match iI 32 l with
 | []=>false
 | p::ps=>ps.any (fun q=>!m9 q)||decide (Aj p≠ps.length+1)
theorem zy {z:Str}(h:m9 (aZ z)=false):∀ ds,¬ Num z ds:=fun ds N=>by
 obtain⟨h1,h2,h3,h4⟩:=(iA z).mp ⟨ds,N⟩;rw[gi]at h1 h2;have h3':(aZ z).all jx=true:=EQ.mpr h3
 have h4':(decide ((aZ z).head? = some 48)&&decide (aZ z≠[48]))=false:=by
  cases e:(decide ((aZ z).head? = some 48)&&decide (aZ z≠[48])) with
  | false=>rfl
  | true =>
   rw[EN,Fu,Fu]at e;exact absurd e h4
 unfold m9 at h;rw[Ee h1,Ee h2,h3',h4']at h;cases h
theorem qe {x y:Str}(h:aZ x=aZ y):x=y:=by
 obtain⟨⟨a⟩⟩:=x;obtain⟨⟨b⟩⟩:=y;have h:a=b:=h;rw[h]
theorem zc (w:Str):hJ sizesD w=if Aj (aZ w)=0 then .non else .int (Aj (aZ w):Nat):=by
 have k1:aZ (Str.ofString "come")=[99,111,109,101]:=by decide +kernel
 have k2:aZ (Str.ofString "go")=[103,111]:=by decide +kernel
 have k3:aZ (Str.ofString "exchange")=[101,120,99,104,97,110,103,101]:=by decide +kernel
 by_cases h1:w="come"
 ·subst h1
  show hJ sizesD (Str.ofString "come")=_
  rw[k1]
  decide +kernel
 by_cases h2:w="go"
 ·subst h2
  show hJ sizesD (Str.ofString "go")=_
  rw[k2]
  decide +kernel
 by_cases h3:w="exchange"
 ·subst h3
  show hJ sizesD (Str.ofString "exchange")=_
  rw[k3]
  decide +kernel
 have e:Aj (aZ w)=0:=by
  unfold Aj;rw[D7 (fun z=>h1 (qe (z.trans k1.symm))),D7 (fun z=>h2 (qe (z.trans k2.symm))),D7 (fun z=>h3 (qe (z.trans k3.symm)))]
 rw[e,D8 rfl];unfold hJ sizesD
 have b1:(w == ("come" : Str))=false:=by simpa using h1
 have b2:(w == ("go" : Str))=false:=by simpa using h2
 have b3:(w == ("exchange" : Str))=false:=by simpa using h3
 simp only[List.lookup,b1,b2,b3]
theorem mh {z:Str}(h:∀ c∈aZ z,32<=c/\c<128)(hl:(aZ z).length<=100)(hb:tH (aZ z)=true):lW z:=by
 refine⟨h,hl,?_⟩;obtain⟨w0,ws,e⟩:=w4 (c:=32) (by decide) z;have em:=eP (c:=32) (by decide) z;rw[e]at em;have em:iI 32 (aZ z)=aZ w0::ws.map aZ:=em.symm;refine⟨w0,ws,e,?_⟩;unfold tH at hb;rw[em]at hb;simp only[Bool.or_eq_true,List.any_eq_true,Fu]at hb;rcases hb with ⟨q,hq,nq⟩ | hb
 ·obtain⟨w,hw,rfl⟩:=Ez.mp hq
  exact .inl ⟨w,hw,zy (by simpa using nq)⟩
 ·refine .inr fun q=>?_
  rw[zc]at q;rw[D6]at hb;split at q
  ·cases q
  ·have:=V.int.inj q
   omega
theorem mL {d:au}(h:∀ g∈names d,tj g):iI 32 (aZ (bf d))=aZ (bA d)::((names d).map dF).map aZ:=by
 have em:=eP (c:=32) (by decide) (bf d);rw[mO h]at em;exact em.symm
theorem sP:∀ l:List Nat,iI 32 (l++[32])=iI 32 l++[[]]
 | []=>rfl
 | a::l=>by
  show iI 32 (a::(l++[32]))=_
  rw[bz,bz,sP l]
  by_cases z:a=32
  ·rw[D8 z,D8 z];rfl
  ·rw[D7 z,D7 z]
   cases e:iI 32 l with
   | nil =>
    exfalso
    cases l with
    | nil=>cases e
    | cons b l=>rw[bz]at e;split at e<;>(first | cases e | (split at e<;>cases e))
   | cons p ps=>rfl
theorem vB:∀ l:List Nat,32∈l->∃ p ps,iI 32 (StrLaws.dbl 32 l)=p::ps/\[]∈ps
 | [],h=>nomatch h
 | a::l,h=>by
  by_cases z:a=32
  ·subst z
   have e:StrLaws.dbl 32 (32::l)=32::32::StrLaws.dbl 32 l:=by
    show (if 32=32 then 32::32::StrLaws.dbl 32 l else 32::StrLaws.dbl 32 l)=_
    rw[D8 rfl]
   rw[e,bz,D8 rfl,bz,D8 rfl];exact⟨_,_,rfl,Ec⟩
  ·have e:StrLaws.dbl 32 (a::l)=a::StrLaws.dbl 32 l:=by
    show (if a=32 then a::a::StrLaws.dbl 32 l else a::StrLaws.dbl 32 l)=_
    rw[D7 z]
   have hm:32∈l:=(Eh.mp h).resolve_left (Eo z);obtain⟨p,ps,ep,hp⟩:=vB l hm;rw[e,bz,D7 z,ep];exact⟨_,_,rfl,hp⟩
theorem qf:∀ {l:List Nat}{c:Nat},c∈StrLaws.dbl 32 l->c∈l
 | [],_,h=>h
 | a::l,c,h=>by
  have h:c∈(if a=32 then a::a::StrLaws.dbl 32 l else a::StrLaws.dbl 32 l):=h;split at h
  ·rcases Eh.mp h with rfl | h
   ·exact Ec
   ·rcases Eh.mp h with rfl | h
    ·exact Ec
    ·exact Eb _ (qf h)
  ·rcases Eh.mp h with rfl | h
   ·exact Ec
   ·exact Eb _ (qf h)
theorem uU:∀ l:List Nat,(StrLaws.dbl 32 l).length<=2*l.length
 | []=>D9 _
 | a::l=>by
  have ih:=uU l
  show (if a=32 then a::a::StrLaws.dbl 32 l else a::StrLaws.dbl 32 l).length<=_
  split<;>simp only[Eu]<;>omega
theorem pd {ps:List (List Nat)}(h:[]∈ps):ps.any (fun q=>!m9 q)=true:=List.any_eq_true.mpr ⟨[],h,rfl⟩
theorem xQ (d:au):∃ g gs,names d=g::gs:=by cases d<;>exact⟨_,_,rfl⟩
theorem yE (d:au):m9 (aZ (bA d))=false:=by
 cases d with
 | come g=>show m9 (aZ (Str.ofString "come"))=false;decide +kernel
 | go g=>show m9 (aZ (Str.ofString "go"))=false;decide +kernel
 | exch a b=>show m9 (aZ (Str.ofString "exchange"))=false;decide +kernel
section
variable {d:au}(h:∀ g∈names d,tj g)
include h
theorem BO:lW (Str.ofString "x"++bf d):=by
 have e:aZ (Str.ofString "x"++bf d)=120::aZ (bf d):=by rw[ir];rfl
 have ls:=d4 h;refine mh (fun c hc=>?_) (by rw[e,Eu];omega) ?_
 ·rw[e]at hc
  rcases Eh.mp hc with rfl | hc
  ·decide
  ·exact ls.1 c hc
 ·unfold tH
  rw[e,bz,D7 (by decide),mL h]
  have:Aj (120::aZ (bA d))=0:=by
   unfold Aj;rw[D7 (by simp),D7 (by simp),D7 (by simp)]
  show (_||decide (Aj (120::aZ (bA d))≠_))=true
  rw[this,Ee (by omega),Bool.or_true]
theorem BP:lW (bf d++Str.ofString " "):=by
 have e:aZ (bf d++Str.ofString " ")=aZ (bf d)++[32]:=by rw[ir];rfl
 have ls:=d4 h;refine mh (fun c hc=>?_) (by rw[e,El,EG];omega) ?_
 ·rw[e]at hc
  rcases EA.mp hc with hc | hc
  ·exact ls.1 c hc
  ·rw[Et.mp hc];decide
 ·unfold tH
  rw[e,sP,mL h]
  show ((((names d).map dF).map aZ++[[]]).any (fun q=>!m9 q)||_)=true
  rw[pd (En _ Ec),Bool.true_or]
theorem BQ:lW (Str.ofString " "++bf d):=by
 have e:aZ (Str.ofString " "++bf d)=32::aZ (bf d):=by rw[ir];rfl
 have ls:=d4 h;refine mh (fun c hc=>?_) (by rw[e,Eu];omega) ?_
 ·rw[e]at hc
  rcases Eh.mp hc with rfl | hc
  ·decide
  ·exact ls.1 c hc
 ·unfold tH
  rw[e,bz,D8 rfl,mL h]
  show (((aZ (bA d)::((names d).map dF).map aZ)).any (fun q=>!m9 q)||_)=true
  rw[Fj,yE];rfl
theorem BR:lW (Txt.replace (bf d) (Str.ofString " ") (Str.ofString "  ")):=by
 have k1:Str.ofString " " = ⟨#[32]⟩:=by decide +kernel
 have k2:Str.ofString "  " = ⟨#[32,32]⟩:=by decide +kernel
 have e:aZ (Txt.replace (bf d) (Str.ofString " ") (Str.ofString "  "))=StrLaws.dbl 32 (aZ (bf d)):=by
  rw[k1,k2];exact StrLaws.replace_double _ _
 have ls:=d4 h;have dl:=uU (aZ (bf d));refine mh (fun c hc=>?_) (by rw[e];omega) ?_
 ·rw[e]at hc
  exact ls.1 c (qf hc)
 ·have hm:32∈aZ (bf d):=by
   obtain⟨g,gs,en⟩:=xQ d;rw[qv,en];exact En _ (by rw[Er,List.flatten_cons];exact Ec)
  obtain⟨p,ps,ep,hp⟩:=vB _ hm;unfold tH;rw[e,ep]
  show (ps.any (fun q=>!m9 q)||_)=true
  rw[pd hp,Bool.true_or]
end
def eW:List Str:=[""," ","come","come ","come  3"," come 3","come 3 ","come 03","come -3","come 1000000000000","exchange 1","exchange 1 2 3","Come 3","leave 3","come 3 x","go 3 4","exchange 1  2","3","come three","exchange 1 x"]
theorem xc:eW.all (fun z=>(aZ z).all (fun c=>decide (32<=c)&&decide (c<128))&&decide ((aZ z).length<=100)&&tH (aZ z))=true:=by decide +kernel
theorem xf {z:Str}(h:z∈eW):lW z:=by
 have:=EQ.mp xc z h;rw[EN,EN,EQ]at this;obtain⟨⟨h1,h2⟩,h3⟩:=this;exact mh (fun c hc=>by have:=h1 c hc;rw[EN,Fu,Fu]at this;exact this) (ER h2) h3
inductive lR (vs:List V) (H:Hp) (Q:VK) (E_:XK):Prop
 | mk (c:Int) (h_0:vs=[.int c]) (h_1:∀ (z:Str)(H':Hp),lW z->aE H H'->Q (.str z) H'):lR vs H Q E_
inductive jN (vs:List V) (H:Hp) (Q:VK) (E_:XK):Prop
 | mk (d:au) (c:Int) (h_0:vs=[.str (bf d),.int c]) (h_1:∀ g∈names d,tj g) (h_2:∀ z:Str,lW z->Q (.str z) H):jN vs H Q E_
def pT (H:Hp)(a:Addr)(q:Str×Option au):Prop:=match q.2 with
 | none=>H a=some (.tup [.str q.1,.non])
 | some d=>∃ t,H a=some (.tup [.str q.1,.ref t])/\H t=some (bv d)
theorem pT.mono {H H':Hp}{a:Addr}{q:Str×Option au}(h:pT H a q)(s:aE H H'):pT H' a q:=by
 obtain⟨z,o⟩:=q
 cases o with
 | none=>exact s _ _ h
 | some d=>obtain⟨t,h1,h2⟩:=h;exact⟨t,s _ _ h1,s _ _ h2⟩
def dC (H:Hp)(l:Addr)(qs:List (Str×Option au)):Prop:=∃ as,H l=some (.lst (as.map V.ref))/\Paired (pT H) as qs
theorem dC.mono {H H':Hp}{l:Addr}{qs:List (Str×Option au)}(h:dC H l qs)(s:aE H H'):dC H' l qs:=by
 obtain⟨as,h1,h2⟩:=h;exact⟨as,s _ _ h1,Paired.mapP h2 fun _ _ z=>z.mono s⟩
inductive q8 (vs:List V) (H:Hp) (Q:VK) (E_:XK):Prop
 | mk (l:Addr) (qs:List (Str×Option au)) (tail:Bool) (L:List Int) (h_0:vs=[.ref l,.bl tail]) (h_1:dC H l qs) (h_2:qs.length<=60) (h_3:L.length<=100) (h_4:∀ q∈qs,∀ d,q.2=some d->∀ g∈names d,g∈L/\bF g)
  (h_5:∀ (r tw w m:Addr)(st:bI)(ml:List (Int×Int))(ro:RO)(H':Hp),aE H H'->H w=none->H m=none->H' r=some (.tup [.ref tw,.ref w,.ref m])->H' tw=some (.tup (oV ro))->H' w=some (.dK (dk st.worn))->H' m=some (.dT (lL ml))->uP L qs.length st ml->sZ L st->oz ml->b6 ⟨[],[],[],[]⟩ 0 (qs.map (·.2)) tail=(ro,st)->Q (.ref r) H'):q8 vs H Q E_
theorem nN:∀ {l:List (Option au)}{st st':bI}{k:Nat}{t:Bool},b6 st k l t=(.done,st')->t=false/\∃ ds,l=ds.map some/\st'.deeds=st.deeds++ds
 | [],st,st',k,t,h=>by
  cases t with
  | true=>cases h
  | false =>
   have h:(RO.done,st)=(RO.done,st'):=h;cases h;exact⟨rfl,[],rfl,(Fy _).symm⟩
 | none::_,_,_,_,_,h=>by cases h
 | some d::l,st,st',k,t,h=>by
  by_cases hj:aK st d=.done
  ·rw[gq hj]at h
   obtain⟨h1,ds,h2,h3⟩:=nN h;exact⟨h1,d::ds,by rw[h2];rfl,by rw[h3,eV,List.append_assoc];rfl⟩
  ·rw[iE hj]at h
   have:=(Prod.mk.inj h).1;cases this
theorem zo {HH:Hp}{l t:Addr}{as:List Addr}{qs:List (Str×Option au)}{z:Str}{b:Addr}{d:au}(h1:HH l=some (.lst (as.map V.ref)))(h2:Paired (pT HH) as qs)(ht:HH t=none)(hb:HH b=some (bv d)) :
  dC (upd (upd HH t (.tup [.str z,.ref b])) l (.lst (as.map V.ref++[V.ref t]))) l (qs++[(z,some d)]):=by
 have s1:=ah (o:=.tup [.str z,.ref b]) ht;have nl:∀ c xs,HH c=some (.tup xs)->c≠l:=fun c xs e=>b5 e h1 (by intro u;cases u)
 have up:∀ c xs,(upd HH t (.tup [.str z,.ref b])) c=some (.tup xs)->(upd (upd HH t (.tup [.str z,.ref b])) l (.lst (as.map V.ref++[V.ref t]))) c=some (.tup xs):=fun c xs e=>by
  rw[ae (fun q=>by rw[q,s1 _ _ h1]at e;cases e)];exact e
 have ux:∀ c y,HH c=some (bv y)->(upd (upd HH t (.tup [.str z,.ref b])) l (.lst (as.map V.ref++[V.ref t]))) c=some (bv y):=fun c y e=>by
  obtain⟨xs,ex⟩:=bO y;rw[ex]at e ⊢;exact up c xs (s1 _ _ e)
 refine⟨as++[t],by rw[ac,Es];rfl,?_⟩;refine a7 (Paired.mapP h2 fun c q y=>?_) (.cons ⟨b,up _ _ ac,ux _ _ hb⟩ .nil);obtain⟨w,o⟩:=q
 cases o with
 | none=>exact up _ _ (s1 _ _ y)
 | some e=>obtain⟨u,y1,y2⟩:=y;exact⟨u,up _ _ (s1 _ _ y1),ux _ _ y2⟩
theorem zn {K:PySem.W.Frag}{G:Hp}{x:Addr}{qs:List (Str×Option au)}{Q':VK}(n:Nat)(hx:dC G x qs)(k:∀ (p:Addr)(G':Hp),G p=none->aE G G'->dC G' p (qs.take n)->Q' (.ref p) G'):zQ K (.ref x) none (some (n:Int)) G Q':=by
 obtain⟨as,h1,p1⟩:=hx;exact⟨x,_,rfl,be.of h1,fun p hp=>k p _ hp (ah hp) ⟨as.take n,by rw[ac,tK,List.map_take],Paired.mapP (ie n p1) fun b e z=>z.mono (ah hp)⟩⟩
theorem zm {K:PySem.W.Frag}{G:Hp}{x:Addr}{qs:List (Str×Option au)}{Q':VK}(n:Nat)(hx:dC G x qs)(k:∀ (p:Addr)(G':Hp),G p=none->aE G G'->dC G' p (qs.drop n)->Q' (.ref p) G'):zQ K (.ref x) (some (n:Int)) none G Q':=by
 obtain⟨as,h1,p1⟩:=hx;exact⟨x,_,rfl,be.of h1,fun p hp=>k p _ hp (ah hp) ⟨as.drop n,by rw[ac,rE,List.map_drop],Paired.mapP (k7 n p1) fun b e z=>z.mono (ah hp)⟩⟩
theorem xI {G:Hp}{x y:Addr}{qs ws:List (Str×Option au)}{Q':VK}(hx:dC G x qs)(hy:dC G y ws)(hl:qs.length+ws.length<=1000)(k:∀ (p:Addr)(G':Hp),G p=none->aE G G'->dC G' p (qs++ws)->Q' (.ref p) G'):Be (.ref x) (.ref y) G Q':=by
 obtain⟨as,h1,p1⟩:=hx;obtain⟨bs,h2,p2⟩:=hy;have l1:=Ej p1;have l2:=Ej p2;refine⟨x,y,_,_,rfl,rfl,h1,h2,by rw[D6,D6];exact Nat.le_of_lt (aS (by omega)),fun p hp=>k p _ hp (ah hp) ⟨as++bs,by rw[ac,Es],?_⟩⟩;exact a7 (Paired.mapP p1 fun b e z=>z.mono (ah hp)) (Paired.mapP p2 fun b e z=>z.mono (ah hp))
theorem nE {α β:Type}{F:α->β->Prop}:∀ {l:List α}{m:List β}(j:Nat){a:α}{b:β},Paired F l m->F a b->Paired F (l.set j a) (m.set j b)
 | _,_,_,_,_,.nil,_=>.nil
 | _,_,0,_,_,.cons _ t,h=>.cons h t
 | _,_,j+1,_,_,.cons r t,h=>.cons r (nE j t h)
theorem AX {HH:Hp}{l t:Addr}{as:List Addr}{qs:List (Str×Option au)}{z:Str}(j:Nat)(h1:HH l=some (.lst (as.map V.ref)))(h2:Paired (pT HH) as qs)(ht:HH t=some (.tup [.str z,.non])) :
  dC (upd HH l (.lst ((as.map V.ref).set j (V.ref t)))) l (qs.set j (z,none)):=by
 have up:∀ c xs,HH c=some (.tup xs)->(upd HH l (.lst ((as.map V.ref).set j (V.ref t)))) c=some (.tup xs):=fun c xs e=>by
  rw[ae (fun q=>by rw[q,h1]at e;cases e)];exact e
 refine⟨as.set j t,by rw[ac,List.map_set],?_⟩;refine nE j (Paired.mapP h2 fun c q y=>?_) (up _ _ ht);obtain⟨w,o⟩:=q
 cases o with
 | none=>exact up _ _ y
 | some e =>
  obtain⟨u,y1,y2⟩:=y;obtain⟨xs,ex⟩:=bO e;refine⟨u,up _ _ y1,?_⟩;rw[ex]at y2 ⊢;exact up _ _ y2
theorem xD (ws:List Str):aZ (Txt.join (Str.ofString "") ws)=(ws.map aZ).flatten:=by
 have e0:aZ (Str.ofString "")=[]:=by decide +kernel
 cases ws with
 | nil=>rfl
 | cons w ws =>
  rw[u7,Er,List.flatten_cons]
  congr 2
def yN (qs:List (Str×Option au)):List Str:=qs.map fun q=>q.1++Str.ofString "\n"
theorem B7 (qs:List (Str×Option au)):aZ (Txt.join (Str.ofString "") (yN qs))=(qs.map fun q=>aZ q.1++[10]).flatten:=by
 have e:aZ (Str.ofString "\n")=[10]:=by decide +kernel
 rw[xD];unfold yN;rw[EH]
 congr 1
 exact ET fun q _=>by show aZ (q.1++Str.ofString "\n")=_;rw[ir,e]
theorem B8 {L:List Int}{qs:List (Str×Option au)}(ok:∀ q∈qs,rp L q)(hl:qs.length<=60):JoinOk (Str.ofString "") (yN qs)=true:=by
 have e0:(Str.ofString "").length=0:=by decide +kernel
 have en:(Str.ofString "\n").length=1:=by decide +kernel
 refine u8 (B:=101) (fun y hy=>?_) ?_
 ·obtain⟨q,hq,rfl⟩:=Ez.mp hy
  have:=(jB (ok q hq)).2
  show (q.1++Str.ofString "\n").length<=101
  rw[gi,ir,El,<-gi (Str.ofString "\n"),en];omega
 ·unfold yN
  rw[D6,e0];have:=Nat.mul_le_mul_right (101+0) hl;omega
theorem CF {L:List Int}{qs:List (Str×Option au)}(ok:∀ q∈qs,rp L q):pV L qs (Str.ofString "") (Txt.join (Str.ofString "") (yN qs)):=by
 have e0:aZ (Str.ofString "")=[]:=by decide +kernel
 exact⟨ok,by rw[B7,e0,Fy],fun c hc=>by rw[e0]at hc;(cases hc),by rw[e0];exact Ey _⟩
theorem z5 {L:List Int}{qs:List (Str×Option au)}{z tl:Str}(h:pV L qs (Str.ofString "") z)(ha:(aZ tl).all (fun c=>decide (32<=c)&&decide (c<128))=true)(hl:(aZ tl).length<=100):pV L qs tl (z++tl):=by
 have e0:aZ (Str.ofString "")=[]:=by decide +kernel
 refine⟨h.ok,by rw[ir,h.cp,e0,Fy],fun c hc=>?_,hl⟩;have:=EQ.mp ha c hc;rw[EN,Fu,Fu]at this;exact this
def SV (H:Hp)(v:V):Option au->Prop
 | none=>v=.non
 | some d=>∃ t,v=.ref t/\H t=some (bv d)
def tz (H:Hp)(l:Addr)(os:List (Option au)):Prop:=∃ vs,H l=some (.lst vs)/\Paired (SV H) vs os
theorem vC {H:Hp}:∀ {ds:List au}{vs:List V},Paired (SV H) vs (ds.map some)->∃ as:List Addr,vs=as.map V.ref/\Paired (fun a x=>H a=some (bv x)) as ds
 | [],[],_=>⟨[],rfl,.nil⟩
 | [],_::_,h=>nomatch h
 | _::_,[],h=>nomatch h
 | d::ds,v::vs,.cons a b=>by
  obtain⟨t,rfl,ht⟩:=a;obtain⟨as,rfl,p⟩:=vC b;exact⟨t::as,rfl,.cons ht p⟩
theorem tz.deeds {H:Hp}{l:Addr}{ds:List au}(h:tz H l (ds.map some)):bE H l ds:=by
 obtain⟨vs,h1,h2⟩:=h;obtain⟨as,rfl,p⟩:=vC h2;exact⟨as,h1,p⟩
theorem SV.mono {H H':Hp}{v:V}{o:Option au}(h:SV H v o)(s:aE H H'):SV H' v o:=by
 cases o with
 | none=>exact h
 | some d=>obtain⟨t,h1,h2⟩:=h;exact⟨t,h1,s _ _ h2⟩
theorem tz.mono {H H':Hp}{l:Addr}{os:List (Option au)}(h:tz H l os)(s:aE H H'):tz H' l os:=by
 obtain⟨vs,h1,h2⟩:=h;exact⟨vs,s _ _ h1,Paired.mapP h2 fun _ _ z=>z.mono s⟩
theorem zY {HH:Hp}{l:Addr}{vs:List V}{os:List (Option au)}{v:V}{o:Option au}(h1:HH l=some (.lst vs))(h2:Paired (SV HH) vs os)(h3:SV HH v o):tz (upd HH l (.lst (vs++[v]))) l (os++[o]):=by
 have up:∀ {v o},SV HH v o->SV (upd HH l (.lst (vs++[v]))) v o:=fun {v o} h=>by
  cases o with
  | none=>exact h
  | some d =>
   obtain⟨t,e,ht⟩:=h;refine⟨t,e,?_⟩;obtain⟨xs,ex⟩:=bO d;rw[ex]at ht ⊢;rw[ae (fun q=>by rw[q,h1]at ht;cases ht)];exact ht
 have up2:∀ {v' o},SV HH v' o->SV (upd HH l (.lst (vs++[v]))) v' o:=fun {v' o} h=>by
  cases o with
  | none=>exact h
  | some d =>
   obtain⟨t,e,ht⟩:=h;refine⟨t,e,?_⟩;obtain⟨xs,ex⟩:=bO d;rw[ex]at ht ⊢;rw[ae (fun q=>by rw[q,h1]at ht;cases ht)];exact ht
 exact⟨vs++[v],ac,a7 (Paired.mapP h2 fun _ _ z=>up2 z) (.cons (up2 h3) .nil)⟩
theorem pT.sv {H:Hp}{a:Addr}{q:Str×Option au}(h:pT H a q):∃ v,H a=some (.tup [.str q.1,v])/\SV H v q.2:=by
 obtain⟨z,o⟩:=q
 cases o with
 | none=>exact⟨_,h,rfl⟩
 | some d=>obtain⟨t,h1,h2⟩:=h;exact⟨_,h1,t,rfl,h2⟩
theorem xh (ns:List Int):bC (ns.take 2++ns.drop 3) 1=bC ns 1:=by
 match ns with
 | []=>rfl
 | [_]=>rfl
 | a::b::r =>
  unfold bC;rw[D8 (by show (1:Int)<((a::b::r).take 2++(a::b::r).drop 3).length;simp;omega),D8 (by simp;omega)];rfl
theorem wC (ro:RO)(h:ro≠.out .done):∀ v∈oV ro,fL v=true:=by
 cases ro with
 | done=>intro v hv;simp only[oV,Eh,List.not_mem_nil,or_false]at hv;rcases hv with rfl | rfl<;>rfl
 | notext k=>intro v hv;simp only[oV,Eh,List.not_mem_nil,or_false]at hv;rcases hv with rfl | rfl<;>rfl
 | out o=>exact xX o
theorem Ce (ro:RO):∃ z vs,oV ro=V.str z::vs/\(z="done"↔ro=.done\/ro=.out .done):=by
 cases ro with
 | done=>exact⟨_,_,rfl,⟨fun _=>.inl rfl,fun _=>rfl⟩⟩
 | notext k=>exact⟨_,_,rfl,⟨fun z=>absurd z (by decide +kernel),fun z=>by rcases z with z | z<;>cases z⟩⟩
 | out o =>
  cases o with
  | done=>exact⟨_,_,rfl,⟨fun _=>.inr rfl,fun _=>rfl⟩⟩
  | already=>exact⟨_,_,rfl,⟨fun z=>absurd z (by decide +kernel),fun z=>by rcases z with z | z<;>cases z⟩⟩
  | masked=>exact⟨_,_,rfl,⟨fun z=>absurd z (by decide +kernel),fun z=>by rcases z with z | z<;>cases z⟩⟩
  | same=>exact⟨_,_,rfl,⟨fun z=>absurd z (by decide +kernel),fun z=>by rcases z with z | z<;>cases z⟩⟩
  | met=>exact⟨_,_,rfl,⟨fun z=>absurd z (by decide +kernel),fun z=>by rcases z with z | z<;>cases z⟩⟩
  | noguest g=>exact⟨_,_,rfl,⟨fun z=>absurd z (by decide +kernel),fun z=>by rcases z with z | z<;>cases z⟩⟩
end Wz
namespace Qs
open PySem PySem.W PyProof.Rows
abbrev Q4:=Int×Int×Int×Int
def q0:Q4:=(0,0,0,0)
def DS (p q:Q4):Bool:=decide (p.1<q.1\/(p.1=q.1/\(p.2.1<q.2.1\/(p.2.1=q.2.1/\(p.2.2.1<q.2.2.1\/(p.2.2.1=q.2.2.1/\p.2.2.2<q.2.2.2))))))
def DO (h:Heap)(v:Value)(p:Q4):Prop:=∃ (b:Addr)(o:Obj)(n:Nat)(t1 t2 t3 t4:Tok),v=.ref b/\h.get? b=some o/\o.cls=.type "tuple"/\o.data=.seq #[.int p.1 t1,.int p.2.1 t2,.int p.2.2.1 t3,.int p.2.2.2 t4] n
open Classical in
noncomputable def decQ (h:Heap) (v:Value):Q4:=if z:∃ p,DO h v p then choose z else q0
def CK (vs:List Value)(ps:List Q4)(out:List Value):Prop:=∃ ix:List Nat,ix.Perm (List.range vs.length)/\out=ix.map (fun i=>vs.getD i Value.none)/\(ix.map fun i=>ps.getD i q0).Pairwise (fun a b=>DS a b=true)
end Qs
namespace Wk48
open PySem L2 Wz
def fW (i:Nat):Stmt:=PySem.Challenge.pw_lastwaltz_k48_lines_that_are_refused.main.body.getD i (.Pass ⟨0,0,0,0⟩)
structure Txt (mg:Str->Option Value):Prop where
 len:mg "len" = none
 range:mg "range" = none
 isinstance:mg "isinstance" = none
 tuple:mg "tuple" = none
 list:mg "list" = none
 int:mg "int" = none
 bool:mg "bool" = none
 all:mg "all" = none
 any:mg "any" = none
 sorted:mg "sorted" = none
 reversed:mg "reversed" = none
 bset:mg "set" = none
 bmin:mg "min" = none
 bmax:mg "max" = none
 dict:mg "dict" = none
 zip:mg "zip" = none
 enumerate:mg "enumerate" = none
 sum:mg "sum" = none
 str:mg "str" = none
section
variable {P:Program}{w:World}{K:PySem.W.Frag}{mg:Str->Option Value}{base:Heap}{c:HX}{co cq ck f P0 P1:Addr}{fd:FuncData}
abbrev dN:Stmt:=bH (fW 7) 0
abbrev mV:List Str:=["self","guest"]
theorem lE:ay mV ["self","guest"] (am dN):=fM
abbrev eJ:Stmt:=bH (fW 8) 0
abbrev oK:List Str:=["self","place"]
theorem nZ:ay oK ["self","place"] (am eJ):=fM
abbrev gz:Stmt:=bH (fW 10) 0
abbrev rS:List Str:=["self"]
theorem qT:ay rS ["self"] (am gz):=fM
abbrev gy:Stmt:=bH (fW 10) 1
abbrev rR:List Str:=["self","guest"]
theorem qS:ay rR ["self","guest"] (am gy):=fM
abbrev jf:Stmt:=bH (fW 10) 2
abbrev wm:List Str:=["self","guest"]
theorem uB:ay wm ["self","guest"] (am jf):=fM
abbrev di:Stmt:=bH (fW 10) 3
abbrev lx:List Str:=["self","one","other","mask","other_mask"]
theorem df:ay lx ["self","one","other"] (am di):=fM
abbrev fC:Stmt:=bH (fW 10) 4
abbrev qx:List Str:=["self","guest","mask"]
theorem oW:ay qx ["self","guest","mask"] (am fC):=fM
abbrev dh:Stmt:=bH (fW 10) 5
abbrev lv:List Str:=["self","one","other","circle"]
theorem fV:ay lv ["self","one","other"] (am dh):=fM
abbrev eF:Stmt:=bH (fW 10) 6
abbrev oG:List Str:=["self","guest"]
theorem nV:ay oG ["self","guest"] (am eF):=fM
abbrev eE:Stmt:=bH (fW 10) 7
abbrev oF:List Str:=["self"]
theorem nU:ay oF ["self"] (am eE):=fM
abbrev fE:Stmt:=bH (fW 10) 8
abbrev qz:List Str:=["self","guest"]
theorem oZ:ay qz ["self","guest"] (am fE):=fM
abbrev eI:Stmt:=bH (fW 10) 9
abbrev oJ:List Str:=["self","mask"]
theorem nY:ay oJ ["self","mask"] (am eI):=fM
abbrev ij:Stmt:=bH (fW 10) 10
abbrev ug:List Str:=["self","one","other"]
theorem sG:ay ug ["self","one","other"] (am ij):=fM
abbrev dj:Stmt:=bH (fW 10) 11
abbrev ly:List Str:=["self","guest"]
theorem kE:ay ly ["self","guest"] (am dj):=fM
abbrev dw:Stmt:=bH (fW 10) 12
abbrev jC:List Str:=["self"]
theorem oX:ay jC ["self"] (am dw):=fM
abbrev fD:Stmt:=bH (fW 10) 13
abbrev qy:List Str:=["self"]
theorem oY:ay qy ["self"] (am fD):=fM
abbrev eG:Stmt:=bH (fW 10) 14
abbrev oH:List Str:=["self"]
theorem nX:ay oH ["self"] (am eG):=fM
abbrev c7:Stmt:=fW 14
abbrev iX:List Str:=["word"]
theorem og:ay iX ["word"] (am c7):=fM
abbrev jg:Stmt:=fW 16
abbrev wo:List Str:=["hall","deed"]
theorem uC:ay wo ["hall","deed"] (am jg):=fM
abbrev dX:Stmt:=fW 19
abbrev k6:List Str:=["line","words","numbers"]
theorem gr:ay k6 ["line"] (am dX):=fM
abbrev kJ:Stmt:=fW 20
abbrev xP:List Str:=["text","hall","lines","place","line","deed"]
theorem d6:ay xP ["text"] (am kJ):=fM
abbrev eK:Stmt:=fW 22
abbrev oM:List Str:=["_law_script","_law_k"]
theorem n8:ay oM ["_law_script","_law_k"] (am eK):=fM
abbrev il:Stmt:=fW 23
abbrev ui:List Str:=["_law_cell"]
theorem sJ:ay ui ["_law_cell"] (am il):=fM
abbrev gC:Stmt:=fW 24
abbrev rW:List Str:=["_law_cell","_law_many","_law_base","_law_left","_law_row","_law_count","_law_k","_law_now"]
theorem bc:ay rW ["_law_cell","_law_many","_law_base"] (am gC):=fM
abbrev c6:Stmt:=fW 25
abbrev km:List Str:=["_law_script","_law_start","_law_most","_law_base","_law_row","_law_cell","_law_drawn"]
theorem b7:ay km ["_law_script","_law_start","_law_most","_law_base"] (am c6):=fM
abbrev gD:Stmt:=fW 26
abbrev rX:List Str:=["_law_k","_law_cell","_law_left","_law_turn","_law_number"]
theorem dW:ay rX ["_law_k","_law_cell"] (am gD):=fM
abbrev ji:Stmt:=fW 27
abbrev wt:List Str:=["_law_one","_law_other"]
theorem uD:ay wt ["_law_one","_law_other"] (am ji):=fM
abbrev jh:Stmt:=fW 28
abbrev wq:List Str:=["_law_worn","_law_met","_law_deed_here","_law_guest_here"]
theorem n9:ay wq ["_law_worn","_law_met","_law_deed_here"] (am jh):=fM
abbrev gA:Stmt:=fW 29
abbrev rT:List Str:=["_law_worn","_law_met","_law_deed_here","_law_kept"]
theorem jL:ay rT ["_law_worn","_law_met","_law_deed_here"] (am gA):=fM
abbrev ik:Stmt:=fW 30
abbrev uh:List Str:=["_law_drawn","_law_many","_law_cell","_law_one"]
theorem lb:ay uh ["_law_drawn","_law_many","_law_cell"] (am ik):=fM
abbrev gB:Stmt:=fW 31
abbrev rV:List Str:=["_law_cell"]
theorem qU:ay rV ["_law_cell"] (am gB):=fM
abbrev c5:Stmt:=fW 32
abbrev hV:List Str:=["_law_script","_law_cell","_law_many","_law_first","_law_deeds_here"]
theorem cZ:ay hV ["_law_script"] (am c5):=fM
abbrev eL:Stmt:=fW 33
abbrev oN:List Str:=["_law_script","_law_worn","_law_met","_law_story","_law_deed_here"]
theorem cf:ay oN ["_law_script"] (am eL):=fM
abbrev fG:Stmt:=fW 34
abbrev qB:List Str:=["_law_hall","_law_worn","_law_met","_law_story","_law_guest_here"]
theorem iZ:ay qB ["_law_hall","_law_worn","_law_met","_law_story"] (am fG):=fM
abbrev fc:Stmt:=fW 35
abbrev mY:List Str:=["_law_deed_here"]
theorem sI:ay mY ["_law_deed_here"] (am fc):=fM
abbrev fF:Stmt:=fW 36
abbrev qA:List Str:=["_law_text","_law_word","_law_found","e"]
theorem aR:ay qA ["_law_text"] (am fF):=fM
abbrev dO:Stmt:=fW 37
abbrev mX:List Str:=["_law_cell","_law_bad"]
theorem cH:ay mX ["_law_cell"] (am dO):=fM
abbrev dm:Stmt:=fW 38
abbrev lz:List Str:=["_law_line_here","_law_cell"]
theorem kF:ay lz ["_law_line_here","_law_cell"] (am dm):=fM
abbrev dP:Stmt:=fW 39
abbrev mZ:List Str:=["_law_lines","_law_tail","_law_worn","_law_met","_law_place","_law_line_here","_law_deed_here","_law_due_here"]
theorem bq:ay mZ ["_law_lines","_law_tail"] (am dP):=fM
abbrev jj:Stmt:=fW 40
abbrev wu:List Str:=["_law_k","_law_cell"]
theorem uE:ay wu ["_law_k","_law_cell"] (am jj):=fM
abbrev kI:Stmt:=fW 41
abbrev ve:List Str:=["_law_script","_law_bend","_law_deeds_here","_law_lines","_law_place","_law_text","_law_tail","_law_due_here","_law_worn","_law_met","_law_story","_law_k","_law_word","_law_found"]
theorem ca:ay ve ["_law_script"] (am kI):=fM
variable (T:Txt mg)(U:HT K mg c)(VM:HM K c)(UO:Ay K mg w c co cq ck)
include T U VM UO
theorem lA (F:dB K "__init__" "NoGuest.__init__" dN f fd) : aV P w K mg base cz 1 f fd ["self","guest"] (wM c.cN "guest"):=by
 refine F.ok lE (fun vs H Q E h=>?_) (fun cdv A outer s H vs Q E hr h=>?_)
 ·obtain⟨ea,g,rfl,_⟩:=h
  rfl
 ·obtain⟨ea,g,rfl,hg,hx,k⟩:=h
  refine⟨_,af (a5 (sj (fI:=c.fN) rfl U.mW U.wS U.wR U.wI (ak (pv 0) (ak (iC (bM (e8 (pv 1)) (bM ao (kB)))) aF)))) (
   ag (sy (pv 0) (pv 1) rfl)),?_⟩
  refine⟨_,rfl,_,rfl,g,rfl,hg,fun y hy=>⟨y,rfl,hy,_,rfl,by decide,fun z=>⟨ea,c.cN,_,rfl,hx,U.eN,?_⟩⟩⟩;exact⟨_,rfl,_,rfl,ea,c.cN,rfl,hx,U.gN,k⟩
theorem nv (F:dB K "__init__" "NoText.__init__" eJ f fd) : aV P w K mg base cz 1 f fd ["self","place"] (wM cq "place"):=by
 refine F.ok nZ (fun vs H Q E h=>?_) (fun cdv A outer s H vs Q E hr h=>?_)
 ·obtain⟨ea,g,rfl,_⟩:=h
  rfl
 ·obtain⟨ea,g,rfl,hg,hx,k⟩:=h
  refine⟨_,af (a5 (sj (fI:=ck) rfl U.mW U.wS U.wR U.wI (ak (pv 0) (ak (iC (bM ao (bM (e8 (pv 1)) (bM ao (kB))))) aF)))) (
   ag (sy (pv 0) (pv 1) rfl)),?_⟩
  refine⟨_,rfl,_,rfl,by decide,_,rfl,g,rfl,hg,fun y hy=>⟨y,rfl,hy,_,rfl,by decide,fun z=>⟨ea,cq,_,rfl,hx,UO.eQ,?_⟩⟩⟩;exact⟨_,rfl,_,rfl,ea,cq,rfl,hx,UO.gQ,k⟩
theorem qE (F:dB K "__init__" "Hall.__init__" gz f fd) : aV P w K mg base cz 1 f fd ["self"] (vz c.C):=by
 refine F.ok qT (fun vs H Q E h=>?_) (fun cdv A outer s H vs Q E hr h=>?_)
 ·obtain⟨p,dx,rfl,_⟩:=h
  rfl
 ·obtain⟨p,dx,rfl,hp,k⟩:=h
  refine⟨_,af (qO (pv 0) dG rfl) (
   af (qO (pv 0) dG rfl) (
   af (qO (pv 0) dG rfl) (
   ag (qO (pv 0) (fA aF) rfl)))),?_⟩
  intro w hw;have n1:p≠w:=aj hp hw;refine⟨_,rfl,p,c.C,dx,[],rfl,(by rw[ae n1];exact hp),U.cl,U.nW,(by show 0<1000;decide),?_⟩;intro h hh;have n2:p≠h:=aj ac hh;refine⟨_,rfl,p,c.C,dx,_,rfl,(by rw[ae n2,ac]),U.cl,U.nH,(by show 1<1000;decide),?_⟩;intro cc hc;have n3:p≠cc:=aj ac hc;refine⟨_,rfl,p,c.C,dx,_,rfl,(by rw[ae n3,ac]),U.cl,U.nC,(by show 2<1000;decide),?_⟩;refine⟨by show 0<=sizeLine;exact Ey _,fun d hd=>?_⟩;have n4:p≠d:=aj ac hd;refine⟨_,rfl,p,c.C,dx,_,rfl,(by rw[ae n4,ac]),U.cl,U.nD,(by show 3<1000;decide),?_⟩;rw[ae (Eo n2)]at hh;have wh:w≠h:=aj ac hh;rw[ae (Eo n3)]at hc;have hcw:h≠cc:=aj ac hc;rw[ae (Eo hcw),ae (Eo n3)]at hc;have hwc:w≠cc:=aj ac hc;rw[ae (Eo n4)]at hd;have hdc:cc≠d:=aj ac hd;rw[ae (Eo hdc),ae (Eo n4)]at hd;have hdh:h≠d:=aj ac hd;rw[ae (Eo hdh),ae (Eo n4)]at hd;have hdw:w≠d:=aj ac hd;rw[ae (Eo hdw)]at hd;rw[ae (Eo hwc)]at hc;rw[ae (Eo wh)]at hh;refine k ⟨dx,w,h,cc,d,[]⟩ _ ⟨ac,?_,?_,?_,?_,.nil,[],?_,.nil⟩ (fun b o e hb=>?_) fun b hb=>?_
  ·simp[HA.fp,wh,hwc,hdw,hcw,hdh,hdc]
  ·rw[ae (Eo n1),ae hdw,ae (Eo n1),ae hwc,ae (Eo n1),ae wh,ae (Eo n1),ac]
   rfl
  ·rw[ae (Eo n2),ae hdh,ae (Eo n2),ae hcw,ae (Eo n2),ac]
   rfl
  ·rw[ae (Eo n3),ae hdc,ae (Eo n3),ac]
   rfl
  ·rw[ae (Eo n4),ac]
   rfl
  ·rw[ae hb,ae (aj e hd),ae hb,ae (aj e hc),ae hb,ae (aj e hh),ae hb,ae (aj e hw)]
   exact e
  ·simp[HA.fp]at hb
   rcases hb with rfl | rfl | rfl | rfl
   ·exact hw
   ·exact hh
   ·exact hc
   ·exact hd
theorem qD (F:dB K "come" "Hall.come" gy f fd)(bT:aG P w K mg base cz c.C "dress" 1 ["self","guest","mask"] (jP c.C)) : aV P w K mg base (iN P w) 2 f fd ["self","guest"] (oo c):=by
 refine F.okX qS (fun vs H Q E h=>?_) (fun cdv A outer s H vs Q E hr h=>?_)
 ·obtain⟨p,B,st,g,rfl,_⟩:=h
  rfl
 ·obtain⟨p,B,st,g,rfl,S,ft,hg,k⟩:=h
  have hu:=c8 hr
  refine⟨_,af (aQ (eB (nF hu (pv 1) (bP (pv 0) rfl))) (ag (jH U.eA dE rfl hr.hd rfl U.mA (iC (bM (e8 (pv 1)) (bM ao (kB)))))) az) (
   af (a5 (c9 bT (pv 0) U.cl hr e6 (ak (pv 1) (ak (pv 1) aF)))) (
   ag (a5 (jF E5 EX EY db (bP (pv 0) rfl) (ak (aP (ak (ao) (ak (pv 1) (aF)))) aF))))),?_⟩
  have g1:cv H B.w (.int g) ((look st.worn g).map V.int):=by rw[<-cI];exact cv.k (k:=Sum.inl g) S.w
  refine⟨_,rfl,_,rfl,p,c.C,B.dx,_,_,rfl,S.ob,U.cl,U.nW,tT _,B.w,_,rfl,g1,_,rfl,?_⟩
  cases e:look st.worn g with
  | some m =>
   refine ba ⟨_,rfl,g,rfl,hg,fun y hy=>⟨y,rfl,hy,_,rfl,by decide,fun z=>?_⟩⟩;exact d9 (o:=.already) k (by simp[aK,e]) (by simp) _ (fun _ _ z=>z)
  | none =>
   refine aD ⟨_,rfl,p,B.dx,_,rfl,S.ob,vX _ (by decide +kernel),_,rfl,_,rfl,p,B,st,g,g,rfl,S,by have:=ft.w;omega,by have:=ft.h;omega,?_⟩;have S1:=qj (qk S (put st.worn g g)) (put st.hold g g);have k1:Kp B.fp H (upd (upd H B.w (.dK (dk (put st.worn g g)))) B.h (.dK (dk (put st.hold g g)))):=(ed va).on (ed u9);have t1:Tr H (upd (upd H B.w (.dK (dk (put st.worn g g)))) B.h (.dK (dk (put st.hold g g)))):=(Tr.refl.upd _ _).upd _ _;generalize upd (upd H B.w (.dK (dk (put st.worn g g)))) B.h (.dK (dk (put st.hold g g)))=H1 at S1 k1 t1;obtain⟨as,hd,hp⟩:=id S1.d;have hl:as.length=st.deeds.length:=Ej hp;refine⟨_,rfl,p,c.C,B.dx,_,_,rfl,S1.ob,U.cl,U.nD,xB _,.inl ⟨rfl,_,be.of hd⟩,_,rfl,by show 2<=sizeLine;decide,fun t ht=>?_⟩;have td:B.d≠t:=aj hd ht;refine⟨B.d,_,_,rfl,rfl,by rw[ae td];exact hd,by rw[D6];exact aS (by have:=ft.d;omega),?_⟩;refine j9 k (by simp[aK,e]) _ ⟨B,ke S1 hd hp (.come g) ht,(k1.on (tY ht)).on (ed xN),fun b hb=>.inl hb,(t1.upd _ _).upd _ _⟩
theorem um (F:dB K "go" "Hall.go" jf f fd)(a9:aG P w K mg base (iN P w) c.C "wears" 3 ["self","guest"] (iH c)) : aV P w K mg base (iN P w) 4 f fd ["self","guest"] (zU c):=by
 refine F.okX uB (fun vs H Q E h=>?_) (fun cdv A outer s H vs Q E hr h=>?_)
 ·obtain⟨p,B,st,g,rfl,_⟩:=h
  rfl
 ·obtain⟨p,B,st,g,rfl,S,ft,hg,hm,k⟩:=h
  refine⟨_,af (aQ (ax gL (c9 a9 (pv 0) U.cl hr e7 (ak (pv 1) aF)) (pv 1) (aB _)) (ag (jH U.eM dE rfl hr.hd rfl U.mM (iC (bM (e8 (pv 1)) (bM ao (bM (e8 (c9 a9 (pv 0) U.cl hr e7 (ak (pv 1) aF))) (kB))))))) az) (
   af (a5 (nJ (bP (pv 0) rfl) (pv 1) ⟨rfl,rfl,rfl,rfl⟩)) (
   af (a5 (nJ (bP (pv 0) rfl) (pv 1) ⟨rfl,rfl,rfl,rfl⟩)) (
   ag (a5 (jF E5 EX EY db (bP (pv 0) rfl) (ak (aP (ak (ao) (ak (pv 1) (aF)))) aF)))))),?_⟩
  have no:=pz B (m:="wears") (by decide +kernel) (by decide +kernel) (by decide +kernel) (by decide +kernel);refine⟨_,rfl,p,B.dx,_,rfl,S.ob,no,_,rfl,p,B,st,g,rfl,S,hg,?_⟩
  cases e:look st.worn g with
  | none=>exact d9 (o:=.noguest g) k (by simp[aK,e]) (by simp)
  | some m =>
   obtain⟨hs,hh⟩:=hm m e;refine⟨_,rfl,rfl,_,rfl,?_⟩
   by_cases em:m=g
   ·subst em
    rw[Ee rfl];refine aD ?_
    have hv:cK (dk st.worn) (Sum.inl m:bK)=some (V.int m):=by rw[cI,e];rfl
    obtain⟨m2,e2⟩:=EW.mp (hh rfl)
    have hv2:cK (dk st.hold) (Sum.inl m:bK)=some (V.int m2):=by rw[cI,e2];rfl
    refine⟨_,rfl,p,c.C,B.dx,_,_,rfl,S.ob,U.cl,U.nW,tT _,B.w,rfl,.inl ⟨_,.inl S.w⟩,_,rfl,_,Sum.inl m,_,S.w,rfl,hv,?_⟩;rw[mz];have S0:=qk S (bR st.worn m);refine⟨_,rfl,p,c.C,B.dx,_,_,rfl,S0.ob,U.cl,U.nH,zh _,B.h,rfl,.inl ⟨_,.inl S0.h⟩,_,rfl,_,Sum.inl m,_,S0.h,rfl,hv2,?_⟩;rw[mz];have S1:=qj S0 (bR st.hold m);have k1:Kp B.fp H (upd (upd H B.w (.dK (dk (bR st.worn m)))) B.h (.dK (dk (bR st.hold m)))):=(ed va).on (ed u9);have t1:Tr H (upd (upd H B.w (.dK (dk (bR st.worn m)))) B.h (.dK (dk (bR st.hold m)))):=(Tr.refl.upd _ _).upd _ _;generalize upd (upd H B.w (.dK (dk (bR st.worn m)))) B.h (.dK (dk (bR st.hold m)))=H1 at S1 k1 t1;obtain⟨as,hd,hp⟩:=id S1.d;have hl:as.length=st.deeds.length:=Ej hp;refine⟨_,rfl,p,c.C,B.dx,_,_,rfl,S1.ob,U.cl,U.nD,xB _,.inl ⟨rfl,_,be.of hd⟩,_,rfl,by show 2<=sizeLine;decide,fun t ht=>?_⟩;have td:B.d≠t:=aj hd ht;refine⟨B.d,_,_,rfl,rfl,by rw[ae td];exact hd,by rw[D6];exact aS (by have:=ft.d;omega),?_⟩;refine j9 k (by simp[aK,e]) _ ⟨B,ke S1 hd hp (.go m) ht,(k1.on (tY ht)).on (ed xN),fun b hb=>.inl hb,(t1.upd _ _).upd _ _⟩
   ·rw[Ei (fun z=>em (V.int.inj z))]
    refine ba ⟨_,rfl,g,rfl,hg,fun y hy=>⟨y,rfl,hy,_,rfl,by decide,?_⟩⟩;refine⟨_,rfl,p,B.dx,_,rfl,S.ob,no,_,rfl,p,B,st,g,rfl,S,hg,?_⟩;rw[e];refine⟨m,rfl,hs,fun y hy=>⟨y,rfl,hy,fun z=>?_⟩⟩;exact d9 (o:=.masked) k (by simp[aK,e,em]) (by simp) _ (fun _ _ z=>z)
theorem ku (F:dB K "exchange" "Hall.exchange" di f fd)(a9:aG P w K mg base (iN P w) c.C "wears" 3 ["self","guest"] (iH c))(i9:aG P w K mg base cz c.C "met" 1 ["self","one","other"] (vy c.C))(bT:aG P w K mg base cz c.C "dress" 1 ["self","guest","mask"] (jP c.C))(cG:aG P w K mg base cz c.C "acquaint" 1 ["self","one","other"] (vx c.C)) : aV P w K mg base (iN P w) 4 f fd ["self","one","other"] (qW c):=by
 refine F.okX df (fun vs H Q E h=>?_) (fun cdv A outer s H vs Q E hr h=>?_)
 ·obtain⟨p,B,st,a,b,rfl,_⟩:=h
  rfl
 ·obtain⟨p,B,st,a,b,rfl,S,ft,ha,hb,k⟩:=h
  have hr1:bN 1 _:=hr.mono (by decide)
  refine⟨_,af (cx (i:=3) df.nd rfl (Or.inl rfl) (c9 a9 (pv 0) U.cl hr e7 (ak (pv 1) aF))) (
   af (cx (i:=4) df.nd rfl (Or.inl rfl) (c9 a9 (pv 0) U.cl hr e7 (ak (pv 2) aF))) (
   af (aQ (ax b9 (pv 1) (pv 2) (aB _)) (ag (jH U.eS dE rfl hr.hd rfl U.mS (iC (bM (e8 (pv 1)) (bM ao (kB)))))) az) (
   af (aQ (kC (c9 i9 (pv 0) U.cl hr1 e6 (ak (pv 1) (ak (pv 2) aF)))) (ag (jH U.eT dE rfl hr.hd rfl U.mT (iC (bM (e8 (pv 1)) (bM ao (bM (e8 (pv 2)) (bM ao (kB)))))))) az) (
   af (a5 (c9 bT (pv 0) U.cl hr1 e6 (ak (pv 1) (ak (pv 4) aF)))) (
   af (a5 (c9 bT (pv 0) U.cl hr1 e6 (ak (pv 2) (ak (pv 3) aF)))) (
   af (a5 (c9 cG (pv 0) U.cl hr1 e6 (ak (pv 1) (ak (pv 2) aF)))) (
   af (a5 (c9 cG (pv 0) U.cl hr1 e6 (ak (pv 2) (ak (pv 1) aF)))) (
   ag (a5 (jF E5 EX EY db (bP (pv 0) rfl) (ak (aP (ak (ao) (ak (pv 1) (ak (pv 2) (aF))))) aF))))))))))),?_⟩
  have no:∀ (B:HA)(m:Str),m∈(["wears","met","dress","acquaint"]:List Str)->(bG B).lookup m=none:=fun B m hm=>by
   simp only[Eh,List.not_mem_nil,or_false]at hm;rcases hm with rfl | rfl | rfl | rfl<;>exact vX B (by decide +kernel)
  have n1:∀ B:HA,(bG B).lookup ("wears" : Str)=none:=fun B=>no B _ (by simp);have n2:∀ B:HA,(bG B).lookup ("met" : Str)=none:=fun B=>no B _ (by simp);have n3:∀ B:HA,(bG B).lookup ("dress" : Str)=none:=fun B=>no B _ (by simp);have n4:∀ B:HA,(bG B).lookup ("acquaint" : Str)=none:=fun B=>no B _ (by simp);refine⟨_,rfl,p,B.dx,_,rfl,S.ob,n1 B,_,rfl,p,B,st,a,rfl,S,ha,?_⟩
  cases ea:look st.worn a with
  | none=>exact d9 (o:=.noguest a) k (by simp[aK,ea]) (by simp)
  | some ma =>
   refine⟨_,rfl,p,B.dx,_,rfl,S.ob,n1 B,_,rfl,p,B,st,b,rfl,S,hb,?_⟩
   cases eb:look st.worn b with
   | none=>exact d9 (o:=.noguest b) k (by simp[aK,ea,eb]) (by simp)
   | some mb =>
    refine⟨_,rfl,_,rfl,rfl,_,rfl,?_⟩
    by_cases eab:a=b
    ·rw[Ee (by rw[eab])]
     refine ba ⟨_,rfl,a,rfl,ha,fun y hy=>⟨y,rfl,hy,_,rfl,by decide,fun z=>?_⟩⟩;exact d9 (o:=.same) k (by simp[aK,ea,eb,eab]) (by simp) _ (fun _ _ z=>z)
    ·rw[Ei (fun z=>eab (V.int.inj z))]
     refine aD ⟨_,rfl,p,B.dx,_,rfl,S.ob,n2 B,_,rfl,_,rfl,p,B,st,a,b,rfl,S,fun H1 s1=>⟨_,rfl,?_⟩⟩
     cases em:gP st.circ a b with
     | true =>
      refine ba ⟨_,rfl,a,rfl,ha,fun y hy=>⟨y,rfl,hy,_,rfl,by decide,_,rfl,b,rfl,hb,fun y hy=>⟨y,rfl,hy,_,rfl,by decide,fun z=>?_⟩⟩⟩;exact d9 (o:=.met) k (by simp[aK,ea,eb,eab,em]) (by simp) _ s1
     | false =>
      refine aD ?_;have S1:=S.mono s1;have kd:=j9 k (by simp[aK,ea,eb,eab,em])
      have wa:wr st.worn a=ma:=by unfold wr;rw[ea];rfl
      have wb:wr st.worn b=mb:=by unfold wr;rw[eb];rfl
      have l1:=qr st.worn a mb;have l2:=qr st.hold mb a;have f1:=ft.w;have f2:=ft.h;refine⟨_,rfl,p,B.dx,_,rfl,S1.ob,n3 B,_,rfl,_,rfl,p,B,st,a,mb,rfl,S1,by omega,by omega,?_⟩;have S2:=qj (qk S1 (put st.worn a mb)) (put st.hold mb a);have k2:Kp B.fp H (upd (upd H1 B.w (.dK (dk (put st.worn a mb)))) B.h (.dK (dk (put st.hold mb a)))):=((Kp.of_same s1).on (ed va)).on (ed u9);have t2:Tr H (upd (upd H1 B.w (.dK (dk (put st.worn a mb)))) B.h (.dK (dk (put st.hold mb a)))):=((Tr.of_same s1).upd _ _).upd _ _;generalize upd (upd H1 B.w (.dK (dk (put st.worn a mb)))) B.h (.dK (dk (put st.hold mb a)))=H2 at S2 k2 t2;refine⟨_,rfl,p,B.dx,_,rfl,S2.ob,n3 B,_,rfl,_,rfl,p,B,_,b,ma,rfl,S2,by show (put st.worn a mb).length<2000;omega,by show (put st.hold mb a).length<2000;omega,?_⟩;have S3:=qj (qk S2 (put (put st.worn a mb) b ma)) (put (put st.hold mb a) ma b);have k3:Kp B.fp H (upd (upd H2 B.w (.dK (dk (put (put st.worn a mb) b ma)))) B.h (.dK (dk (put (put st.hold mb a) ma b)))):=(k2.on (ed va)).on (ed u9);dsimp only at S3 ⊢;have t3:Tr H (upd (upd H2 B.w (.dK (dk (put (put st.worn a mb) b ma)))) B.h (.dK (dk (put (put st.hold mb a) ma b)))):=(t2.upd _ _).upd _ _;generalize upd (upd H2 B.w (.dK (dk (put (put st.worn a mb) b ma)))) B.h (.dK (dk (put (put st.hold mb a) ma b)))=H3 at S3 k3 t3;refine⟨_,rfl,p,B.dx,_,rfl,S3.ob,n4 B,_,rfl,_,rfl,p,B,_,a,b,rfl,S3,by have:=ft.c;show st.circ.length<2000;omega,fun x hx=>by have:=ft.k x hx;omega,fun H4 ⟨B4,S4,k4,p4,t4⟩=>?_⟩;dsimp only at S4;refine⟨_,rfl,p,B4.dx,_,rfl,S4.ob,n4 B4,_,rfl,_,rfl,p,B4,_,b,a,rfl,S4,by have:=ft.c;have:=jA st.circ a b;show (bu st.circ a b).length<2000;omega,fun x hx=>by have:=me (n:=999) (fun x hx=>by have:=ft.k x hx;omega) (by decide) x hx;omega,fun H5 ⟨B5,S5,k5,p5,t5⟩=>?_⟩
      dsimp only at S5;have k4':Kp B.fp H H4:=k3.on k4
      have f4:∀ x∈B4.fp,x∈B.fp\/H x=none:=fun x hx=>by
       rcases p4 x hx with z | z
       ·exact .inl z
       ·by_cases hq:x∈B.fp
        ·exact .inl hq
        ·refine .inr ?_
         cases e:H x with
         | none=>rfl
         | some o=>rw[k3 x o e hq]at z;cases z
      have k5':Kp B.fp H H5:=k4'.trans k5 f4
      have f5:∀ x∈B5.fp,x∈B.fp\/H x=none:=fun x hx=>by
       rcases p5 x hx with z | z
       ·exact f4 x z
       ·by_cases hq:x∈B.fp
        ·exact .inl hq
        ·refine .inr ?_
         cases e:H x with
         | none=>rfl
         | some o=>rw[k4' x o e hq]at z;cases z
      obtain⟨as,hd,hp⟩:=id S5.d;have hl:as.length=st.deeds.length:=Ej hp;refine⟨_,rfl,p,c.C,B5.dx,_,_,rfl,S5.ob,U.cl,U.nD,xB _,.inl ⟨rfl,_,be.of hd⟩,_,rfl,_,rfl,by show 3<=sizeLine;decide,fun t ht=>?_⟩;have td:B5.d≠t:=aj hd ht;refine⟨B5.d,_,_,rfl,rfl,by rw[ae td];exact hd,by rw[D6];exact aS (by have:=ft.d;omega),?_⟩;have S6:=ke S5 hd hp (.exch a b) ht;refine kd _ ⟨B5,?_,?_,f5,(((t3.trans t4).trans t5).upd _ _).upd _ _⟩
      ·show aJ c.C _ p B5 { worn:=put (put st.worn a (wr st.worn b)) b (wr st.worn a),hold:=put (put st.hold (wr st.worn b) a) (wr st.worn a) b,circ:=bu (bu st.circ a b) b a,deeds:=st.deeds++[.exch a b] }
       rw[wa,wb];exact S6
      ·intro x o e hx
       have h5:=k5' x o e hx
       have hx5:x≠B5.d:=fun z=>by
        rcases f5 B5.d xN with q | q
        ·exact hx (by rw[z];exact q)
        ·rw[z,q]at e;cases e
       show upd (upd H5 t _) B5.d _ x=some o
       rw[ae hx5,ae (aj h5 ht)];exact h5
theorem oO (F:dB K "dress" "Hall.dress" fC f fd) : aV P w K mg base cz 1 f fd ["self","guest","mask"] (jP c.C):=by
 refine F.ok oW (fun vs H Q E h=>?_) (fun cdv A outer s H vs Q E hr h=>?_)
 ·obtain⟨p,B,st,g,m,rfl,_⟩:=h
  rfl
 ·obtain⟨p,B,st,g,m,rfl,S,hw,hh,k⟩:=h
  have hu:=c8 hr
  have nwh:B.w≠B.h:=by have:=S.nd;simp[HA.fp]at this;exact this.1.1
  have npw:p≠B.w:=b5 S.ob S.w (by intro z;cases z)
  refine⟨_,af (gm hu (bP (pv 0) rfl) (pv 1) (pv 2) rfl) (
   ag (gm hu (bP (pv 0) rfl) (pv 2) (pv 1) rfl)),?_⟩
  refine⟨_,rfl,_,rfl,p,c.C,B.dx,_,_,rfl,S.ob,U.cl,U.nW,tT _,_,rfl,B.w,_,rfl,jk.k (k:=Sum.inl g) S.w (by rw[uc];exact Ep hw (by decide)),?_⟩;rw[jI];refine⟨_,rfl,_,rfl,p,c.C,B.dx,_,_,rfl,(by rw[ae npw];exact S.ob),U.cl,U.nH,zh _,_,rfl,B.h,_,rfl,jk.k (k:=Sum.inl m) (by rw[ae (Eo nwh)];exact S.h) (by rw[uc];exact Ep hh (by decide)),?_⟩;rw[jI];exact k
theorem kr (F:dB K "acquaint" "Hall.acquaint" dh f fd) : aV P w K mg base cz 1 f fd ["self","one","other"] (vx c.C):=by
 refine F.ok fV (fun vs H Q E h=>?_) (fun cdv A outer s H vs Q E hr h=>?_)
 ·obtain⟨p,B,st,a,b,rfl,_⟩:=h
  rfl
 ·obtain⟨p,B,st,a,b,rfl,S,hl1,hl2,k⟩:=h
  have hu:=c8 hr
  refine⟨_,af (cx (i:=3) fV.nd rfl (Or.inl rfl) (x3 (bP (pv 0) rfl) (pv 1) dG ⟨rfl,rfl,rfl,rfl⟩)) (
   ag (gm hu (pv 3) (pv 2) gM rfl)),?_⟩
  refine⟨_,rfl,p,c.C,B.dx,_,_,rfl,S.ob,U.cl,U.nC,zg _,B.c,rfl,.inl ⟨_,.inl S.c⟩,_,rfl,fun l hl=>?_⟩;have s1:aE H (upd H l (.dK [])):=ah hl;have S1:=S.mono s1;have ap:=S.apart;have lenc:B.cs.length=st.circ.length:=Ej S.cs
  have lc:(cC B.cs st.circ).length<sizeLine:=by rw[pD lenc];exact Ep hl1 (by decide)
  have np:=S.pne;simp only[HA.fp,Eh,not_or]at np;refine⟨_,Sum.inl a,S1.c,rfl,lc,fun v hv=>?_,fun hv=>?_⟩
  ·rcases fK a S1.cs with ⟨h1,h2,h3⟩ | ⟨ad,h1,h2,h3,h4⟩
   ·rw[h1]at hv;cases hv
   ·rw[h2]at hv
    cases hv
    have lk:(pC (f9 st.circ a)).length<sizeLine:=by
     have e:∀ ci:List (Int×List Int),(∀ x∈ci,x.2.length<2000)->(f9 ci a).length<2000:=by
      intro ci
      induction ci with
      | nil=>intro _;show 0<2000;decide
      | cons x r ih =>
       intro h;unfold f9;split
       ·exact h x Ec
       ·exact ih fun y hy=>h y (Eb _ hy)
     unfold pC;rw[D6];exact Ep (e _ hl2) (by decide)
    refine⟨_,rfl,_,rfl,ad,_,rfl,jk.k (k:=Sum.inl b) h3 lk,?_⟩;rw[zP]
    have adfp:ad∈B.fp:=by simp[HA.fp,h1]
    have nn:∀ x,x∉B.cs->x≠ad:=fun x hx z=>hx (by rw[z];exact h1);obtain⟨q1,q2⟩:=h4 b (upd (upd H l (.dK [])) ad (.dK (pC (iK (f9 st.circ a) b)))) ap.cs (fun x _ hx o e=>by rw[ae hx];exact e) ac;refine k _ ⟨B,⟨by rw[ae (nn _ np.2.2.2.2)];exact S1.ob,S.nd,by rw[ae (nn _ ap.w)];exact S1.w,by rw[ae (nn _ ap.h)];exact S1.h,by rw[ae (nn _ ap.c),S1.c,q2],q1,?_⟩,(tY hl).on (ed adfp),fun x hx=>.inl hx,(Tr.refl.upd _ _).upd _ _⟩;obtain⟨as,hd,hp⟩:=S1.d;refine⟨as,by rw[ae (nn _ ap.d)];exact hd,Paired.mapP hp fun t x e=>?_⟩;obtain⟨xs,ex⟩:=bO x;rw[ae (fun z=>S1.tup (xs:=xs) (by rw[<-ex];exact e) (by rw[z];exact adfp))];exact e
  ·rcases fK a S1.cs with ⟨h1,h2,h3⟩ | ⟨ad,h1,h2,h3,h4⟩
   ·have lB:l∉B.fp:=fun z=>by obtain⟨o,e⟩:=S.tracked z;rw[hl]at e;cases e
    have lB':=lB;simp only[HA.fp,Eh,not_or]at lB';obtain⟨l1,l2,l3,l4,l5⟩:=lB';refine⟨_,rfl,_,rfl,l,_,rfl,jk.k (k:=Sum.inl b) (by rw[ae l3];exact ac) (by show 0<sizeLine;decide),?_⟩;rw[show eU [] (Sum.inl b:bK) (V.bl true)=pC [b] from rfl,ye _ hv]
    have e1:∀ x o,H x=some o->x≠B.c->x≠l->(upd (upd (upd H l (.dK [])) B.c (.dK (cC B.cs st.circ++[(Sum.inl a,V.ref l)]))) l (.dK (pC [b]))) x=some o:=fun x o e hx hy=>by
     rw[ae hy,ae hx,ae hy];exact e
    have nl:∀ x o,H x=some o->x≠l:=fun x o e=>aj e hl;refine k _ ⟨⟨B.dx,B.w,B.h,B.c,B.d,B.cs++[l]⟩,⟨?_,?_,e1 _ _ S.w ap.wc (nl _ _ S.w),e1 _ _ S.h ap.hc (nl _ _ S.h),?_,?_,?_⟩,?_,fun x hx=>?_,((Tr.refl.upd _ _).upd _ _).upd _ _⟩
    ·exact e1 _ _ S.ob np.2.2.1 (nl _ _ S.ob)
    ·refine uO.fp ⟨ap.wh,ap.wc,ap.wd,ap.hc,ap.hd,ap.cd,?_,?_,?_,?_,?_⟩
     ·simp[ap.w,Eo l1]
     ·simp[ap.h,Eo l2]
     ·simp[ap.c,Eo l3]
     ·simp[ap.d,Eo l4]
     ·exact lM ap.cs l5
    ·show (upd (upd (upd H l (.dK [])) B.c (.dK (cC B.cs st.circ++[(Sum.inl a,V.ref l)]))) l (.dK (pC [b]))) B.c=some (.dK (cC (B.cs++[l]) (bu st.circ a b)))
     rw[ae (Eo l3),ac,h3 b,mi a [b] l lenc]
    ·show CP _ (B.cs++[l]) (bu st.circ a b)
     rw[h3 b];exact a7 (ju S.cs fun x hx o e=>e1 x o e (fun z=>ap.c (by rw[<-z];exact hx)) (nl x o e)) (.cons ac .nil)
    ·obtain⟨as,hd,hp⟩:=S.d
     refine⟨as,e1 _ _ hd (Eo ap.cd) (nl _ _ hd),Paired.mapP hp fun t x e=>?_⟩;obtain⟨xs,ex⟩:=bO x;exact e1 t _ e (fun z=>S.tup (xs:=xs) (by rw[<-ex];exact e) (by rw[z];exact Ad)) (nl t _ e)
    ·intro x o e hx
     exact e1 x o e (fun z=>hx (by rw[z];exact Ad)) (nl x o e)
    ·simp only[HA.fp,Eh,EA]at hx ⊢
     rcases hx with hx | hx | hx | hx | hx | hx | hx
     ·exact .inl (.inl hx)
     ·exact .inl (.inr (.inl hx))
     ·exact .inl (.inr (.inr (.inl hx)))
     ·exact .inl (.inr (.inr (.inr (.inl hx))))
     ·exact .inl (.inr (.inr (.inr (.inr hx))))
     ·exact .inr (by rw[hx];exact hl)
     ·cases hx
   ·rw[h2]at hv;cases hv
theorem nj (F:dB K "inside" "Hall.inside" eF f fd) : aV P w K mg base cz 1 f fd ["self","guest"] (jS c.C):=by
 refine F.ok nV (fun vs H Q E h=>?_) (fun cdv A outer s H vs Q E hr h=>?_)
 ·obtain⟨p,B,st,g,rfl,_⟩:=h
  rfl
 ·obtain⟨p,B,st,g,rfl,S,k⟩:=h
  have hu:=c8 hr;refine⟨_,ag (aw (uv (nF hu (pv 1) (bP (pv 0) rfl)))),?_⟩
  have g1:cv H B.w (.int g) ((look st.worn g).map V.int):=by rw[<-cI];exact cv.k (k:=Sum.inl g) S.w
  refine⟨_,rfl,_,rfl,p,c.C,B.dx,_,_,rfl,S.ob,U.cl,U.nW,tT _,B.w,_,rfl,g1,?_⟩;rw[Option.isSome_map];exact k
theorem ni (F:dB K "guests" "Hall.guests" eE f fd) : aV P w K mg base cz 1 f fd ["self"] (jQ c.C):=by
 refine F.ok nU (fun vs H Q E h=>?_) (fun cdv A outer s H vs Q E hr h=>?_)
 ·obtain⟨p,B,st,rfl,_⟩:=h
  rfl
 ·obtain⟨p,B,st,rfl,S,hl,k⟩:=h
  refine⟨_,ag (aw (bg (dQ rfl) (by rfl) T.sorted Fq (ak (bP (pv 0) rfl) aF))),?_⟩;refine⟨_,rfl,p,c.C,B.dx,_,_,rfl,S.ob,U.cl,U.nW,tT _,B.w,_,aH st.worn,rfl,S.w,?_,by unfold aH;rw[D6];exact hl,k⟩;unfold dk aH;rw[EH,EH];rfl
theorem oR (F:dB K "wears" "Hall.wears" fE f fd)(NG:jr P w K mg base c) : aV P w K mg base (iN P w) 3 f fd ["self","guest"] (iH c):=by
 refine F.okX oZ (fun vs H Q E h=>?_) (fun cdv A outer s H vs Q E hr h=>?_)
 ·obtain⟨p,B,st,g,rfl,_⟩:=h
  rfl
 ·obtain⟨p,B,st,g,rfl,S,hg,k⟩:=h
  have hu:=c8 hr
  refine⟨_,af (aQ (eB (kz hu (pv 1) (bP (pv 0) rfl))) (ag (si NG U hr dE rfl hr.hd rfl (pv 1))) az) (
   ag (aw (gk hu (bP (pv 0) rfl) (pv 1) (fun _ _=>rfl)))),?_⟩
  have g1:cv H B.w (.int g) ((look st.worn g).map V.int):=by rw[<-cI];exact cv.k (k:=Sum.inl g) S.w
  refine⟨_,rfl,_,rfl,p,c.C,B.dx,_,_,rfl,S.ob,U.cl,U.nW,tT _,B.w,_,rfl,g1,_,rfl,?_⟩
  cases e:look st.worn g with
  | none =>
   rw[e]at k;exact ba ⟨_,rfl,g,rfl,hg,fun dx hdx=>k dx _ (ah hdx) ac⟩
  | some m =>
   rw[e]at k;refine aD ⟨_,rfl,p,c.C,B.dx,_,_,rfl,S.ob,U.cl,U.nW,tT _,_,rfl,B.w,_,rfl,(by rw[e]at g1;exact g1),k⟩
theorem nu (F:dB K "wearer" "Hall.wearer" eI f fd)(NG:jr P w K mg base c) : aV P w K mg base (iN P w) 3 f fd ["self","mask"] (jW c):=by
 refine F.okX nY (fun vs H Q E h=>?_) (fun cdv A outer s H vs Q E hr h=>?_)
 ·obtain⟨p,B,st,g,rfl,_⟩:=h
  rfl
 ·obtain⟨p,B,st,g,rfl,S,hg,k⟩:=h
  have hu:=c8 hr
  refine⟨_,af (aQ (eB (kz hu (pv 1) (bP (pv 0) rfl))) (ag (si NG U hr dE rfl hr.hd rfl (pv 1))) az) (
   ag (aw (gk hu (bP (pv 0) rfl) (pv 1) (fun _ _=>rfl)))),?_⟩
  have g1:cv H B.h (.int g) ((look st.hold g).map V.int):=by rw[<-cI];exact cv.k (k:=Sum.inl g) S.h
  refine⟨_,rfl,_,rfl,p,c.C,B.dx,_,_,rfl,S.ob,U.cl,U.nH,zh _,B.h,_,rfl,g1,_,rfl,?_⟩
  cases e:look st.hold g with
  | none =>
   rw[e]at k;exact ba ⟨_,rfl,g,rfl,hg,fun dx hdx=>k dx _ (ah hdx) ac⟩
  | some m =>
   rw[e]at k;refine aD ⟨_,rfl,p,c.C,B.dx,_,_,rfl,S.ob,U.cl,U.nH,zh _,_,rfl,B.h,_,rfl,(by rw[e]at g1;exact g1),k⟩
theorem r9 (F:dB K "met" "Hall.met" ij f fd) : aV P w K mg base cz 1 f fd ["self","one","other"] (vy c.C):=by
 refine F.ok sG (fun vs H Q E h=>?_) (fun cdv A outer s H vs Q E hr h=>?_)
 ·obtain⟨p,B,st,a,b,rfl,_⟩:=h
  rfl
 ·obtain⟨p,B,st,a,b,rfl,S,k⟩:=h
  have hu:=c8 hr;refine⟨_,ag (aw (uv (nF hu (pv 2) (sk hu (bP (pv 0) rfl) (pv 1) dG ⟨rfl,rfl,rfl,rfl⟩)))),?_⟩;refine⟨_,rfl,_,rfl,p,c.C,B.dx,_,_,rfl,S.ob,U.cl,U.nC,zg _,B.c,rfl,.inl ⟨_,.inl S.c⟩,_,rfl,fun l hl=>?_⟩;have s1:aE H (upd H l (.dK [])):=ah hl;have S1:=S.mono s1;refine⟨_,cv.k (k:=Sum.inl a) S1.c,?_⟩;rcases fK a S1.cs with ⟨h1,h2,h3⟩ | ⟨ad,h1,h2,h3,h4⟩
  ·rw[h1]
   refine⟨l,_,rfl,cv.k (k:=Sum.inl b) ac,?_⟩;have:=k _ s1;unfold gP at this;rw[h2]at this;exact this
  ·rw[h2]
   refine⟨ad,_,rfl,cv.k (k:=Sum.inl b) h3,?_⟩;rw[z6];exact k _ s1
theorem kx (F:dB K "partners" "Hall.partners" dj f fd) : aV P w K mg base cz 1 f fd ["self","guest"] (gu c.C):=by
 refine F.ok kE (fun vs H Q E h=>?_) (fun cdv A outer s H vs Q E hr h=>?_)
 ·obtain⟨p,B,st,g,rfl,_⟩:=h
  rfl
 ·obtain⟨p,B,st,a,rfl,S,h64,k⟩:=h
  have hu:=c8 hr;refine⟨_,ag (aw (bg (dQ rfl) (by rfl) T.sorted Fq (ak (sk hu (bP (pv 0) rfl) (pv 1) dG ⟨rfl,rfl,rfl,rfl⟩) aF))),?_⟩;refine⟨_,rfl,p,c.C,B.dx,_,_,rfl,S.ob,U.cl,U.nC,zg _,B.c,rfl,.inl ⟨_,.inl S.c⟩,_,rfl,fun l hl=>?_⟩;have s1:aE H (upd H l (.dK [])):=ah hl;have S1:=S.mono s1;refine⟨_,cv.k (k:=Sum.inl a) S1.c,?_⟩;rcases fK a S1.cs with ⟨h1,h2,h3⟩ | ⟨ad,h1,h2,h3,h4⟩
  ·rw[h1]
   refine⟨l,[],[],rfl,ac,rfl,by decide,fun l2 hl2=>?_⟩;refine k l2 _ (s1.free hl2) (s1.trans (ah hl2)) ?_;rw[h2,ac]
  ·rw[h2]
   refine⟨ad,_,f9 st.circ a,rfl,h3,by unfold pC;rw[EH];rfl,h64,fun l2 hl2=>?_⟩;exact k l2 _ (s1.free hl2) (s1.trans (ah hl2)) ac
theorem oP (F:dB K "pairs" "Hall.pairs" dw f fd)(dJ:aG P w K mg base cz c.C "partners" 1 ["self","guest"] (gu c.C)) : aV P w K mg base cz 2 f fd ["self"] (jR c.C):=by
 refine F.ok oX (fun vs H Q E h=>?_) (fun cdv A outer s H vs Q E hr h=>?_)
 ·obtain⟨p,B,st,L,rfl,_⟩:=h
  rfl
 ·obtain⟨p,B,st,L,rfl,S,ci,hL,hP,k⟩:=h
  have hu:=c8 hr
  have two:(2:Nat)<=sizeLine:=by decide
  have nQ:(bG B).lookup ("partners" : Str)=none:=vX B (by decide +kernel);have kk:=ci.kk;refine⟨_,ag (aw (x2 (so:=am dw) (N:=jC) (N':=["one","other","self"]) (src:=[none,none,some 0]) rfl rfl yW rfl (du (bg (dQ rfl) (by rfl) T.sorted Fq (fT (bP (pv 0) rfl)))) (fun cl C s2 H2 ex=>⟨k8 0 (show (["one","other","self"]:List Str).Nodup by decide +kernel),fb,x9 K (c9 dJ (pv 2) U.cl hr.m e6 (fT (pv 0))),k8 1 (show (["one","other","self"]:List Str).Nodup by decide +kernel),vp (ax pI (pv 0) (pv 1) (aB _)),aP (eR (pv 0) (pv 1))⟩))),?_⟩
  have ck:(cC B.cs st.circ).map (·.1)=(st.circ.map (·.1)).map Sum.inl:=by
   have:=S.cs;generalize B.cs=cs at this;generalize st.circ=xs at this
   induction this with
   | nil=>rfl
   | cons _ _ ih=>simp only[cC,Er];rw[ih]
  refine⟨_,rfl,p,c.C,B.dx,_,_,rfl,S.ob,U.cl,U.nC,zg _,B.c,_,st.circ.map (·.1),rfl,S.c,ck,by rw[D6];omega,fun lo hlo=>?_⟩;have s1:=ah (o:=.lst ((bB (st.circ.map (·.1))).map V.int)) hlo;have ho1:upd H lo (.lst ((bB (st.circ.map (·.1))).map V.int)) lo=some (.lst ((bB (st.circ.map (·.1))).map V.int)):=ac;generalize upd H lo (.lst ((bB (st.circ.map (·.1))).map V.int))=H1 at s1 ho1 ⊢;refine⟨lo,rfl,⟨_,be.of ho1⟩,fun l hl=>?_⟩;generalize hks:bB (st.circ.map (·.1))=ks at ho1 ⊢
  have kl:ks.length<=L.length:=by rw[<-hks,wf,D6];exact kk
  have pl:∀ i,((ks.take i).flatMap (cJ st.circ)).length<=1000:=fun i=>by
   have e:cV st.circ=(ks.take i++ks.drop i).flatMap (cJ st.circ):=by rw[List.take_append_drop];unfold cV;rw[hks]
   rw[e,List.flatMap_append,El]at hP;omega
  refine cD (K:=K) (a:=lo) (xs:=ks.map V.int) (fun i σ H2=>∃ u v:Option V,σ=[u,v,some (.ref p)]/\aE H1 H2/\kU H2 l ((ks.take i).flatMap (cJ st.circ)))
   ⟨none,none,rfl,ah hl,⟨[],ac,.nil⟩⟩ (fun i σ H2 _ ⟨_,_,_,s2,_⟩=>be.of (s2 _ _ ho1)) ?_ ?_
  ·rintro i y σ H2 hi ⟨u,v,rfl,s2,row⟩
   obtain⟨a,ha,rfl⟩:=bL hi;have S2:=(S.mono s1).mono s2
   have ec:(ks.take (i+1)).flatMap (cJ st.circ)=(ks.take i).flatMap (cJ st.circ)++cJ st.circ a:=by rw[E8,ha,Fb,List.flatMap_append,List.flatMap_singleton]
   have pl2:=pl (i+1);rw[ec,El]at pl2;refine yw ⟨_,rfl,p,B.dx,_,rfl,S2.ob,nQ,_,rfl,p,B,st,a,rfl,S2,FJ (ci.cl a) hL,fun lm H3 hlm s3 hm3=>⟨lm,rfl,⟨_,be.of hm3⟩,?_⟩⟩;have row3:=row.mono s3;generalize hms:bB (f9 st.circ a)=ms at hm3
   have mE:cJ st.circ a=(ms.filter fun b=>decide (a<b)).map fun b=>(a,b):=by unfold cJ;rw[hms]
   refine cD (K:=K) (a:=lm) (xs:=ms.map V.int) (fun j σ H4=>∃ v:Option V,σ=[some (.int a),v,some (.ref p)]/\(∀ b o,H3 b=some o->b≠l->H4 b=some o)/\kU H4 l ((ks.take i).flatMap (cJ st.circ)++((ms.take j).filter fun b=>decide (a<b)).map fun b=>(a,b)))
    ⟨_,rfl,fun b o e _=>e,by simpa using row3⟩ (fun j σ H4 _ ⟨_,_,s4,_⟩=>be.of (s4 _ _ hm3 ?_)) ?_ ?_
   ·obtain⟨as,hl3,_⟩:=row
    exact fun z=>by rw[<-z]at hl3;rw[hlm]at hl3;cases hl3
   ·rintro j y σ H4 hj ⟨v,rfl,s4,row4⟩
    obtain⟨b,hb,rfl⟩:=bL hj
    have et:(ms.take (j+1))=ms.take j++[b]:=by rw[E8,hb,Fb]
    have le:((ms.take j).filter fun b=>decide (a<b)).length<=(cJ st.circ a).length:=by
     rw[mE,D6];exact (List.Sublist.filter _ (List.take_sublist j ms)).length_le
    refine yx ⟨_,rfl,_,rfl,_,_,rfl,rfl,_,rfl,?_⟩
    by_cases hab:a<b
    ·rw[Ee hab]
     obtain⟨as,hl4,hp4⟩:=row4;have lq:=Ej hp4;refine ba ⟨_,rfl,_,rfl,two,fun t ht=>⟨_,by rw[ae (aj hl4 ht)];exact hl4,?_,?_⟩⟩
     ·rw[D6,lq,El,D6]
      exact aS (by omega)
     ·have tl:t≠l:=Eo (aj hl4 ht)
      refine⟨_,rfl,fun x o e n=>by rw[ae n,ae (aj (s4 x o e n) ht)];exact s4 x o e n,as++[t],by rw[ac,Es];rfl,?_⟩;rw[et,List.filter_append,Es,<-List.append_assoc];refine a7 (Paired.mapP hp4 fun x q e=>?_) ?_
      ·rw[ae (b5 e hl4 (by intro z;cases z)),ae (aj e ht)];exact e
      ·rw[List.filter_cons_of_pos (by simpa using hab)]
       exact .cons (by rw[ae tl,ac]) .nil
    ·rw[Ei hab]
     refine aD ⟨_,rfl,s4,?_⟩;rw[et,List.filter_append,List.filter_cons_of_neg (by simpa using hab)];simpa using row4
   ·rintro σ H4 ⟨v,rfl,s4,row4⟩
    rw[D6,Fc]at row4;refine⟨_,_,rfl,fun x o e=>s4 x o ((s2.trans s3) x o e) (aj e hl),?_⟩;rw[ec,mE];exact row4
  ·rintro σ H2 ⟨u,v,rfl,s2,row⟩
   rw[D6,Fc]at row;refine k l H2 (s1.free hl) (s1.trans s2) ?_;unfold cV;rw[hks];exact row
theorem oQ (F:dB K "story" "Hall.story" fD f fd) : aV P w K mg base cz 1 f fd ["self"] (lV c.C):=by
 refine F.ok oY (fun vs H Q E h=>?_) (fun cdv A outer s H vs Q E hr h=>?_)
 ·obtain⟨p,B,st,rfl,_⟩:=h
  rfl
 ·obtain⟨p,B,st,rfl,S,k⟩:=h
  refine⟨_,ag (aw (iB qc (by rfl) T.list PyProof.Rows.boot_list (ak (bP (pv 0) rfl) aF))),?_⟩;obtain⟨as,hd,hp⟩:=S.d;refine⟨_,rfl,p,c.C,B.dx,_,_,rfl,S.ob,U.cl,U.nD,xB _,B.d,_,rfl,.inl (be.of hd),fun l hl=>?_⟩;exact k l _ hl (ah hl) ⟨as,ac,Paired.mapP hp fun b y e=>(ah hl) _ _ e⟩
theorem nk (F:dB K "moment" "Hall.moment" eG f fd) : aV P w K mg base cz 1 f fd ["self"] (jT c.C):=by
 refine F.ok nX (fun vs H Q E h=>?_) (fun cdv A outer s H vs Q E hr h=>?_)
 ·obtain⟨p,B,st,rfl,_⟩:=h
  rfl
 ·obtain⟨p,B,st,rfl,S,k⟩:=h
  refine⟨_,ag (aw (bg bj (by rfl) T.len E7 (ak (bP (pv 0) rfl) aF))),?_⟩;obtain⟨as,hd,hp⟩:=S.d;refine⟨_,rfl,p,c.C,B.dx,_,_,rfl,S.ob,U.cl,U.nD,xB _,B.d,_,rfl,.inl (be.of hd),?_⟩;rw[D6,Ej hp];exact k
theorem nA (F:dB K "read_number" "read_number" c7 f fd) : aV P w K mg base cz 1 f fd ["word"] zW:=by
 refine F.ok og (fun vs H Q E h=>?_) (fun cdv A outer s H vs Q E hr h=>?_)
 ·obtain⟨z,rfl,_⟩:=h
  rfl
 ·obtain⟨z,rfl,asc,len,k1,k2⟩:=h
  have hu:=c8 hr
  refine⟨_,af (aQ (PW.pt (nK (qP (yd Ae Ae (ai) (bg qb (by rfl) T.len E7 (fT (pv 0))) (su (by rfl) UO.md))) (je (qP (kC (bg (vO rfl) (by rfl) T.all PyProof.Rows.boot_all (fT (lO (so:=am c7) (N:=iX) (N':=["sign"]) (src:=[none]) rfl rfl yW rfl (Bb (pv 0)) (fun cl C s2 H2 ex=>⟨k8 0 (show (["sign"]:List Str).Nodup by decide +kernel),fb,lN wz (pv 0) (su (by rfl) UO.dg) rfl⟩))))))))) (ag (aw (bY))) (az)) (
   af (aQ (PW.pt (gn (ax b9 (aW AQ (pv 0) (ai) (fun _ _=>rfl)) (ao) (aB _)) (dU (ax gL (pv 0) (ao) (aB _))))) (ag (aw (bY))) (az)) (
   ag (aw (iB vP (by rfl) T.int PyProof.Rows.boot_int (fT (pv 0)))))),?_⟩
  have sl:sizeLine=16777216:=EZ
  have zl:z.length<=sizeLine:=by omega
  have hz:z.length=z.cps.toList.length:=by rw[ED];rfl
  have zz:(Str.ofString "0").cps.toList=[48]:=by decide +kernel
  refine⟨_,rfl,z,rfl,zl,_,_,rfl,rfl,_,rfl,?_⟩
  by_cases h1:1<=z.length
  ·rw[Ee (show (1:Int)<=(z.length:Int) by omega)]
   refine ba ⟨_,_,rfl,rfl,_,rfl,?_⟩
   by_cases h2:z.length<=12
   ·rw[Ee (show (z.length:Int)<=12 by omega)]
    refine aD ⟨_,rfl,z,rfl,asc,fun q hq=>?_⟩;refine wQ (f:=jx) hq (by omega) (fun c HK Q' sK kk=>?_) (fun H1 s1 hq1=>?_)
    ·refine⟨_,rfl,_,_,rfl,rfl,?_⟩
     rw[AI];exact kk HK (aE.refl _)
    refine⟨q,_,rfl,be.of hq1,_,rfl,?_⟩
    by_cases h3:∀ c∈z.cps.toList,jx c=true
    ·rw[show (z.cps.toList.map jx).all id=true from EQ.mpr fun b hb=>by obtain⟨c,hc,rfl⟩:=Ez.mp hb;exact h3 c hc]
     obtain⟨c,l,hcl⟩:∃ c l,z.cps.toList=c::l:=by
      cases e:z.cps.toList with
      | nil=>rw[hz,e]at h1;exact absurd h1 (by decide)
      | cons c l=>exact⟨c,l,rfl⟩
     refine aD ⟨_,rfl,z,_,c,rfl,rfl,zl,by rw[hcl];exact bV (j:=0) rfl,rfl,_,rfl,?_⟩;rw[uI,zz]
     show if decide ([c]=[48])=true then _ else _
     have fin:¬ (z.cps.toList.head? = some 48/\z.cps.toList≠[48])->∃ ds,Num z ds:=fun h4=>(iA z).mpr ⟨h1,h2,h3,h4⟩
     by_cases h4:c=48
     ·rw[Ee (by rw[h4])]
      refine ba ⟨_,rfl,rfl,_,rfl,?_⟩;rw[uI,zz]
      by_cases h5:z.cps.toList=[48]
      ·rw[Ee h5]
       obtain⟨ds,N⟩:=fin fun q=>q.2 h5;exact aD ⟨_,rfl,z,ds,rfl,N,k1 ds H1 N s1⟩
      ·rw[Ei h5]
       exact ba (k2 (fun ds N=>((iA z).mp ⟨ds,N⟩).2.2.2 ⟨by rw[hcl,h4];rfl,h5⟩) H1 s1)
     ·rw[Ei (fun q=>h4 (List.cons.inj q).1)]
      obtain⟨ds,N⟩:=fin fun q=>h4 (by have:=q.1;rw[hcl]at this;exact Ef this);exact aD (aD ⟨_,rfl,z,ds,rfl,N,k1 ds H1 N s1⟩)
    ·rw[show (z.cps.toList.map jx).all id=false from Bool.eq_false_iff.mpr fun q=>h3 fun c hc=>EQ.mp q _ (FF hc)]
     exact ba (k2 (fun ds N=>h3 ((iA z).mp ⟨ds,N⟩).2.2.1) H1 s1)
   ·rw[Ei (show ¬ (z.length:Int)<=12 by omega)]
    exact ba (k2 (fun ds N=>h2 ((iA z).mp ⟨ds,N⟩).2.1) H (aE.refl _))
  ·rw[Ei (show ¬ (1:Int)<=(z.length:Int) by omega)]
   exact aD ⟨_,rfl,ba (k2 (fun ds N=>h1 ((iA z).mp ⟨ds,N⟩).1) H (aE.refl _))⟩
theorem uo (F:dB K "do_deed" "do_deed" jg f fd)(cP:aG P w K mg base (iN P w) c.C "come" 2 ["self","guest"] (oo c))(j7:aG P w K mg base (iN P w) c.C "go" 4 ["self","guest"] (zU c))(dI:aG P w K mg base (iN P w) c.C "exchange" 4 ["self","one","other"] (qW c)) : aV P w K mg base (iN P w) 5 f fd ["hall","deed"] (zT c):=by
 refine F.okX uC (fun vs H Q E h=>?_) (fun cdv A outer s H vs Q E hr h=>?_)
 ·obtain⟨p,t,B,st,d,rfl,_⟩:=h
  rfl
 ·obtain⟨p,t,B,st,d,rfl,ht0,S,ft,hg,sm,k⟩:=h
  have ht:H t=some (.tup (bQ d)):=by rw[<-iu];exact ht0
  have T0:bZ K H t (bQ d):=bZ.of ht;refine⟨_,ag (aQ (ax b9 (aW aN (pv 1) (ai) (fun _ _=>rfl)) (ao) (aB _)) (ag (a5 (c9 cP (pv 0) U.cl hr.m e7 (fT (aW aN (pv 1) (ai) (fun _ _=>rfl)))))) (ag (aQ (ax b9 (aW aN (pv 1) (ai) (fun _ _=>rfl)) (ao) (aB _)) (ag (a5 (c9 j7 (pv 0) U.cl hr.m e7 (fT (aW aN (pv 1) (ai) (fun _ _=>rfl)))))) (ag (a5 (c9 dI (pv 0) U.cl hr.m e7 (eR (aW aN (pv 1) (ai) (fun _ _=>rfl)) (aW aN (pv 1) (ai) (fun _ _=>rfl))))))))),?_⟩;have n1:=pz B (m:="come") (by decide +kernel) (by decide +kernel) (by decide +kernel) (by decide +kernel);have n2:=pz B (m:="go") (by decide +kernel) (by decide +kernel) (by decide +kernel) (by decide +kernel);have n3:=pz B (m:="exchange") (by decide +kernel) (by decide +kernel) (by decide +kernel) (by decide +kernel)
  cases d with
  | come g =>
   refine⟨_,rfl,t,_,_,_,rfl,rfl,T0,rfl,rfl,_,rfl,?_⟩;rw[show decide (V.str (bA (.come g))=V.str "come")=true from cc];exact ba ⟨_,rfl,p,B.dx,_,rfl,S.ob,n1,_,rfl,t,_,_,_,rfl,rfl,T0,rfl,p,B,st,g,rfl,S,ft,sm g (by simp[names]),k⟩
  | go g =>
   refine⟨_,rfl,t,_,_,_,rfl,rfl,T0,rfl,rfl,_,rfl,?_⟩;rw[show decide (V.str (bA (.go g))=V.str "come")=false from gc];refine aD ⟨_,rfl,t,_,_,_,rfl,rfl,T0,rfl,rfl,_,rfl,?_⟩;rw[show decide (V.str (bA (.go g))=V.str "go")=true from gg];exact ba ⟨_,rfl,p,B.dx,_,rfl,S.ob,n2,_,rfl,t,_,_,_,rfl,rfl,T0,rfl,p,B,st,g,rfl,S,ft,sm g (by simp[names]),(fun m hm=>⟨hg.sm g m hm,fun e=>by rw[e]at hm;rw[(hg.wh g g).mp hm];rfl⟩),k⟩
  | exch a b =>
   refine⟨_,rfl,t,_,_,_,rfl,rfl,T0,rfl,rfl,_,rfl,?_⟩;rw[show decide (V.str (bA (.exch a b))=V.str "come")=false from ec];refine aD ⟨_,rfl,t,_,_,_,rfl,rfl,T0,rfl,rfl,_,rfl,?_⟩;rw[show decide (V.str (bA (.exch a b))=V.str "go")=false from eg];exact aD ⟨_,rfl,p,B.dx,_,rfl,S.ob,n3,_,rfl,t,_,_,_,rfl,rfl,T0,rfl,_,rfl,t,_,_,_,rfl,rfl,T0,rfl,p,B,st,a,b,rfl,S,ft,sm a (by simp[names]),sm b (by simp[names]),k⟩
theorem qK (F:dB K "read_line" "read_line" dX f fd)(Cread_number:aA P w K mg base "read_number" 1 ["word"] zW) : aV P w K mg base cz 2 f fd ["line"] zV:=by
 refine F.ok gr (fun vs H Q E h=>?_) (fun cdv A outer s H vs Q E hr h=>?_)
 ·obtain⟨z,w0,ws,rfl,_⟩:=h
  rfl
 ·obtain⟨z,w0,ws,rfl,asc,len,hw,k1,k2⟩:=h
  have hu:=c8 hr
  refine⟨_,af (bp 1 gr.nd (sw (pv 0) (ao))) (
   af (lQ (ix:=2) (so:=am dX) (N:=k6) (N':=["word"]) (src:=[none]) rfl rfl yW rfl (du (bW dv (pv 1) (cu (ai)) cX)) (fun cl C s2 H2 ex=>⟨k8 0 (show (["word"]:List Str).Nodup by decide +kernel),fb,bo Cread_number hr.m rfl (fT (pv 0))⟩) gr.nd rfl rfl) (
   af (aQ (ax wy (bY) (pv 2) rfl) (ag (aw (bY))) (az)) (
   ag (aw (av zF (aP (fT (aW iy (pv 1) (ai) (fun _ _=>rfl)))) (iB oA (by rfl) T.tuple PyProof.Rows.boot_tuple (fT (pv 2)))))))),?_⟩
  have sl:sizeLine=16777216:=EZ
  have sp:(Str.ofString " ")=⟨#[32]⟩:=by decide +kernel
  obtain⟨wl,wok⟩:=w5 (c:=32) (by decide) asc;rw[hw]at wl wok;have wl:ws.length+1<=z.length+1:=wl;refine⟨_,rfl,rfl,z,_,rfl,rfl,by rw[sp];rfl,by omega,fun lw hlw=>?_⟩;rw[show (Txt.split z (Str.ofString " "))=w0::ws by rw[sp];exact hw];have s1:=ah (o:=.lst ((w0::ws).map V.str)) hlw;have h1:upd H lw (.lst ((w0::ws).map V.str)) lw=some (.lst ((w0::ws).map V.str)):=ac;generalize upd H lw (.lst ((w0::ws).map V.str))=H1 at s1 h1 ⊢;refine⟨_,rfl,_,rfl,fz ⟨lw,_,rfl,be.of h1,fun l3 hl3=>?_⟩⟩;rw[BS,show ((w0::ws).map V.str).drop 1=ws.map V.str from rfl];have s2:=ah (o:=.lst (ws.map V.str)) hl3;have h3:upd H1 l3 (.lst (ws.map V.str)) l3=some (.lst (ws.map V.str)):=ac;have h2:=s2 _ _ h1;have s02:=s1.trans s2;generalize upd H1 l3 (.lst (ws.map V.str))=H2 at s2 h3 h2 s02 ⊢;refine⟨l3,rfl,⟨_,be.of h3⟩,fun ln hln=>?_⟩;refine wk (K:=K) V.str (rs:=ws) (f:=numW) hln h3 (by omega) (fun r HK Q' hr0 sK kk=>?_) (fun H3 s3 h4=>?_)
  ·obtain⟨ra,rl⟩:=wok r (Eb _ hr0)
   refine⟨_,rfl,r,rfl,ra,by omega,fun ds H' N s'=>?_,fun n H' s'=>?_⟩
   ·have:=kk H' s'
    rw[ng N]at this;exact this
   ·have:=kk H' s'
    rw[r6 n]at this;exact this
  have s03:=s02.trans s3;have h2:=s3 _ _ h2
  have fl:(ws.map numW).all iW=true:=EQ.mpr fun v hv=>by
   obtain⟨w,_,rfl⟩:=Ez.mp hv;exact jb (kq w)
  refine⟨_,rfl,ln,_,rfl,.inl (be.of h4),rfl,fl,_,rfl,?_⟩
  have ein:B2 V.non (ws.map numW)=true↔∃ w∈ws,∀ ds,¬ Num w ds:=by
   unfold B2;rw[List.any_eq_true];constructor
   ·rintro⟨v,hv,e⟩
    obtain⟨w,hw0,rfl⟩:=Ez.mp hv;have e:=(qh (kq w) rfl).mp e;refine⟨w,hw0,fun ds N=>?_⟩;rw[ng N]at e;cases e
   ·rintro⟨w,hw0,n⟩
    refine⟨_,FF hw0,(qh (kq w) rfl).mpr (r6 n)⟩
  cases hb:B2 V.non (ws.map numW) with
  | true =>
   rw[show (if false=true then !true else true)=true from rfl];exact ba (k2 (ein.mp hb) H3 s03)
  | false =>
   have al:∀ w∈ws,∃ ds,Num w ds:=fun w hw0=>Classical.byContradiction fun n=>by
    rw[ein.mpr ⟨w,hw0,fun ds N=>n ⟨ds,N⟩⟩]at hb;cases hb
   rw[show (if false=true then !false else false)=false from rfl];refine aD ⟨_,rfl,lw,_,_,_,rfl,rfl,be.of h2,bV (j:=0) rfl,(show 1<=sizeLine by decide),fun t1 ht1=>?_⟩;have s4:=ah (o:=.tup [V.str w0]) ht1;have h5:upd H3 t1 (.tup [V.str w0]) t1=some (.tup [V.str w0]):=ac;have h6:=s4 _ _ h4;have s04:=s03.trans s4;have ht0:=s03.free ht1;generalize upd H3 t1 (.tup [V.str w0])=H4 at s4 h5 h6 s04 ⊢;refine⟨_,rfl,ln,_,rfl,.inl ⟨be.of h6,fun t2 ht2=>?_⟩⟩;have s5:=ah (o:=.tup (ws.map numW)) ht2;have h7:upd H4 t2 (.tup (ws.map numW)) t2=some (.tup (ws.map numW)):=ac;have h8:=s5 _ _ h5;have s05:=s04.trans s5;generalize upd H4 t2 (.tup (ws.map numW))=H5 at s5 h7 h8 s05 ⊢;refine⟨t1,t2,_,_,rfl,rfl,bZ.of h8,bZ.of h7,by simp,by rw[D6];show 1+ws.length<=_;omega,fun e=>?_,fun _ t3 ht3=>?_⟩
   ·refine k1 al t1 H5 ht0 s05 ?_
    rw[e];exact h8
   ·exact k1 al t3 _ (s05.free ht3) (s05.trans (ah ht3)) ac
theorem wx (F:dB K "opened" "opened" kJ f fd)(MH:CS P w K mg base c)(Cread_line:aA P w K mg base "read_line" 2 ["line"] zV)(Cdo_deed:f8 P w K mg base "do_deed" 5 ["hall","deed"] (zT c))(NT:l9 P w K mg base cq ck) : aV P w K mg base (iN P w) 8 f fd ["text"] (jU c cq):=by
 refine F.okX d6 (fun vs H Q E h=>?_) (fun cdv A outer s H vs Q E hr h=>?_)
 ·obtain⟨qs,tl,z,L,rfl,_⟩:=h
  rfl
 ·obtain⟨qs,tl,z,L,rfl,tx,ql,hL,k1,k2⟩:=h
  have hu:=c8 hr
  refine⟨_,af (bp 1 d6.nd (Cg MH U hr.m rfl)) (
   af (bp 2 d6.nd (sw (pv 0) (ao))) (
   af (fB PassesOwn.leaving rfl (x8 (by rfl) T.enumerate (fT (bW dv (pv 2) cX (cu (x6 uN (ai)))))) (kA rfl (bx (k8 3 d6.nd) (bx (k8 4 d6.nd) gl))) (af (bp 5 d6.nd (bo Cread_line hr.m rfl (fT (pv 4)))) (
   af (aQ (PW.pt (nK (eB (uu (pv 5))) (je (ax gL (zH UO.gd (by rfl) UO.ms (aW aN (pv 5) (ai) (fun _ _=>rfl)) ⟨rfl,rfl,rfl,rfl⟩) (bg bj (by rfl) T.len E7 (fT (pv 5))) (aB _))))) (ag (vi NT UO (hr.mono (by decide)) dE rfl hr.hd rfl (pv 3))) (az)) (
   ag (a5 (Bd Cdo_deed hr.m rfl e7 (eR (pv 1) (pv 5)))))))) (
   af (aQ (ax gL (aW iy (pv 2) (x6 uN (ai)) (fun _ _=>rfl)) (ao) (aB _)) (ag (vi NT UO (hr.mono (by decide)) dE rfl hr.hd rfl (bg bj (by rfl) T.len E7 (fT (pv 2))))) (az)) (
   ag (aw (pv 1)))))),?_⟩
  intro x dx nx ndx nex;refine⟨x,dx,rfl,ac,fun B H1 S1 kp fr=>⟨rfl,?_⟩⟩
  have s0:aE H (upd (upd H dx (.own x)) x (.ins c.C dx [])):=fun b o e=>by rw[ae (aj e nx),ae (aj e ndx)];exact e
  have E1:Ev c H H1 x B ⟨[],[],[],[]⟩:=⟨fun b o e=>kp b o (s0 b o e) (aj e nx),S1,mI,fun b hb=>s0.free (fr b hb)⟩;have tlen:=yz tx;have sl:sizeLine=16777216:=EZ
  have nl:(Str.ofString "\n")=⟨#[10]⟩:=by decide +kernel
  have tw:Txt.split z (Str.ofString "\n")=qs.map (·.1)++[tl]:=by rw[nl];exact yA tx
  refine⟨_,rfl,rfl,_,_,rfl,rfl,by rw[nl];rfl,by omega,fun ll hll=>?_⟩;rw[tw,Es];have sA:=ah (o:=.lst ((qs.map (·.1)).map V.str++[tl].map V.str)) hll;have E2:=E1.on sA;have hl2:upd H1 ll (.lst ((qs.map (·.1)).map V.str++[tl].map V.str)) ll=some (.lst ((qs.map (·.1)).map V.str++[V.str tl])):=ac;have llB:=E1.track hll;generalize upd H1 ll (.lst ((qs.map (·.1)).map V.str++[tl].map V.str))=H2 at E2 hl2;clear sA;refine⟨_,rfl,fz ⟨_,rfl,_,rfl,ll,_,rfl,be.of hl2,fun lp hlp=>?_⟩⟩;rw[yX,List.dropLast_concat];have sB:=ah (o:=.lst ((qs.map (·.1)).map V.str)) hlp;have E3:=E2.on sB;have hl3:=sB _ _ hl2;have hp3:upd H2 lp (.lst ((qs.map (·.1)).map V.str)) lp=some (.lst ((qs.map (·.1)).map V.str)):=ac;have lpB:=E2.track hlp;generalize upd H2 lp (.lst ((qs.map (·.1)).map V.str))=H3 at E3 hl3 hp3;clear sB
  have dne:∀ {a b:RO×bI},a=b->b.1≠.done->a.1≠.done:=fun e n=>by rw[e];exact n
  refine⟨lp,rfl,⟨_,be.of hp3⟩,?_⟩
  refine vW (K:=K) (a:=lp) (xs:=(qs.map (·.1)).map V.str) (fun i σ HH=>∃ (B:HA)(st:bI)(v3 v4 v5:Option V),σ=[some (.str z),some (.ref x),some (.ref ll),v3,v4,v5]/\Ev c H HH x B st/\Of L st/\Sz i st/\b6 ⟨[],[],[],[]⟩ 0 (qs.map (·.2)) (cF tl)=b6 st i ((qs.map (·.2)).drop i) (cF tl)/\HH ll=some (.lst ((qs.map (·.1)).map V.str++[V.str tl]))/\ll∉B.fp/\HH lp=some (.lst ((qs.map (·.1)).map V.str))/\lp∉B.fp)
   ⟨B,_,none,none,none,rfl,E3,of_empty,DI,rfl,hl3,llB,hp3,lpB⟩ (fun i σ HH _ ⟨_,_,_,_,_,_,_,_,_,_,_,_,h,_⟩=>be.of h) ?_ ?_
  ·rintro i y σ HH T hi ⟨B,st,v3,v4,v5,rfl,EV,o,z0,er,hll,llB,hlp,lpB⟩ hTn
   obtain⟨q,hq,rfl⟩:=bL hi;obtain⟨p,hp,rfl⟩:=bL hq;have hil:=(List.getElem?_eq_some_iff.mp hp).1;have sT:=ah (o:=.tup [.int ((i:Int)+1),.str p.1]) hTn;have hTT:upd HH T (.tup [.int ((i:Int)+1),.str p.1]) T=some (.tup [.int ((i:Int)+1),.str p.1]):=ac;have EV:=EV.on sT;have hll:=sT _ _ hll;have hlp:=sT _ _ hlp;generalize upd HH T (.tup [.int ((i:Int)+1),.str p.1])=HH at hTT EV hll hlp ⊢;clear sT hTn;refine⟨T,_,rfl,bZ.of hTT,rfl,_,_,rfl,_,_,rfl,rfl,?_⟩;have ok:=tx.ok p (EB hp);have ls:=jB ok
   have edr:(qs.map (·.2)).drop i=p.2::(qs.map (·.2)).drop (i+1):=by rw[List.drop_eq_getElem_cons (by rw[D6];exact hil),List.getElem_map,(List.getElem?_eq_some_iff.mp hp).2]
   rw[edr]at er
   have i100:((i:Int)+1).natAbs<10 ^ 100:=by omega
   have at0:∀ {u:V}{us:List V},yL (u::us) 0=some u:=bV (j:=0) rfl
   have plen:p.1.length<=900:=by rw[gi];omega
   have pasc:yQ p.1:=AF fun c hc=>(ls.1 c hc).2;obtain⟨z1,od⟩:=p
   cases od with
   | none =>
    have bad:∀ HX:Hp,aE H HX->∀ dx,HX dx=none->E (.ref cq) (some dx) (upd HX dx (.xd [("place",.int ((i:Int)+1))])):=fun HX sX dx hdx=>by
     have:=k2 (dne er (by intro q;cases q));rw[er]at this;exact this dx _ (sX.trans (ah hdx)) ac
    have ok:lW z1:=ok;obtain⟨w0,ws,hws,hb⟩:=ok.bad;refine⟨_,rfl,z1,w0,ws,rfl,pasc,plen,hws,fun al t HX ht sX hX=>?_,fun _ HX sX=>?_⟩
    ·have hg:hJ sizesD w0≠.int ((ws.length+1:Nat):Int):=by
      rcases hb with ⟨u,hu,n⟩ | hb
      ·obtain⟨ds,N⟩:=al u hu
       exact absurd N (n ds)
      ·exact hb
     refine⟨_,rfl,_,rfl,aD ⟨_,rfl,t,_,_,_,rfl,rfl,bZ.of hX,at0,_,rfl,_,rfl,t,_,rfl,.inr (bZ.of hX),?_⟩⟩
     have sc:Bi (hJ sizesD w0) (.int (((V.str w0::ws.map numW).length:Nat):Int))=true:=by unfold hJ;split<;>rfl
     refine⟨sc,_,rfl,?_⟩;rw[Ei (show ¬ hJ sizesD w0=.int (((V.str w0::ws.map numW).length:Nat):Int) by rw[Eu,D6];exact hg)];exact ba ⟨_,rfl,_,rfl,i100,bad HX (EV.same.trans sX)⟩
    ·exact⟨_,rfl,_,rfl,ba (ba ⟨_,rfl,_,rfl,i100,bad HX (EV.same.trans sX)⟩)⟩
   | some d =>
    have ok:z1=bf d/\∀ g∈names d,g∈L/\bF g/\tj g:=ok;obtain⟨e1,nm⟩:=ok;have gs:∀ g∈names d,tj g:=fun g hg=>(nm g hg).2.2;have smD:∀ g∈names d,bF g:=fun g hg=>(nm g hg).2.1;have lw:=mO gs;rw[<-e1]at lw;refine⟨_,rfl,z1,bA d,_,rfl,pasc,plen,lw,fun _ t HX ht sX hX=>?_,fun bd=>?_⟩
    ·have e1:((names d).map dF).map numW=(names d).map V.int:=by
      rw[EH];exact ET fun g hg=>A2 (gs g hg)
     rw[e1]at hX
     have hD:HX t=some (bv d):=by rw[iu];exact hX
     have EV:=EV.on sX;have hll:=sX _ _ hll;have hlp:=sX _ _ hlp;refine⟨_,rfl,_,rfl,aD ⟨_,rfl,t,_,_,_,rfl,rfl,bZ.of hX,at0,_,rfl,_,rfl,t,_,rfl,.inr (bZ.of hX),?_⟩⟩
     have gv:hJ sizesD (bA d)=.int ((V.str (bA d)::(names d).map V.int).length:Nat):=by
      cases d with
      | come g=>show hJ sizesD (Str.ofString "come")=V.int 2;decide +kernel
      | go g=>show hJ sizesD (Str.ofString "go")=V.int 2;decide +kernel
      | exch a b=>show hJ sizesD (Str.ofString "exchange")=V.int 3;decide +kernel
     rw[gv];refine⟨rfl,_,rfl,?_⟩;rw[Ee rfl];have ft:=u0 EV.good o hL z0 (by omega);refine aD ⟨_,rfl,_,rfl,x,t,B,_,d,rfl,hD,EV.hall,ft,EV.good,smD,?_⟩;unfold oy
     by_cases hj:aK st d=.done
     ·rw[D8 hj]
      intro H4 mv;have g2:=ka EV.good (d:=d) smD;have o2:=vh EV.good o (fun g hg=>(nm g hg).1);have z2:=vD z0 d
      have en:bt st d=after st d:=by unfold bt;rw[D8 hj]
      have mv2:pb c.C HX x B (bt st d) H4:=by rw[en];exact mv
      obtain⟨B',V2,keep,_⟩:=EV.moved mv2 g2;have er2:=er.trans (gq hj);rw[<-en]at er2;exact⟨B',_,_,_,_,rfl,V2,o2,z2,er2,(keep _ _ hll llB).1,(keep _ _ hll llB).2,(keep _ _ hlp lpB).1,(keep _ _ hlp lpB).2⟩
     ·rw[D7 hj]
      have er2:=er.trans (iE hj);have:=k2 (dne er2 (by intro q;cases q));rw[er2]at this;have this:f7 c E H (aK st d):=this;exact this.mono EV.same
    ·obtain⟨w0,hw0,n0⟩:=bd
     obtain⟨g,hg,rfl⟩:=Ez.mp hw0;obtain⟨e,N,_⟩:=nc (gs g hg);exact absurd N (n0 e)
  ·rintro σ HH ⟨B,st,v3,v4,v5,rfl,EV,o,z0,er,hll,llB,hlp,lpB⟩
   rw[D6,D6,List.drop_of_length_le (by rw[D6];exact D9 _)]at er;refine⟨_,rfl,_,rfl,ll,_,_,_,rfl,rfl,be.of hll,xb _ _,rfl,_,rfl,?_⟩
   have z0:(Str.ofString "").cps.toList=[]:=by decide +kernel
   rw[uI,z0]
   by_cases ht:aZ tl=[]
   ·have tb:cF tl=false:=by unfold cF;rw[Ee ht];rfl
    rw[Ee (show tl.cps.toList=[] from ht)];rw[tb]at er k1;have er:_=(RO.done,st):=er;refine aD ⟨_,rfl,k1 (by rw[er]) x B HH nx ?_⟩;rw[er];exact EV
   ·have tb:cF tl=true:=by unfold cF;rw[Ei ht];rfl
    rw[Ei (show ¬ tl.cps.toList=[] from ht)];rw[tb]at er k2;have er:_=(RO.notext ((qs.length:Int)+1),st):=er;have k3:=k2 (dne er (by intro q;cases q));rw[er]at k3;refine ba ⟨_,rfl,ll,_,rfl,.inl (be.of hll),_,rfl,?_,fun dx hdx=>?_⟩
    ·rw[El,D6,D6,EG];omega
    ·have el:((((qs.map (·.1)).map V.str++[V.str tl]).length:Nat):Int)=(qs.length:Int)+1:=by rw[El,D6,D6,EG];rfl
     rw[el];exact k3 dx _ (EV.same.trans (ah hdx)) ac
theorem nw (F:dB K "_law_cell_at" "_law_cell_at" eK f fd) : aV P w K mg base cz 1 f fd ["_law_script","_law_k"] (om K):=by
 refine F.ok n8 (fun vs H Q E h=>?_) (fun cdv A outer s H vs Q E hr h=>?_)
 ·obtain⟨a,ns,k,rfl,_⟩:=h
  rfl
 ·obtain⟨a,ns,i,rfl,hS,hi,k⟩:=h
  refine⟨_,af (aQ (ax pI (pv 1) (bg bj (by rfl) T.len E7 (ak (pv 0) aF)) (aB _)) (ag (aw (aW iy (pv 0) (pv 1) (fun _ _=>rfl)))) az) (ag (aw ai)),?_⟩;refine⟨_,rfl,_,rfl,a,_,rfl,.inl hS,_,_,rfl,rfl,_,rfl,?_⟩;unfold bC at k;rw[D6]
  by_cases hc:i<(ns.length:Int)
  ·rw[D8 hc]at k
   rw[Ee hc];refine ba ⟨_,rfl,_,rfl,a,_,_,_,rfl,rfl,hS,?_,k⟩;have e:i=((i.toNat:Nat):Int):=(Int.toNat_of_nonneg hi).symm
   have hl:i.toNat<ns.length:=by omega
   rw[e];refine bV ?_;rw[List.getElem?_map,List.getD_eq_getElem?_getD,FN,List.getElem?_eq_getElem hl];rfl
  ·rw[D7 hc]at k
   rw[Ei hc];exact aD k
theorem sf (F:dB K "_law_size" "_law_size" il f fd) : aV P w K mg base cz 1 f fd ["_law_cell"] kH:=by
 refine F.ok sJ (fun vs H Q E h=>?_) (fun cdv A outer s H vs Q E hr h=>?_)
 ·obtain⟨c,rfl,_⟩:=h
  rfl
 ·obtain⟨c,rfl,k⟩:=h
  refine⟨_,af (aQ (ax pI (pv 0) ai (aB _)) (ag (aw (x6 uN (pv 0)))) az) (ag (aw (pv 0))),?_⟩;refine⟨_,rfl,_,_,rfl,rfl,_,rfl,?_⟩;unfold cB at k
  by_cases hc:c<0
  ·rw[D8 hc]at k
   rw[Ee hc];exact ba ⟨_,rfl,_,rfl,k⟩
  ·rw[D7 hc]at k
   rw[Ei hc];exact aD ⟨_,rfl,k⟩
theorem qI (F:dB K "_law_draws" "_law_draws" gC f fd)(bS:aA P w K mg base "_law_size" 1 ["_law_cell"] kH) : aV P w K mg base cz 2 f fd ["_law_cell","_law_many","_law_base"] lU:=by
 refine F.ok bc (fun vs H Q E h=>?_) (fun cdv A outer s H vs Q E hr h=>?_)
 ·obtain⟨c,m,b,rfl,_⟩:=h
  rfl
 ·obtain⟨c,m,b,rfl,⟨m0,m1⟩,⟨b0,b1⟩,k⟩:=h
  refine⟨_,af (cx (i:=3) bc.nd rfl (Or.inl rfl) (bo bS hr rfl (ak (pv 0) aF)))
   (af (cx (i:=4) bc.nd rfl (Or.inl rfl) (fA aF))
   (af (aQ (ax Cc (pv 3) (av xW ai ai) (aB _))
    (af (cx (i:=3) bc.nd rfl (Or.inl rfl) (av A4 (pv 3) (av xW ai ai)))
    (af (cx (i:=5) bc.nd rfl (Or.inl rfl) (av a6 (pv 3) (av de (pv 1) ai)))
    (af (cx (i:=3) bc.nd rfl (Or.inl rfl) (av cr (pv 3) (av de (pv 1) ai)))
    (af (fB Fg rfl (iD rfl T.range (ak (pv 5) aF)) (jG (i:=6) bc.nd rfl (Or.inl rfl))
     (af (a5 (jF E5 EX EY db (pv 4) (ak (av a6 (pv 3) (pv 2)) aF)))
     (ag (cx (i:=3) bc.nd rfl (Or.inl rfl) (av cr (pv 3) (pv 2))))))
    (ag (aw (pv 4)))))))
    az)
   (af (cx (i:=7) bc.nd rfl (Or.inl rfl) (av de (av a6 (pv 3) ai) ai))
   (af (fB Fg rfl (iD rfl T.range (ak (av a6 (pv 3) (av de (pv 1) ai)) aF)) (jG (i:=6) bc.nd rfl (Or.inl rfl))
     (af (cx (i:=7) bc.nd rfl (Or.inl rfl) (av a6 (av nB (pv 7) ai) ai))
     (ag (a5 (jF E5 EX EY db (pv 4) (ak (av a6 (av cr (av a6 (av nB (pv 7) ai) ai) ai) (pv 2)) aF))))))
   (ag (aw (pv 4))))))),?_⟩
  refine⟨_,rfl,_,rfl,by show 0<=sizeLine;exact Ey _,fun l hl=>?_⟩
  have big:(10:Int) ^ (18:Int).toNat=1000000000000000000:=by decide
  have room:∀ ds:List Int,(ds.length:Int)<=1000->(ds.map V.int).length<sizeLine:=fun ds h=>by rw[D6];exact aS (by omega)
  have app:∀ (ds:List Int)(z:Int),upd (upd H l (.lst (ds.map V.int))) l (.lst (ds.map V.int++[V.int z]))=upd H l (.lst ((ds++[z]).map V.int)):=fun ds z=>by rw[vH,Es];rfl
  have inb:∀ (ds:List Int)(z:Int),(∀ d∈ds,0<=d/\d<b)->∀ d∈ds++[z%b],0<=d/\d<b:=fun ds z h d hd=>by
   rcases EA.mp hd with hd | hd
   ·exact h d hd
   ·rw[Et.mp hd];exact⟨EJ _ (by omega),EF _ b0⟩
  refine⟨_,rfl,_,_,rfl,rfl,⟨by decide,by decide,by decide⟩,_,_,rfl,rfl,_,rfl,?_⟩;refine tW (fun _=>?_) (fun _=>?_)
  ·refine⟨_,rfl,_,_,rfl,rfl,⟨by decide,by decide,by decide⟩,_,_,rfl,rfl,?_⟩
   refine⟨_,rfl,_,rfl,_,_,rfl,rfl,_,_,rfl,rfl,by show (0:Int)<m+1;omega,?_⟩;refine⟨_,rfl,_,rfl,_,_,rfl,rfl,_,_,rfl,rfl,⟨by show (0:Int)<m+1;omega,by show m+1<1073741824;omega⟩,?_⟩;have cb:=EF (cB c-(10:Int) ^ (18:Int).toNat) (show 0<m+1 by omega);have cn:=EJ (cB c-(10:Int) ^ (18:Int).toNat) (show m+1≠0 by omega)
   refine⟨_,rfl,_,rfl,by omega,by omega,iw (n:=((cB c-(10:Int) ^ (18:Int).toNat)%(m+1)).toNat) (fun i σ H2=>∃ (z:Int)(v:Option V)(ds:List Int),σ=[some (.int c),some (.int m),some (.int b),some (.int z),some (.ref l),some (.int ((cB c-(10:Int) ^ (18:Int).toNat)%(m+1))),v,none]/\H2=upd H l (.lst (ds.map V.int))/\ds.length=i/\∀ d∈ds,0<=d/\d<b)
    ⟨_,none,[],rfl,rfl,rfl,fun _ z=>nomatch z⟩ ?_ ?_⟩
   ·rintro i σ H2 hi ⟨z,v,ds,rfl,rfl,hlen,hds⟩
    refine⟨_,rfl,.inl ⟨rfl,_,be.of ac⟩,_,rfl,_,rfl,_,_,rfl,rfl,b0,l,_,_,rfl,rfl,ac,room ds (by omega),?_⟩;refine⟨_,rfl,_,rfl,_,_,rfl,rfl,⟨b0,b1⟩,?_⟩;exact⟨_,_,ds++[z%b],rfl,app ds _,by rw[El,hlen];rfl,inb ds z hds⟩
   ·rintro σ H2 ⟨z,v,ds,rfl,rfl,hlen,hds⟩
    exact⟨_,rfl,k l ds hl hds (by omega)⟩
  ·refine⟨_,rfl,_,_,rfl,rfl,by show (0:Int)<2147483629;decide,_,_,rfl,rfl,?_⟩
   have cb:=EF (cB c) (show 0<m+1 by omega);have cn:=EJ (cB c) (show m+1≠0 by omega);refine⟨_,rfl,_,rfl,_,_,rfl,rfl,_,_,rfl,rfl,by show (0:Int)<m+1;omega,?_⟩
   refine⟨_,rfl,by omega,by omega,iw (n:=(cB c%(m+1)).toNat) (fun i σ H2=>∃ (z:Int)(v:Option V)(ds:List Int),σ=[some (.int c),some (.int m),some (.int b),some (.int (cB c)),some (.ref l),none,v,some (.int z)]/\H2=upd H l (.lst (ds.map V.int))/\ds.length=i/\∀ d∈ds,0<=d/\d<b)
    ⟨_,none,[],rfl,rfl,rfl,fun _ z=>nomatch z⟩ ?_ ?_⟩
   ·rintro i σ H2 hi ⟨z,v,ds,rfl,rfl,hlen,hds⟩
    refine⟨_,rfl,_,_,rfl,rfl,.inr ⟨by decide,by decide⟩,_,_,rfl,rfl,by show (0:Int)<2147483647;decide,?_⟩;refine⟨_,rfl,.inl ⟨rfl,_,be.of ac⟩,_,rfl,_,_,rfl,rfl,.inr ⟨by decide,by decide⟩,_,_,rfl,rfl,by show (0:Int)<998244353;decide,_,_,rfl,rfl,⟨by decide,by decide⟩,_,rfl,_,_,rfl,rfl,b0,l,_,_,rfl,rfl,ac,room ds (by omega),?_⟩;exact⟨_,_,ds++[_],rfl,app ds _,by rw[El,hlen];rfl,inb ds _ hds⟩
   ·rintro σ H2 ⟨z,v,ds,rfl,rfl,hlen,hds⟩
    exact⟨_,rfl,k l ds hl hds (by omega)⟩
theorem jD (F:dB K "_law_draws_from" "_law_draws_from" c6 f fd)(gS:aA P w K mg base "_law_draws" 2 ["_law_cell","_law_many","_law_base"] lU) : aV P w K mg base cz 3 f fd ["_law_script","_law_start","_law_most","_law_base"] (qX K):=by
 refine F.ok b7 (fun vs H Q E h=>?_) (fun cdv A outer s H vs Q E hr h=>?_)
 ·obtain⟨a,ns,st,m,b,rfl,_⟩:=h
  rfl
 ·obtain⟨a,ns,st,m,b,rfl,hS,⟨s0,s1⟩,⟨m0,m1⟩,⟨b0,b1⟩,k⟩:=h
  refine⟨_,af (cx (i:=4) b7.nd rfl (Or.inl rfl) (fA aF))
   (af (fB Fg rfl (du (bW dv (pv 0) (cu (pv 1)) (cu ai))) (jG (i:=5) b7.nd rfl (Or.inl rfl))
    (ag (fB Fg rfl (du (bo gS hr rfl (ak (pv 5) (ak ai (ak (pv 3) aF))))) (jG (i:=6) b7.nd rfl (Or.inl rfl))
     (ag (aQ (ax pI (bg bj (by rfl) T.len E7 (ak (pv 4) aF)) (pv 2) (aB _))
      (ag (a5 (jF E5 EX EY db (pv 4) (ak (pv 6) aF)))) az)))))
   (ag (aw (pv 4)))),?_⟩
  refine⟨by show 0<=sizeLine;exact Ey _,fun l hl=>?_⟩;have hS':be K (upd H l (.lst [])) a (ns.map V.int):=(ah hl).seq hS;refine⟨_,rfl,_,rfl,_,rfl,_,rfl,a,_,rfl,hS',fun q hq=>?_⟩
  have hlq:l≠q:=fun e=>by rw[<-e,ac]at hq;cases hq
  have hHq:H q=none:=by rw[ae (Eo hlq)]at hq;exact hq
  obtain⟨zs,hzs⟩:∃ zs:List Int,dM (ns.map V.int) (some st) (some 63)=zs.map V.int:=⟨(ns.drop (HT.sIx ns.length 0 (some st))).take (HT.sIx ns.length ns.length (some 63)-HT.sIx ns.length 0 (some st)),by unfold dM;rw[D6,List.map_take,List.map_drop]⟩;rw[hzs]
  refine⟨q,rfl,⟨_,be.of ac⟩,cD (K:=K) (a:=q) (xs:=zs.map V.int) (fun i σ H2=>∃ (v u:Option V)(ds:List Int),σ=[some (.ref a),some (.int st),some (.int m),some (.int b),some (.ref l),v,u]/\aE H H2/\H2 q=some (.lst (zs.map V.int))/\H2 l=some (.lst (ds.map V.int))/\(∀ d∈ds,0<=d/\d<b)/\(ds.length:Int)<=m)
   ⟨none,none,[],rfl,bX (ah hl) hHq,ac,by rw[ae hlq,ac];rfl,(fun _ z=>nomatch z),by simpa using m0⟩ (fun i σ H2 _ ⟨_,_,_,_,_,h,_⟩=>be.of h) ?_ ?_⟩
  ·rintro i y σ H2 hi ⟨v,u,ds,rfl,s2,hq2,hl2,hds,hlen⟩
   obtain⟨z,_,rfl⟩:=bL hi;refine⟨_,rfl,_,rfl,z,24,b,rfl,⟨by decide,by decide⟩,⟨b0,b1⟩,fun r es hr2 hes hel=>?_⟩;have hrq:q≠r:=aj hq2 hr2;have hrl:l≠r:=aj hl2 hr2
   refine⟨r,rfl,⟨_,be.of ac⟩,cD (K:=K) (a:=r) (xs:=es.map V.int) (fun i σ H3=>∃ (u:Option V)(ds:List Int),σ=[some (.ref a),some (.int st),some (.int m),some (.int b),some (.ref l),some (.int z),u]/\aE H H3/\H3 q=some (.lst (zs.map V.int))/\H3 r=some (.lst (es.map V.int))/\H3 l=some (.lst (ds.map V.int))/\(∀ d∈ds,0<=d/\d<b)/\(ds.length:Int)<=m)
    ⟨u,ds,rfl,bX s2 (s2.free hr2),by rw[ae hrq];exact hq2,ac,by rw[ae hrl];exact hl2,hds,hlen⟩ (fun i σ H2 _ ⟨_,_,_,_,_,h,_⟩=>be.of h) ?_ ?_⟩
   ·rintro i y σ H3 hi ⟨u,ds,rfl,s3,hq3,hr3,hl3,hds,hlen⟩
    obtain⟨d,hd,rfl⟩:=bL hi;refine⟨_,rfl,l,_,rfl,.inl (be.of hl3),_,rfl,_,_,rfl,rfl,_,rfl,?_⟩;rw[D6];refine tW (fun hc=>?_) (fun _=>?_)
    ·have hc:=ER hc
     refine⟨_,rfl,.inl ⟨rfl,_,be.of hl3⟩,_,rfl,l,_,_,rfl,rfl,hl3,by rw[D6];exact aS (by omega),?_⟩;refine⟨_,ds++[d],rfl,bX s3 hl,by rw[ae (Eo hlq)];exact hq3,by rw[ae (Eo hrl)];exact hr3,by rw[ac,Es];rfl,fun x hx=>?_,by rw[El];show ((ds.length+1:Nat):Int)<=m;omega⟩;rcases EA.mp hx with hx | hx
     ·exact hds x hx
     ·rw[Et.mp hx];exact hes d (EB hd)
    ·exact⟨_,ds,rfl,s3,hq3,hr3,hl3,hds,hlen⟩
   ·rintro σ H3 ⟨u,ds,rfl,s3,hq3,hr3,hl3,hds,hlen⟩
    exact⟨_,_,ds,rfl,s3,hq3,hl3,hds,hlen⟩
  ·rintro σ H2 ⟨v,u,ds,rfl,s2,hq2,hl2,hds,hlen⟩
   exact⟨_,rfl,k l H2 ds hl s2 hl2 hds hlen⟩
theorem qJ (F:dB K "_law_guest" "_law_guest" gD f fd)(bS:aA P w K mg base "_law_size" 1 ["_law_cell"] kH) : aV P w K mg base cz 2 f fd ["_law_k","_law_cell"] iG:=by
 refine F.ok dW (fun vs H Q E h=>?_) (fun cdv A outer s H vs Q E hr h=>?_)
 ·obtain⟨k,c,rfl,_⟩:=h
  rfl
 ·obtain⟨i,c,rfl,⟨i0,i1⟩,k⟩:=h
  refine⟨_,af (cx (i:=2) dW.nd rfl (Or.inl rfl) (bo bS hr rfl (ak (pv 1) aF)))
   (af (cx (i:=3) dW.nd rfl (Or.inl rfl) (av de ai (av a6 (av nB (pv 2) ai) ai)))
   (af (cx (i:=4) dW.nd rfl (Or.inl rfl) (av a6 (av de (av nB (pv 0) (pv 3)) (av xU (pv 2) ai)) ai))
   (af (aQ (ax b9 (av a6 (pv 2) ai) ai (aB _)) (ag (aw (av de (pv 4) ai))) az)
   (ag (aw (pv 4)))))),?_⟩
  refine⟨_,rfl,_,rfl,?_⟩;refine⟨_,rfl,_,_,rfl,rfl,.inr ⟨by decide,by decide⟩,_,_,rfl,rfl,by show (0:Int)<2147483646;decide,_,_,rfl,rfl,?_⟩;refine⟨_,rfl,_,rfl,_,_,rfl,rfl,.inl ⟨by show (-(2 ^ 64):Int)<i;omega,by show i<(2 ^ 64:Int);omega⟩,_,rfl,_,_,rfl,rfl,⟨by decide,by decide⟩,_,_,rfl,rfl,_,_,rfl,rfl,by show (0:Int)<2147483647;decide,?_⟩;refine⟨_,rfl,_,_,rfl,rfl,by show (0:Int)<5;decide,rfl,_,rfl,?_⟩;unfold jv at k;dsimp only at k
  by_cases hc:cB c%5=4
  ·rw[D8 hc]at k
   rw[Ee (show V.int (cB c%5)=V.int 4 by rw[hc])];exact ba ⟨_,rfl,_,_,rfl,rfl,k⟩
  ·rw[D7 hc]at k
   rw[Ei (show ¬ V.int (cB c%5)=V.int 4 from fun z=>hc (by injection z))];exact aD ⟨_,rfl,k⟩
theorem ur (F:dB K "_law_key" "_law_key" ji f fd) : aV P w K mg base cz 1 f fd ["_law_one","_law_other"] sN:=by
 refine F.ok uD (fun vs H Q E h=>?_) (fun cdv A outer s H vs Q E hr h=>?_)
 ·obtain⟨a,b,rfl,_⟩:=h
  rfl
 ·obtain⟨a,b,rfl,k⟩:=h
  refine⟨_,af (aQ (ax pI (pv 1) (pv 0) (aB _)) (ag (aw (aP (eR (pv 1) (pv 0))))) (az)) (
   ag (aw (aP (eR (pv 0) (pv 1))))),?_⟩
  refine⟨_,rfl,_,rfl,_,_,rfl,rfl,_,rfl,?_⟩;unfold dS at k
  by_cases hc:b<a
  ·rw[D8 hc]at k
   rw[Ee hc];exact ba ⟨_,rfl,_,rfl,by show 2<=sizeLine;decide,k⟩
  ·rw[D7 hc]at k
   rw[Ei hc];exact aD ⟨_,rfl,_,rfl,by show 2<=sizeLine;decide,k⟩
theorem uq (F:dB K "_law_due" "_law_due" jh f fd)(dZ:aA P w K mg base "_law_key" 1 ["_law_one","_law_other"] sN) : aV P w K mg base cz 2 f fd ["_law_worn","_law_met","_law_deed_here"] sM:=by
 refine F.ok n9 (fun vs H Q E h=>?_) (fun cdv A outer s H vs Q E hr h=>?_)
 ·obtain⟨w,m,t,wl,ml,d,rfl,_⟩:=h
  rfl
 ·obtain⟨w,m,t,wl,ml,d,rfl,hw,hm,ht0,k⟩:=h
  have hu:=c8 hr
  have ht:H t=some (.tup (bQ d)):=by rw[<-iu];exact ht0
  have gw:∀ (H2:Hp)(x:Int),aE H H2->cv H2 w (.int x) ((look wl x).map V.int):=fun H2 x s2=>by rw[<-cI];exact cv.k (k:=Sum.inl x) (s2 _ _ hw)
  have two:(2:Nat)<=sizeLine:=by decide
  refine⟨_,af (fB Fg rfl (ya (bW yp (pv 2) (cu (ai)) cX)) (k8 3 n9.nd) (ag (aQ (PW.pt (gn (ax gL (aW aN (pv 2) (ai) (fun _ _=>rfl)) (ao) (aB _)) (dU (eB (kz hu (pv 3) (pv 0)))))) (ag (aw (aP (eR (ao) (pv 3))))) (az)))) (
   af (aQ (PW.pt (gn (ax b9 (aW aN (pv 2) (ai) (fun _ _=>rfl)) (ao) (aB _)) (dU (eB (nF hu (aW aN (pv 2) (ai) (fun _ _=>rfl)) (pv 0)))))) (ag (aw (aP (eR (ao) (bY))))) (az)) (
   af (aQ (PW.pt (gn (ax b9 (aW aN (pv 2) (ai) (fun _ _=>rfl)) (ao) (aB _)) (dU (ax gL (gk hu (pv 0) (aW aN (pv 2) (ai) (fun _ _=>rfl)) (fun _ _=>rfl)) (aW aN (pv 2) (ai) (fun _ _=>rfl)) (aB _))))) (ag (aw (aP (eR (ao) (bY))))) (az)) (
   af (aQ (PW.pt (gn (ax b9 (aW aN (pv 2) (ai) (fun _ _=>rfl)) (ao) (aB _)) (dU (ax b9 (aW aN (pv 2) (ai) (fun _ _=>rfl)) (aW aN (pv 2) (ai) (fun _ _=>rfl)) (aB _))))) (ag (aw (aP (eR (ao) (bY))))) (az)) (
   af (aQ (PW.pt (gn (ax b9 (aW aN (pv 2) (ai) (fun _ _=>rfl)) (ao) (aB _)) (dU (eB (nF hu (bo dZ hr.m rfl (eR (aW aN (pv 2) (ai) (fun _ _=>rfl)) (aW aN (pv 2) (ai) (fun _ _=>rfl)))) (pv 1)))))) (ag (aw (aP (eR (ao) (bY))))) (az)) (
   ag (aw (aP (eR (ao) (bY))))))))),?_⟩
  refine⟨_,rfl,_,rfl,t,_,rfl,bZ.of ht,uT d,fun q hq=>?_⟩;have s1:aE H (upd H q (.tup (dM (bQ d) (some 1) none))):=ah hq
  have hq1:upd H q (.tup (dM (bQ d) (some 1) none)) q=some (.tup ((names d).map V.int)):=by rw[ac,rD]
  generalize upd H q (.tup (dM (bQ d) (some 1) none))=H1 at s1 hq1
  refine⟨q,rfl,⟨_,bZ.of hq1⟩,u3 (K:=K) (a:=q) (xs:=(names d).map V.int) (fun i σ H2=>∃ v:Option V,σ=[some (.ref w),some (.ref m),some (.ref t),v]/\H2=H1/\(bA d≠"come"->∀ y∈(names d).take i,(look wl y).isSome=true))
   ⟨none,rfl,rfl,fun _ y hy=>by simp at hy⟩ (fun i σ H2 _ ⟨_,_,e,_⟩=>by rw[e];exact bZ.of hq1) ?_ ?_⟩
  ·rintro i y σ H2 hi ⟨v,rfl,rfl,hp⟩
   obtain⟨x,hx,rfl⟩:=bL hi;refine⟨_,rfl,t,_,_,_,rfl,rfl,bZ.of (s1 _ _ ht),bV (j:=0) rfl,rfl,_,rfl,?_⟩
   have nxt:(bA d≠"come"->(look wl x).isSome=true)->(bA d≠"come"->∀ y∈(names d).take (i+1),(look wl y).isSome=true):=fun h hc y hy=>by
    rw[wV hx]at hy;rcases EA.mp hy with z | z
    ·exact hp hc y z
    ·rw[Et.mp z];exact h hc
   by_cases hc:bA d="come"
   ·rw[Ee (by rw[hc])]
    exact aD (aD ⟨_,rfl,rfl,nxt fun z=>absurd hc z⟩)
   ·rw[Ei (fun z=>hc (V.str.inj z))]
    refine ba ⟨_,rfl,_,rfl,w,_,rfl,gw _ x s1,_,rfl,?_⟩
    cases e:look wl x with
    | none =>
     refine ba ⟨_,rfl,two,fun r hr2=>?_⟩;refine k r _ (s1.free hr2) (s1.trans (ah hr2)) ?_;rw[ac,xE hc (hp hc) hx e];rfl
    | some z=>exact aD ⟨_,rfl,rfl,nxt fun _=>by rw[e];rfl⟩
  ·rintro σ H2 ⟨v,rfl,rfl,hp⟩
   have fin:∀ (o:vN)(H3:Hp)(r:Addr),bD wl (mU ml) d=o->aE H H3->H3 r=none->Q (.ref r) (upd H3 r (.tup (wD o))):=fun o H3 r e s3 h3=>k r _ (s3.free h3) (s3.trans (ah h3)) (by rw[ac,e]);rw[D6,Fc]at hp;have T0:bZ K H2 t (bQ d):=bZ.of (s1 _ _ ht)
   cases d with
   | come g =>
    refine⟨_,rfl,t,_,_,_,rfl,rfl,T0,rfl,rfl,_,rfl,?_⟩;rw[show decide (V.str (bA (.come g))=V.str "come")=true from cc];refine ba ⟨_,rfl,t,_,_,_,rfl,rfl,T0,rfl,_,rfl,w,_,rfl,gw _ g s1,_,rfl,?_⟩
    cases e:look wl g with
    | some z=>exact ba ⟨two,fun r h3=>fin .already _ r (by simp[bD,e]) s1 h3⟩
    | none =>
     refine aD ⟨_,rfl,t,_,_,_,rfl,rfl,T0,rfl,rfl,_,rfl,?_⟩;rw[show decide (V.str (bA (.come g))=V.str "go")=false from cg];refine aD (aD ⟨_,rfl,t,_,_,_,rfl,rfl,T0,rfl,rfl,_,rfl,?_⟩);rw[show decide (V.str (bA (.come g))=V.str "exchange")=false from ce];refine aD (aD ⟨_,rfl,t,_,_,_,rfl,rfl,T0,rfl,rfl,_,rfl,?_⟩);rw[show decide (V.str (bA (.come g))=V.str "exchange")=false from ce];exact aD (aD ⟨two,fun r h3=>fin .done _ r (by simp[bD,e]) s1 h3⟩)
   | go g =>
    have hg:=hp (by show ("go" : Str)≠"come";decide +kernel) g (by simp[names]);obtain⟨z,e⟩:=EW.mp hg;refine⟨_,rfl,t,_,_,_,rfl,rfl,T0,rfl,rfl,_,rfl,?_⟩;rw[show decide (V.str (bA (.go g))=V.str "come")=false from gc];refine aD (aD ⟨_,rfl,t,_,_,_,rfl,rfl,T0,rfl,rfl,_,rfl,?_⟩);rw[show decide (V.str (bA (.go g))=V.str "go")=true from gg];refine ba ⟨_,rfl,_,rfl,t,_,_,_,rfl,rfl,T0,rfl,w,_,rfl,(by have:=gw H2 g s1;rw[e]at this;exact this),_,rfl,t,_,_,_,rfl,rfl,T0,rfl,rfl,_,rfl,?_⟩
    by_cases hz:z=g
    ·rw[Ee (by rw[hz])]
     refine aD ⟨_,rfl,t,_,_,_,rfl,rfl,T0,rfl,rfl,_,rfl,?_⟩;rw[show decide (V.str (bA (.go g))=V.str "exchange")=false from ge];refine aD (aD ⟨_,rfl,t,_,_,_,rfl,rfl,T0,rfl,rfl,_,rfl,?_⟩);rw[show decide (V.str (bA (.go g))=V.str "exchange")=false from ge];exact aD (aD ⟨two,fun r h3=>fin .done _ r (by simp[bD,e,hz]) s1 h3⟩)
    ·rw[Ei (fun q=>hz (V.int.inj q))]
     exact ba ⟨two,fun r h3=>fin .masked _ r (by simp[bD,e,hz]) s1 h3⟩
   | exch a b =>
    have ha:=hp (by show ("exchange" : Str)≠"come";decide +kernel) a (by simp[names]);have hb:=hp (by show ("exchange" : Str)≠"come";decide +kernel) b (by simp[names]);obtain⟨za,ea⟩:=EW.mp ha;obtain⟨zb,eb⟩:=EW.mp hb;refine⟨_,rfl,t,_,_,_,rfl,rfl,T0,rfl,rfl,_,rfl,?_⟩;rw[show decide (V.str (bA (.exch a b))=V.str "come")=false from ec];refine aD (aD ⟨_,rfl,t,_,_,_,rfl,rfl,T0,rfl,rfl,_,rfl,?_⟩);rw[show decide (V.str (bA (.exch a b))=V.str "go")=false from eg];refine aD (aD ⟨_,rfl,t,_,_,_,rfl,rfl,T0,rfl,rfl,_,rfl,?_⟩);rw[show decide (V.str (bA (.exch a b))=V.str "exchange")=true from ee];refine ba ⟨_,rfl,t,_,_,_,rfl,rfl,T0,rfl,_,rfl,t,_,_,_,rfl,rfl,T0,rfl,rfl,_,rfl,?_⟩
    by_cases hab:a=b
    ·rw[Ee (by rw[hab])]
     exact ba ⟨two,fun r h3=>fin .same _ r (by simp[bD,ea,eb,hab]) s1 h3⟩
    ·rw[Ei (fun q=>hab (V.int.inj q))]
     refine aD ⟨_,rfl,t,_,_,_,rfl,rfl,T0,rfl,rfl,_,rfl,?_⟩;rw[show decide (V.str (bA (.exch a b))=V.str "exchange")=true from ee];refine ba ⟨_,rfl,t,_,_,_,rfl,rfl,T0,rfl,_,rfl,t,_,_,_,rfl,rfl,T0,rfl,a,b,rfl,fun kt hk=>?_⟩;have s2:=s1.trans (ah (o:=.tup [.int (dS a b).1,.int (dS a b).2]) hk);refine⟨_,rfl,m,_,rfl,cv.t (k:=[Sum.inl (dS a b).1,Sum.inl (dS a b).2]) (s2 _ _ hm) ac,_,rfl,?_⟩;rw[zu]
     by_cases hmt:dS a b∈ml
     ·rw[Ee hmt]
      exact ba ⟨two,fun r h3=>fin .met _ r (by simp[bD,ea,eb,hab,mU,hmt]) s2 h3⟩
     ·rw[Ei hmt]
      exact aD ⟨two,fun r h3=>fin .done _ r (by simp[bD,ea,eb,hab,mU,hmt]) s2 h3⟩
theorem qF (F:dB K "_law_after" "_law_after" gA f fd)(dZ:aA P w K mg base "_law_key" 1 ["_law_one","_law_other"] sN) : aV P w K mg base cz 2 f fd ["_law_worn","_law_met","_law_deed_here"] jM:=by
 refine F.ok jL (fun vs H Q E h=>?_) (fun cdv A outer s H vs Q E hr h=>?_)
 ·obtain⟨w,m,t,wl,ml,d,rfl,_⟩:=h
  rfl
 ·obtain⟨w,m,t,wl,ml,d,rfl,hw,hm,ht0,l1,l2,hj,k⟩:=h
  have hu:=c8 hr
  have ht:H t=some (.tup (bQ d)):=by rw[<-iu];exact ht0
  have T0:bZ K H t (bQ d):=bZ.of ht;have nwt:t≠w:=b5 ht hw (by intro z;cases z);have nwm:m≠w:=b5 hm hw (by intro z;cases z);have ntm:t≠m:=b5 ht hm (by intro z;cases z)
  have sz:∀ v:List (Int×Int),v.length<=2000->(dk v).length<sizeLine:=fun v h=>by rw[uc];exact FJ h (by decide)
  refine⟨_,ag (aQ (ax b9 (aW aN (pv 2) (ai) (fun _ _=>rfl)) (ao) (aB _)) (ag (gm hu (pv 0) (aW aN (pv 2) (ai) (fun _ _=>rfl)) (aW aN (pv 2) (ai) (fun _ _=>rfl)) rfl)) (ag (aQ (ax b9 (aW aN (pv 2) (ai) (fun _ _=>rfl)) (ao) (aB _)) (ag (a5 (nJ (pv 0) (aW aN (pv 2) (ai) (fun _ _=>rfl)) ⟨rfl,rfl,rfl,rfl⟩))) (af (bp 3 jL.nd (gk hu (pv 0) (aW aN (pv 2) (ai) (fun _ _=>rfl)) (fun _ _=>rfl))) (
   af (gm hu (pv 0) (aW aN (pv 2) (ai) (fun _ _=>rfl)) (gk hu (pv 0) (aW aN (pv 2) (ai) (fun _ _=>rfl)) (fun _ _=>rfl)) rfl) (
   af (gm hu (pv 0) (aW aN (pv 2) (ai) (fun _ _=>rfl)) (pv 3) rfl) (
   ag (gm hu (pv 1) (bo dZ hr.m rfl (eR (aW aN (pv 2) (ai) (fun _ _=>rfl)) (aW aN (pv 2) (ai) (fun _ _=>rfl)))) (gM) rfl)))))))),?_⟩
  cases d with
  | come g =>
   refine⟨_,rfl,t,_,_,_,rfl,rfl,T0,rfl,rfl,_,rfl,?_⟩;rw[show decide (V.str (bA (.come g))=V.str "come")=true from cc];refine ba ⟨_,rfl,t,_,_,_,rfl,rfl,T0,rfl,_,rfl,_,rfl,t,_,_,_,rfl,rfl,T0,rfl,w,_,rfl,jk.k (k:=Sum.inl g) hw (sz _ (by omega)),?_⟩;rw[jI]
   exact k _ ac (by rw[ae nwm];exact hm) fun b o e h1 _=>by rw[ae h1];exact e
  | go g =>
   refine⟨_,rfl,t,_,_,_,rfl,rfl,T0,rfl,rfl,_,rfl,?_⟩;rw[show decide (V.str (bA (.go g))=V.str "come")=false from gc];refine aD ⟨_,rfl,t,_,_,_,rfl,rfl,T0,rfl,rfl,_,rfl,?_⟩;rw[show decide (V.str (bA (.go g))=V.str "go")=true from gg]
   obtain⟨z,e⟩:∃ z,look wl g=some z:=by
    cases e:look wl g with
    | none=>simp[bD,e]at hj
    | some z=>exact⟨z,rfl⟩
   refine ba ⟨_,rfl,w,rfl,.inl ⟨_,.inl hw⟩,_,rfl,t,_,_,_,rfl,rfl,T0,rfl,_,Sum.inl g,_,hw,rfl,by rw[cI,e];rfl,?_⟩;rw[mz]
   exact k _ ac (by rw[ae nwm];exact hm) fun b o e h1 _=>by rw[ae h1];exact e
  | exch a b =>
   refine⟨_,rfl,t,_,_,_,rfl,rfl,T0,rfl,rfl,_,rfl,?_⟩;rw[show decide (V.str (bA (.exch a b))=V.str "come")=false from ec];refine aD ⟨_,rfl,t,_,_,_,rfl,rfl,T0,rfl,rfl,_,rfl,?_⟩;rw[show decide (V.str (bA (.exch a b))=V.str "go")=false from eg]
   obtain⟨za,ea⟩:∃ z,look wl a=some z:=by
    cases e:look wl a with
    | none=>simp[bD,e]at hj
    | some z=>exact⟨z,rfl⟩
   obtain⟨zb,eb⟩:∃ z,look wl b=some z:=by
    cases e:look wl b with
    | none=>simp[bD,ea,e]at hj
    | some z=>exact⟨z,rfl⟩
   have ga:cv H w (.int a) (some (V.int za)):=by have:=cv.k (k:=Sum.inl a) hw;rw[cI,ea]at this;exact this
   have gb:cv H w (.int b) (some (V.int zb)):=by have:=cv.k (k:=Sum.inl b) hw;rw[cI,eb]at this;exact this
   refine aD ⟨_,rfl,_,rfl,t,_,_,_,rfl,rfl,T0,rfl,w,_,rfl,ga,?_⟩;refine⟨_,rfl,_,rfl,t,_,_,_,rfl,rfl,T0,rfl,w,_,rfl,gb,_,rfl,_,rfl,t,_,_,_,rfl,rfl,T0,rfl,w,_,rfl,jk.k (k:=Sum.inl a) hw (sz _ (by omega)),?_⟩;rw[jI];have lp:=qr wl a zb;have T1:bZ K (upd H w (.dK (dk (put wl a zb)))) t (bQ (.exch a b)):=bZ.of (by rw[ae nwt];exact ht);refine⟨_,rfl,_,rfl,_,rfl,t,_,_,_,rfl,rfl,T1,rfl,w,_,rfl,jk.k (k:=Sum.inl b) ac (sz _ (by omega)),?_⟩;rw[jI,vH];have T2:bZ K (upd H w (.dK (dk (put (put wl a zb) b za)))) t (bQ (.exch a b)):=bZ.of (by rw[ae nwt];exact ht);refine⟨_,rfl,_,rfl,t,_,_,_,rfl,rfl,T2,rfl,_,rfl,t,_,_,_,rfl,rfl,T2,rfl,a,b,rfl,fun kt hk=>?_⟩;have hkm:m≠kt:=aj (by rw[ae nwm];exact hm) hk;have hkw:w≠kt:=aj ac hk;refine⟨m,_,rfl,jk.t (k:=[Sum.inl (dS a b).1,Sum.inl (dS a b).2]) (by rw[ae hkm,ae nwm];exact hm) ac (by unfold lL;rw[D6];exact FJ l2 (by decide)),?_⟩;rw[zt]
   have wa:wr wl a=za:=by unfold wr;rw[ea];rfl
   have wb:wr wl b=zb:=by unfold wr;rw[eb];rfl
   refine k _ ?_ ac fun x o e h1 h2=>?_
   ·rw[ae (Eo nwm),ae hkw,ac]
    show some (HO.dK (dk (put (put wl a zb) b za)))=some (HO.dK (dk (put (put wl a (wr wl b)) b (wr wl a))))
    rw[wa,wb]
   ·have e':upd H w (.dK (dk (put (put wl a zb) b za))) x=some o:=by rw[ae h1];exact e
    rw[ae h2,ae (aj e' hk)];exact e'
theorem sd (F:dB K "_law_deed" "_law_deed" ik f fd)(br:aA P w K mg base "_law_guest" 2 ["_law_k","_law_cell"] iG) : aV P w K mg base cz 3 f fd ["_law_drawn","_law_many","_law_cell"] lT:=by
 refine F.ok lb (fun vs H Q E h=>?_) (fun cdv A outer s H vs Q E hr h=>?_)
 ·obtain⟨dr,m,n,rfl,_⟩:=h
  rfl
 ·obtain⟨dr,m,n,rfl,⟨d0,d1⟩,⟨m0,m1⟩,k⟩:=h
  refine⟨_,af (bp 3 lb.nd (bo br hr.m rfl (eR (av a6 (av cr (pv 0) (ai)) (pv 1)) (pv 2)))) (
   af (aQ (ax b9 (av a6 (pv 0) (ai)) (ai) (aB _)) (ag (aw (aP (eR (ao) (pv 3))))) (az)) (
   af (aQ (ax b9 (av a6 (pv 0) (ai)) (ai) (aB _)) (ag (aw (aP (eR (ao) (pv 3))))) (az)) (
   ag (aw (aP (w9 (ao) (pv 3) (bo br hr.m rfl (eR (av a6 (av cr (pv 0) (av nB (ai) (pv 1))) (pv 1)) (pv 2))))))))),?_⟩
  have em:∀ z:Int,0<=z%m/\z%m<m:=fun z=>⟨EJ _ (by omega),EF _ (by omega)⟩;have a0:=em (dr/8);refine⟨_,rfl,_,_,rfl,rfl,⟨by decide,by decide⟩,_,rfl,_,_,rfl,rfl,by show (0:Int)<m;omega,_,rfl,_,_,rfl,⟨a0.1,by omega⟩,?_⟩;have g0:jv (dr/8%m) n∈aO 40 n:=tR ⟨a0.1,by omega⟩;refine⟨_,rfl,_,_,rfl,rfl,by show (0:Int)<8;decide,rfl,_,rfl,?_⟩;refine tW (fun _=>⟨_,rfl,by show 2<=sizeLine;decide,fun t ht=>k t (.come (jv (dr/8%m) n)) ht fun g hg=>by simp[names]at hg;rw[hg];exact g0⟩) (fun _=>?_);refine⟨_,rfl,_,_,rfl,rfl,by show (0:Int)<8;decide,rfl,_,rfl,?_⟩;refine tW (fun _=>⟨_,rfl,by show 2<=sizeLine;decide,fun t ht=>k t (.go (jv (dr/8%m) n)) ht fun g hg=>by simp[names]at hg;rw[hg];exact g0⟩) (fun _=>?_);have a1:=em (dr/(8*m));have g1:jv (dr/(8*m)%m) n∈aO 40 n:=tR ⟨a1.1,by omega⟩;refine⟨_,rfl,_,rfl,_,rfl,_,_,rfl,rfl,.inl ⟨by decide,by decide⟩,_,_,rfl,rfl,⟨by show (0:Int)<8*m;omega,by show 8*m<1073741824;omega⟩,_,rfl,_,_,rfl,rfl,by show (0:Int)<m;omega,_,rfl,_,_,rfl,⟨a1.1,by omega⟩,by show 3<=sizeLine;decide,fun t ht=>?_⟩
  exact k t (.exch (jv (dr/8%m) n) (jv (dr/(8*m)%m) n)) ht fun g hg=>by
   simp[names]at hg;rcases hg with rfl | rfl
   ·exact g0
   ·exact g1
theorem qG (F:dB K "_law_crowd" "_law_crowd" gB f fd) : aV P w K mg base cz 1 f fd ["_law_cell"] lS:=by
 refine F.ok qU (fun vs H Q E h=>?_) (fun cdv A outer s H vs Q E hr h=>?_)
 ·obtain⟨n,rfl,_⟩:=h
  rfl
 ·obtain⟨n,rfl,k⟩:=h
  refine⟨_,af (aQ (ax b9 (av a6 (av cr (pv 0) (ai)) (ai)) (ai) (aB _)) (ag (aw (av de (ai) (av a6 (av cr (pv 0) (ai)) (ai))))) (az)) (
   ag (aw (av de (ai) (av a6 (pv 0) (ai))))),?_⟩
  refine⟨_,rfl,_,_,rfl,rfl,⟨by decide,by decide⟩,_,_,rfl,rfl,by show (0:Int)<8;decide,rfl,_,rfl,?_⟩;refine tW (fun _=>?_) (fun _=>?_)
  ·refine⟨_,rfl,_,_,rfl,rfl,⟨by decide,by decide⟩,_,_,rfl,rfl,by show (0:Int)<28;decide,_,_,rfl,rfl,k _ ?_⟩
   have:=EF (n/1408) (show (0:Int)<28 by decide);have:=EJ (n/1408) (show (28:Int)≠0 by decide);omega
  ·refine⟨_,rfl,_,_,rfl,rfl,by show (0:Int)<11;decide,_,_,rfl,rfl,k _ ?_⟩
   have:=EF n (show (0:Int)<11 by decide);have:=EJ n (show (11:Int)≠0 by decide);omega
theorem qH (F:dB K "_law_deeds" "_law_deeds" c5 f fd)(bi:aA P w K mg base "_law_cell_at" 1 ["_law_script","_law_k"] (om K))(gR:aA P w K mg base "_law_crowd" 1 ["_law_cell"] lS)(br:aA P w K mg base "_law_guest" 2 ["_law_k","_law_cell"] iG)(i7:aA P w K mg base "_law_deed" 3 ["_law_drawn","_law_many","_law_cell"] lT)(da:aA P w K mg base "_law_draws_from" 3 ["_law_script","_law_start","_law_most","_law_base"] (qX K)) : aV P w K mg base cz 4 f fd ["_law_script"] (jO K):=by
 refine F.ok cZ (fun vs H Q E h=>?_) (fun cdv A outer s H vs Q E hr h=>?_)
 ·obtain⟨a,ns,rfl,_⟩:=h
  rfl
 ·obtain⟨a,ns,rfl,hS,k⟩:=h
  refine⟨_,af (bp 1 cZ.nd (bo bi hr.m rfl (eR (pv 0) (ai)))) (
   af (bp 2 cZ.nd (bo gR hr.m rfl (fT (bo bi hr.m rfl (eR (pv 0) (ai)))))) (
   af (bp 3 cZ.nd (av a6 (av cr (bo bi hr.m rfl (eR (pv 0) (ai))) (ai)) (ai))) (
   af (lQ (ix:=4) (so:=am c5) (N:=hV) (N':=["_law_k","_law_first","_law_cell"]) (src:=[none,some 3,some 1]) rfl rfl yW rfl (iD (by rfl) T.range (fT (pv 2))) (fun cl C s2 H2 ex=>⟨k8 0 (show (["_law_k","_law_first","_law_cell"]:List Str).Nodup by decide +kernel),vp (PW.pt (nK (ax xV (pv 1) (ai) (aB _)) (je (ax b9 (av a6 (pv 0) (ai)) (ai) (aB _))))),aP (eR (ao) (bo br hr.m rfl (eR (pv 0) (pv 2))))⟩) cZ.nd rfl rfl) (
   ag (aw (av hZ (pv 4) (lO (so:=am c5) (N:=hV) (N':=["_law_drawn","_law_many","_law_cell"]) (src:=[none,some 2,some 1]) rfl rfl yW rfl (du (bo da hr.m rfl (ak (pv 0) (ak (ai) (ak (ai) (ak (ai) aF)))))) (fun cl C s2 H2 ex=>⟨k8 0 (show (["_law_drawn","_law_many","_law_cell"]:List Str).Nodup by decide +kernel),fb,bo i7 hr.m rfl (w9 (pv 0) (pv 1) (pv 2))⟩)))))))),?_⟩
  refine⟨_,rfl,a,ns,1,rfl,hS,by decide,?_⟩;generalize hcn:bC ns 1=cn at k ⊢;refine⟨_,rfl,a,ns,0,rfl,hS,by decide,_,rfl,fun m ⟨m0,m1⟩=>?_⟩;refine⟨_,rfl,a,ns,0,rfl,hS,by decide,_,_,rfl,rfl,⟨by decide,by decide⟩,_,_,rfl,rfl,by show (0:Int)<16;decide,?_⟩;refine⟨_,rfl,m,rfl,by omega,by omega,fun l hl=>?_⟩
  refine iw (n:=m.toNat) (fun i σ H2=>∃ (v:Option V)(ds:List au),σ=[v,some (.int (bC ns 0/11%16)),some (.int cn)]/\aE H H2/\bE H2 l ds/\(∀ d∈ds,∀ g∈names d,g∈aO 40 cn)/\ds.length<=i)
   ⟨none,[],rfl,ah hl,⟨[],ac,.nil⟩,(fun d hd=>nomatch hd),D9 _⟩ ?_ ?_
  ·rintro i σ H2 hi ⟨v,ds,rfl,s2,⟨as,hl2,hp2⟩,hn,hlen⟩
   have hal:=Ej hp2
   have app:∀ t,H2 t=none->∃ (v:Option V)(ds:List au),([some (.int (0+(i:Int))),some (.int (bC ns 0/11%16)),some (.int cn)]:St)=[v,some (.int (bC ns 0/11%16)),some (.int cn)]/\aE H (upd (upd H2 t (bv (.come (jv (0+(i:Int)) cn)))) l (.lst (as.map V.ref++[.ref t])))/\bE (upd (upd H2 t (bv (.come (jv (0+(i:Int)) cn)))) l (.lst (as.map V.ref++[.ref t]))) l ds/\(∀ d∈ds,∀ g∈names d,g∈aO 40 cn)/\ds.length<=i+1:=fun t ht=>by
    refine⟨_,ds++[.come (jv (0+(i:Int)) cn)],rfl,bX (s2.trans (ah ht)) hl,mw hl2 hp2 ht _,fun d hd g hg=>?_,by rw[El];show ds.length+1<=i+1;omega⟩;rcases EA.mp hd with z | z
    ·exact hn d z g hg
    ·rw[Et.mp z]at hg
     simp[names]at hg;rw[hg];exact tR ⟨by omega,by omega⟩
   refine yx ⟨_,rfl,_,_,rfl,rfl,_,rfl,tW (fun _=>ba ?_) (fun _=>⟨_,rfl,_,_,rfl,rfl,by show (0:Int)<2;decide,rfl,_,rfl,tW (fun _=>?_) (fun _=>?_)⟩)⟩
   ·refine⟨_,rfl,_,rfl,_,_,rfl,⟨by omega,by omega⟩,by show 2<=sizeLine;decide,fun t ht=>⟨_,by rw[ae (aj hl2 ht)];exact hl2,by rw[D6];exact aS (by omega),?_⟩⟩
    exact app t ht
   ·refine⟨_,rfl,_,rfl,_,_,rfl,⟨by omega,by omega⟩,by show 2<=sizeLine;decide,fun t ht=>⟨_,by rw[ae (aj hl2 ht)];exact hl2,by rw[D6];exact aS (by omega),?_⟩⟩
    exact app t ht
   ·exact⟨_,ds,rfl,s2,⟨as,hl2,hp2⟩,hn,by omega⟩
  ·rintro σ H2 ⟨v,ds,rfl,s2,d2,hn,hlen⟩
   refine⟨_,rfl,_,rfl,a,ns,2,48,12800,rfl,s2.seq hS,⟨by decide,by decide⟩,⟨by decide,by decide⟩,⟨by decide,by decide⟩,fun q H3 es hq s3 hq3 hes hel=>?_⟩;refine⟨q,rfl,⟨_,be.of hq3⟩,fun l2 hl2=>?_⟩;have d3:=b8 (b8 d2 s3) (ah (o:=.lst []) hl2);have nq:q≠l2:=aj hq3 hl2
   refine cD (K:=K) (a:=q) (xs:=es.map V.int) (fun i σ H4=>∃ (v:Option V)(fs:List au),σ=[v,some (.int m),some (.int cn)]/\aE H3 H4/\bE H4 l2 fs/\(∀ d∈fs,∀ g∈names d,g∈aO 40 cn)/\fs.length=i)
    ⟨none,[],rfl,ah hl2,⟨[],ac,.nil⟩,(fun d hd=>nomatch hd),rfl⟩ (fun i σ H4 _ ⟨_,_,_,s4,_⟩=>be.of (s4 _ _ hq3)) ?_ ?_
   ·rintro i y σ H4 hi ⟨v,fs,rfl,s4,⟨as,hl4,hp4⟩,hn4,hlen4⟩
    obtain⟨dr,hdr,rfl⟩:=bL hi;have hil:i<es.length:=(List.getElem?_eq_some_iff.mp hdr).1;have hb:=hes dr (EB hdr);have hal:=Ej hp4;refine gE ⟨_,rfl,_,rfl,_,rfl,dr,m,cn,rfl,⟨hb.1,by omega⟩,⟨m0,m1⟩,fun t d ht hnd=>⟨_,by rw[ae (aj hl4 ht)];exact hl4,by rw[D6];exact aS (by omega),?_⟩⟩;refine⟨_,fs++[d],rfl,bX (s4.trans (ah ht)) hl2,mw hl4 hp4 ht d,fun d' hd' g hg=>?_,by rw[El];show fs.length+1=i+1;omega⟩;rcases EA.mp hd' with z | z
    ·exact hn4 d' z g hg
    ·rw[Et.mp z]at hg;exact hnd g hg
   ·rintro σ H4 ⟨v,fs,rfl,s4,⟨as4,hl4,hp4⟩,hn4,hlen4⟩
    rw[D6]at hlen4;obtain⟨as2,hl2',hp2⟩:=b8 (b8 d2 s3) s4;have l1:=Ej hp2;have l3:=Ej hp4;refine⟨l,l2,_,_,rfl,rfl,hl2',hl4,by rw[D6,D6];exact Nat.le_of_lt (aS (by omega)),fun p hp=>?_⟩;have s24:=(s2.trans s3).trans s4;refine k p _ (ds++fs) (s24.free hp) (s24.trans (ah hp)) ⟨as2++as4,by rw[ac,Es],?_⟩ (fun d hd g hg=>?_) (by rw[El];omega)
    ·exact a7 (Paired.mapP hp2 fun b y e=>(ah hp) _ _ e) (Paired.mapP hp4 fun b y e=>(ah hp) _ _ e)
    ·rcases EA.mp hd with z | z
     ·exact hn d z g hg
     ·exact hn4 d z g hg
theorem ny (F:dB K "_law_evening" "_law_evening" eL f fd)(cO:aA P w K mg base "_law_deeds" 4 ["_law_script"] (jO K))(dY:aA P w K mg base "_law_due" 2 ["_law_worn","_law_met","_law_deed_here"] sM)(cL:aA P w K mg base "_law_after" 2 ["_law_worn","_law_met","_law_deed_here"] jM) : aV P w K mg base cz 6 f fd ["_law_script"] (iF K):=by
 refine F.ok cf (fun vs H Q E h=>?_) (fun cdv A outer s H vs Q E hr h=>?_)
 ·obtain⟨a,ns,rfl,_⟩:=h
  rfl
 ·obtain⟨a,ns,rfl,hS,k⟩:=h
  have hu:=c8 hr;have nil0:(0:Nat)<=sizeLine:=Ey _
  have three:(3:Nat)<=sizeLine:=by decide
  refine⟨_,af (bp 1 cf.nd dG) (
   af (bp 2 cf.nd sr) (
   af (bp 3 cf.nd (fA aF)) (
   af (fB Fg rfl (du (bo cO hr.m rfl (fT (pv 0)))) (k8 4 cf.nd) (ag (aQ (ax b9 (aW aN (bo dY hr.m rfl (w9 (pv 1) (pv 2) (pv 4))) (ai) (fun _ _=>rfl)) (ao) (aB _)) (af (a5 (bo cL hr.m rfl (w9 (pv 1) (pv 2) (pv 4)))) (
   ag (a5 (jF E5 EX EY db (pv 3) (fT (pv 4)))))) (az)))) (
   ag (aw (aP (w9 (pv 1) (pv 2) (pv 3)))))))),?_⟩
  intro w hw;have sA:=ah (o:=.dK []) hw;have hw2:upd H w (.dK []) w=some (.dK (dk [])):=ac;generalize upd H w (.dK [])=H2 at hw2 sA ⊢;intro m hm;have sB:=ah (o:=.dT []) hm;have hm0:H m=none:=sA.free hm;have hm3:upd H2 m (.dT []) m=some (.dT (lL [])):=ac;have hw3:=sB _ _ hw2;generalize upd H2 m (.dT [])=H3 at hm3 hw3 sB ⊢;refine⟨nil0,fun ls hls=>?_⟩;have sC:=ah (o:=.lst []) hls;have s4:=(sA.trans sB).trans sC;have hs0:H ls=none:=(sA.trans sB).free hls;have M4:sU H (upd H3 ls (.lst [])) w m ls ⟨[],[],[],[]⟩ []:=⟨sC _ _ hw3,sC _ _ hm3,⟨[],ac,.nil⟩,hw,hm0,hs0⟩;generalize upd H3 ls (.lst [])=H4 at M4 s4 ⊢;refine⟨_,rfl,a,ns,rfl,s4.seq hS,fun lq H6 ds hlq s6 dlq hds hdl=>?_⟩;have M6:=M4.on s6;have S6:=s4.trans s6;generalize hcn:bC ns 1=cn at hds k;have L40:(aO 40 cn).length=40:=pE 40 cn;obtain⟨qs,hq6,hqp6⟩:=id dlq;have hql:=Ej hqp6
  refine⟨lq,rfl,⟨_,be.of hq6⟩,cD (K:=K) (a:=lq) (xs:=qs.map V.ref) (fun i σ HH=>∃ (st:bI)(ml:List (Int×Int))(v4:Option V),σ=[some (.ref a),some (.ref w),some (.ref m),some (.ref ls),v4]/\aE H HH/\sU H HH w m ls st ml/\uP (aO 40 cn) i st ml /\
    HH lq=some (.lst (qs.map V.ref))/\Paired (fun a x=>HH a=some (bv x)) qs ds/\lq≠ls)
   ⟨_,[],none,rfl,S6,M6,BW,hq6,hqp6,?_⟩ (fun i σ HH _ ⟨_,_,_,_,_,_,_,h,_⟩=>be.of h) ?_ ?_⟩
  ·intro z;obtain⟨as,h,_⟩:=M4.hs;rw[z,h]at hlq;cases hlq
  ·rintro i y σ HH hi ⟨st,ml,v4,rfl,S,M,ev,hq,hqp,lqs⟩
   obtain⟨t,ht,rfl⟩:=bL hi;have hil:i<qs.length:=(List.getElem?_eq_some_iff.mp ht).1;obtain⟨d,hd,hT⟩:=bw hqp ht;have nmD:=hds d (EB hd);have smD:∀ g∈names d,bF g:=fun g hg=>eY (nmD g hg);have ev2:=ev.next nmD smD;have ln:=qC ev.good ev.of;refine⟨_,rfl,_,rfl,_,rfl,w,m,t,st.worn,ml,d,rfl,M.hw,M.hm,hT,fun r H1 hr1 s1 hrt=>?_⟩;rw[jy ev.al]at hrt;refine⟨r,_,_,_,rfl,rfl,bZ.of hrt,bV (j:=0) (Cd _),rfl,_,rfl,?_⟩;rw[pJ];have M1:=M.on s1;have hT1:=s1 _ _ hT;have hq1:=s1 _ _ hq;have hqp1:Paired (fun a x=>H1 a=some (bv x)) qs ds:=Paired.mapP hqp fun b y e=>s1 _ _ e
   by_cases hj:aK st d=.done
   ·rw[Ee hj]
    obtain⟨as,hl,hp⟩:=id M1.hs;have hal:=Ej hp;refine ba ⟨_,rfl,_,rfl,_,rfl,w,m,t,st.worn,ml,d,rfl,M1.hw,M1.hm,hT1,by omega,by have:=ev.mn;omega,(jy ev.al d).trans hj,fun H3 h1 h2 k3=>?_⟩;obtain⟨M4,hl1⟩:=M1.done hj h1 h2 k3 hl hp hT1;refine⟨_,rfl,.inl ⟨rfl,_,be.of hl1⟩,_,rfl,ls,_,_,rfl,rfl,hl1,by rw[D6];exact aS (by have:=ev.sz.d;omega),?_⟩
    have kp:∀ b o,H1 b=some o->b≠w->b≠m->b≠ls->(upd H3 ls (.lst (as.map V.ref++[.ref t]))) b=some o:=fun b o e n1 n2 n3=>by rw[ae n3];exact k3 b o e n1 n2
    refine⟨_,_,_,rfl,fun b o e=>kp b o (s1 _ _ (S b o e)) (aj e M.w0) (aj e M.m0) (aj e M.s0),M4,ev2,kp lq _ hq1 (b5 hq1 M1.hw (by intro z;cases z)) (b5 hq1 M1.hm (by intro z;cases z)) lqs,Paired.mapP hqp1 fun b y e=>?_,lqs⟩;obtain⟨xs,ex⟩:=bO y;rw[ex]at e ⊢;exact kp b _ e (b5 e M1.hw (by intro z;cases z)) (b5 e M1.hm (by intro z;cases z)) (b5 e hl (by intro z;cases z))
   ·rw[Ei hj]
    exact aD ⟨_,_,_,rfl,S.trans s1,M1.not hj,ev2,hq1,hqp1,lqs⟩
  ·rintro σ HH ⟨st,ml,v4,rfl,S,M,ev,hq,hqp,lqs⟩
   rw[D6]at ev;refine⟨_,rfl,_,rfl,_,rfl,three,fun t ht=>k t w m ls _ st ml (S.trans (ah ht)) ac (M.on (ah ht)) (ev.mono (by omega))⟩
theorem oU (F:dB K "_law_stands" "_law_stands" fG f fd)(fj:aG P w K mg base cz c.C "guests" 1 ["self"] (jQ c.C))(f6:aG P w K mg base cz c.C "story" 1 ["self"] (lV c.C))(fm:aG P w K mg base cz c.C "moment" 1 ["self"] (jT c.C))(fZ:aG P w K mg base cz c.C "pairs" 2 ["self"] (jR c.C))(fk:aG P w K mg base cz c.C "inside" 1 ["self","guest"] (jS c.C))(a9:aG P w K mg base (iN P w) c.C "wears" 3 ["self","guest"] (iH c))(fo:aG P w K mg base (iN P w) c.C "wearer" 3 ["self","mask"] (jW c)) : aV P w K mg base cz 4 f fd ["_law_hall","_law_worn","_law_met","_law_story"] (jV c):=by
 refine F.ok iZ (fun vs H Q E h=>?_) (fun cdv A outer s H vs Q E hr h=>?_)
 ·obtain⟨p,w,m,ls,B,st,ml,L,rfl,_⟩:=h
  rfl
 ·obtain⟨p,w,m,ls,B,st,ml,L,rfl,S,wB,hw,hm,hs,G,al,ci,mo,hL,hml,hwl,sm,k⟩:=h
  have hu:=c8 hr
  refine⟨_,af (aQ (PW.pt (nK (ax (qL 1 (AN hr (by decide))) (qN fj (pv 0) U.cl hr.m e6) (bg (dQ rfl) (by rfl) T.sorted Fq (fT (pv 1))) (aB _)) (je (ax (qL 1 (AN hr (by decide))) (qN f6 (pv 0) U.cl hr.m e6) (pv 3) (aB _))))) (ag (aw (gM))) (az)) (
   af (aQ (PW.pt (nK (ax gL (qN fm (pv 0) U.cl hr.m e6) (bg bj (by rfl) T.len E7 (fT (pv 3))) (aB _)) (je (ax (qL 1 (AN hr (by decide))) (qN fZ (pv 0) U.cl hr.m e6) (bg (qd rfl) (by rfl) T.sorted Fq (fT (pv 2))) (aB _))))) (ag (aw (gM))) (az)) (
   af (zM (fB Fg rfl (zJ (pv 1)) (k8 4 iZ.nd) (af (aQ (ax wA (c9 fk (pv 0) U.cl hr.m e6 (fT (pv 4))) (gM) (aB _)) (ag (aw (gM))) (az)) (
   ag (aQ (PW.pt (nK (ax gL (c9 a9 (pv 0) U.cl hr.m x0 (fT (pv 4))) (gk hu (pv 1) (pv 4) (fun _ _=>rfl)) (aB _)) (je (ax gL (c9 fo (pv 0) U.cl hr.m x0 (fT (gk hu (pv 1) (pv 4) (fun _ _=>rfl)))) (pv 4) (aB _))))) (ag (aw (gM))) (az)))))) (
   ag (aw (gM))))),?_⟩
  have nos:∀ (B:HA)(m:Str),¬ m="worn"->¬ m="holders"->¬ m="circles"->¬ m="deeds"->(bG B).lookup m=none:=fun B m h1 h2 h3 h4=>pz B h1 h2 h3 h4;have nG:∀ B:HA,(bG B).lookup ("guests" : Str)=none:=fun B=>vX B (by decide +kernel);have nM:∀ B:HA,(bG B).lookup ("moment" : Str)=none:=fun B=>vX B (by decide +kernel);have nI:∀ B:HA,(bG B).lookup ("inside" : Str)=none:=fun B=>vX B (by decide +kernel);have nS:∀ B:HA,(bG B).lookup ("story" : Str)=none:=fun B=>vX B (by decide +kernel);have nW:∀ B:HA,(bG B).lookup ("wears" : Str)=none:=fun B=>vX B (by decide +kernel);have nR:∀ B:HA,(bG B).lookup ("wearer" : Str)=none:=fun B=>vX B (by decide +kernel);have nT:∀ B:HA,(bG B).lookup ("met" : Str)=none:=fun B=>vX B (by decide +kernel);have nP:∀ B:HA,(bG B).lookup ("pairs" : Str)=none:=fun B=>vX B (by decide +kernel);have nQ:∀ B:HA,(bG B).lookup ("partners" : Str)=none:=fun B=>vX B (by decide +kernel)
  have two:(2:Nat)<=sizeLine:=by decide
  have nil0:(0:Nat)<=sizeLine:=Ey _
  have dkk:∀ wl:List (Int×Int),(dk wl).map (·.1)=(aH wl).map Sum.inl:=fun wl=>by unfold dk aH;rw[EH,EH];rfl
  have szl:(aH st.worn).length<64:=by unfold aH;rw[D6];omega
  refine⟨_,rfl,p,B.dx,_,rfl,S.ob,nG B,p,B,_,rfl,S,hwl,fun l1 hl1=>?_⟩;have s1:=ah (o:=.lst ((bB (aH st.worn)).map V.int)) hl1;have h1:upd H l1 (.lst ((bB (aH st.worn)).map V.int)) l1=some (.lst ((bB (aH st.worn)).map V.int)):=ac;generalize upd H l1 (.lst ((bB (aH st.worn)).map V.int))=H1 at s1 h1 ⊢;refine⟨_,rfl,w,_,aH st.worn,rfl,s1 _ _ hw,dkk _,szl,fun l2 hl2=>?_⟩;have s2:=ah (o:=.lst ((bB (aH st.worn)).map V.int)) hl2;refine⟨l1,l2,_,_,rfl,rfl,vt (be.of (s2 _ _ h1)),vt (be.of ac),fun b hb=>⟨_,rfl,?_⟩⟩;rw[show (if true=true then !b else b)=false by rw[hb.mpr rfl];rfl];have S02:=s1.trans s2;generalize upd H1 l2 (.lst ((bB (aH st.worn)).map V.int))=H2 at S02 ⊢;have hS2:=S.mono S02;refine aD ⟨_,rfl,p,B.dx,_,rfl,hS2.ob,nS B,p,B,_,rfl,hS2,fun l3 H3 hl3 s3 d3=>⟨_,rfl,l3,ls,_,_,rfl,rfl,sD d3,sD (b8 hs (S02.trans s3)),fun b hb=>⟨_,rfl,?_⟩⟩⟩;rw[show (if true=true then !b else b)=false by rw[hb.mpr rfl];rfl];have S03:=S02.trans s3;have hS3:=S.mono S03;obtain⟨as,hls3,hp3⟩:=b8 hs S03;refine aD ⟨_,rfl,p,B.dx,_,rfl,hS3.ob,nM B,p,B,_,rfl,hS3,_,rfl,ls,_,rfl,.inl (be.of hls3),rfl,_,rfl,?_⟩;rw[D6,Ej hp3,Ee rfl]
  have pl:(cV st.circ).length<=1000:=by
   have nd1:(cV st.circ).Nodup:=(jE ci).imp fun {a b} z e=>by rw[e,Qs.ltP_irr]at z;cases z
   have:=((List.perm_ext_iff_of_nodup nd1 mo.nd).mpr fun x=>pK ci al mo x).length_eq;omega
  refine aD ⟨_,rfl,p,B.dx,_,rfl,hS3.ob,nP B,p,B,st,L,rfl,hS3,ci,hL,pl,fun l4 H4 hl4 s4 r4=>⟨_,rfl,m,ml,rfl,(S03.trans s4) _ _ hm,mo.nd,hml,fun l5 qs H5 hl5 s5 r5 pm so=>⟨l4,l5,_,_,rfl,rfl,yk (r4.mono s5),yk r5,fun b hb=>⟨_,rfl,?_⟩⟩⟩⟩;rw[show (if true=true then !b else b)=false by rw[hb.mpr (by rw[xY ci al mo pm so])];rfl];have S05:=(S03.trans s4).trans s5;refine aD ⟨_,rfl,w,_,rfl,S05 _ _ hw,fun o=>?_⟩
  have kp:∀ x u,H5 x=some u->x≠w->(upd H5 w (.frz o (.dK (dk st.worn)))) x=some u:=fun x u e n=>by rw[ae n];exact e
  have hw6:(upd H5 w (.frz o (.dK (dk st.worn)))) w=some (.frz o (.dK (dk st.worn))):=ac;have S6:aJ c.C (upd H5 w (.frz o (.dK (dk st.worn)))) p B st:=(S.mono S05).kept (fp:=[w]) (fun b u e n=>kp b u e (fun z=>n (by rw[z];exact Ec))) (fun z=>by have ob:=(S.mono S05).ob;rw[Et.mp z,S05 _ _ hw]at ob;cases ob) (fun b hb z=>wB (by rw[<-Et.mp z];exact hb)) (fun b xs e z=>by rw[Et.mp z,S05 _ _ hw]at e;cases e);generalize upd H5 w (.frz o (.dK (dk st.worn)))=H6 at kp hw6 S6 ⊢
  refine xv (d:=w) (o:=o) (kvs:=dk st.worn) (fun i σ HH=>HH=H6/\∃ v:Option V,σ=[some (.ref p),some (.ref w),some (.ref m),some (.ref ls),v])
   ⟨rfl,none,rfl⟩ (fun i σ HH _ ⟨e,_⟩=>by rw[e];exact hw6) ?_ ?_
  ·rintro i y σ HH hi ⟨rfl,v,rfl⟩
   obtain⟨q,hq,rfl⟩:=bL hi;have hmem:=EB hq;have lk:look st.worn q.1=some q.2:=kZ G.wn hmem;have lh:=(G.wh q.1 q.2).mp lk;have sg:bF q.1:=sm _ (FF (f:=(·.1)) hmem);have sq:bF q.2:=sm _ (G.ow _ _ lk);have dg:cv HH w (.int q.1) (some (.int q.2)):=.inl ⟨dk st.worn,Sum.inl q.1,.inr ⟨o,hw6⟩,rfl,by rw[cI,lk];rfl⟩;refine⟨_,rfl,p,B.dx,_,rfl,S6.ob,nI B,_,rfl,p,B,st,q.1,rfl,S6,_,_,rfl,rfl,_,rfl,?_⟩;rw[lk];refine aD ⟨_,rfl,p,B.dx,_,rfl,S6.ob,nW B,_,rfl,p,B,st,q.1,rfl,S6,sg,?_⟩;rw[lk];refine⟨_,rfl,_,rfl,w,_,rfl,dg,rfl,_,rfl,?_⟩;rw[Ee rfl];refine aD ⟨_,rfl,p,B.dx,_,rfl,S6.ob,nR B,_,rfl,_,rfl,w,_,rfl,dg,p,B,st,q.2,rfl,S6,sq,?_⟩;rw[lh];refine⟨_,rfl,rfl,_,rfl,?_⟩;rw[show (!decide (V.int q.1=kV (Sum.inl q.1,V.int q.2).1))=false by show (!decide (V.int q.1=V.int q.1))=false;simp];exact aD ⟨rfl,_,rfl⟩
  ·rintro σ HH ⟨rfl,v,rfl⟩
   refine⟨w,o,_,hw6,fun o' u' z=>?_,k _ fun x u e=>?_⟩
   ·have z:H w=some (.frz o' u'):=z
    rw[hw]at z;cases z
   ·by_cases hx:x=w
    ·rw[hx,ac]
     rw[hx,hw]at e;exact e
    ·rw[ae hx]
     exact kp x u (S05 _ _ e) hx
theorem se (F:dB K "_law_line" "_law_line" fc f fd) : aV P w K mg base cz 1 f fd ["_law_deed_here"] qY:=by
 refine F.ok sI (fun vs H Q E h=>?_) (fun cdv A outer s H vs Q E hr h=>?_)
 ·obtain⟨t,d,rfl,_⟩:=h
  rfl
 ·obtain⟨t,d,rfl,ht,sm,k⟩:=h
  refine⟨_,ag (aw (vn K (ao) (av hZ (fA (fT (aW aN (pv 0) (ai) (fun _ _=>rfl)))) (lO (so:=am fc) (N:=mY) (N':=["_law_guest_here"]) (src:=[none]) rfl rfl yW rfl (ya (bW yp (pv 0) (cu (ai)) cX)) (fun cl C s2 H2 ex=>⟨k8 0 (show (["_law_guest_here"]:List Str).Nodup by decide +kernel),fb,iB xg (by rfl) T.str PyProof.Rows.boot_str (fT (pv 0))⟩))))),?_⟩
  have hT:H t=some (.tup (bQ d)):=by rw[<-iu];exact ht
  have one1:(1:Nat)<=sizeLine:=by decide
  refine⟨rfl,_,rfl,t,_,_,_,rfl,rfl,bZ.of hT,bV (j:=0) rfl,one1,fun l1 hl1=>?_⟩;have s1:=ah (o:=.lst [V.str (bA d)]) hl1;have h1:upd H l1 (.lst [V.str (bA d)]) l1=some (.lst ([bA d].map V.str)):=ac;have hT1:=s1 _ _ hT;generalize upd H l1 (.lst [V.str (bA d)])=H1 at s1 h1 hT1 ⊢;refine⟨_,rfl,_,rfl,fz ⟨t,_,rfl,bZ.of hT1,uT d,fun q hq=>?_⟩⟩;have s2:=ah (o:=.tup (dM (bQ d) (some 1) none)) hq
  have h2:upd H1 q (.tup (dM (bQ d) (some 1) none)) q=some (.tup ((names d).map V.int)):=by rw[ac,rD]
  have h12:=s2 _ _ h1;generalize upd H1 q (.tup (dM (bQ d) (some 1) none))=H2 at s2 h2 h12 ⊢
  have nl:(names d).length<=2:=by cases d<;>simp[names]
  refine⟨q,rfl,⟨_,bZ.of h2⟩,fun q3 hq3=>?_⟩
  refine u3 (K:=K) (a:=q) (xs:=(names d).map V.int) (fun j σ HJ=>∃ v:Option V,σ=[v]/\aE H2 HJ/\HJ q3=some (.lst ((((names d).take j).map dF).map V.str)))
   ⟨none,rfl,ah hq3,ac⟩ (fun j σ HJ _ ⟨_,_,s2,_⟩=>bZ.of (s2 _ _ h2)) ?_ ?_
  ·rintro j y σ HJ hj ⟨v,rfl,u1,hu⟩
   obtain⟨g,hg,rfl⟩:=bL hj;refine gE ⟨_,rfl,.inr ⟨g,rfl,sm g (EB hg),_,hu,by rw[D6,D6,EE];exact aS (by omega),?_⟩⟩;refine⟨_,rfl,bX u1 hq3,?_⟩;rw[ac,E8,hg,Fb,Es,Es];rfl
  ·rintro σ HJ ⟨v,rfl,u1,hu⟩
   rw[D6,Fc]at hu;refine⟨l1,q3,_,_,rfl,rfl,u1 _ _ h12,hu,by rw[D6,D6,D6];exact Nat.le_of_lt (aS (by simp;omega)),fun l4 hl4=>?_⟩;refine⟨_,l4,iq d,rfl,rfl,be.of ?_,yF sm,k _ (((s1.trans s2).trans u1).trans (ah hl4))⟩;rw[ac,<-Es];rfl
theorem oS (F:dB K "_law_opened" "_law_opened" fF f fd)(Copened:f8 P w K mg base "opened" 8 ["text"] (jU c cq)) : aV P w K mg base cz 9 f fd ["_law_text"] (vA c):=by
 refine F.ok aR (fun vs H Q E h=>?_) (fun cdv A outer s H vs Q E hr h=>?_)
 ·obtain⟨qs,tl,z,L,rfl,_⟩:=h
  rfl
 ·obtain⟨qs,tl,z,L,rfl,tx,ql,hL,k⟩:=h
  have two:(2:Nat)<=sizeLine:=by decide
  refine⟨_,af (bp 1 aR.nd (aP (eR (ao) (bY)))) (
   af (bp 2 aR.nd (bY)) (
   af (Dc (i:=2) Copened hr.m rfl (fT (pv 0)) rfl rfl aR.nd rfl (Or.inl rfl) (Af (i:=3) rfl UO.mQ aR.nd rfl rfl (fun ea oe CC od us hc ho hd=>ag (bp 1 aR.nd (aP (eR (ao) (vk K (ea:=ea) (oe:=oe) Ec hc ho hd (pv 3) rfl))))) (lP rfl U.mA (fun ea oe=>ag (bp 1 aR.nd (aP (eR (ao) (bY))))) (lP rfl U.mM (fun ea oe=>ag (bp 1 aR.nd (aP (eR (ao) (bY))))) (lP rfl U.mS (fun ea oe=>ag (bp 1 aR.nd (aP (eR (ao) (bY))))) (lP rfl U.mT (fun ea oe=>ag (bp 1 aR.nd (aP (eR (ao) (bY))))) (Af (i:=3) rfl U.mN aR.nd rfl rfl (fun ea oe CC od us hc ho hd=>ag (bp 1 aR.nd (aP (eR (ao) (vk K (ea:=ea) (oe:=oe) Ec hc ho hd (pv 3) rfl))))) Ba))))))) (
   ag (aw (aP (eR (pv 1) (pv 2))))))),?_⟩
  refine⟨two,fun tw0 ht0=>?_⟩;have s0:=ah (o:=.tup [V.str (Str.ofString "done"),V.non]) ht0;have h0:upd H tw0 (.tup [V.str (Str.ofString "done"),V.non]) tw0=some (.tup [V.str (Str.ofString "done"),V.non]):=ac;generalize upd H tw0 (.tup [V.str (Str.ofString "done"),V.non])=H1 at s0 h0 ⊢;have nd:=nO (qs.map (·.2)) ⟨[],[],[],[]⟩ 0 (cF tl);refine⟨_,rfl,zG tx ql hL ?_⟩;generalize b6 ⟨[],[],[],[]⟩ 0 (qs.map (·.2)) (cF tl)=rr at k nd ⊢;obtain⟨ro,st⟩:=rr;dsimp only at k nd ⊢
  have fin:ro≠.done->∀ H2 tw,aE H1 H2->H2 tw=none->∀ r,(upd H2 tw (.tup (oV ro))) r=none->Q (.ref r) (upd (upd H2 tw (.tup (oV ro))) r (.tup [.ref tw,.non])):=fun hn H2 tw s2 htw r hr=>by
   have s3:=ah (o:=.tup (oV ro)) htw;have s4:=ah (o:=.tup [.ref tw,.non]) hr;have s02:=s0.trans s2;refine k r tw .non _ ((s02.trans s3).trans s4) ((s02.trans s3).free hr) (s02.free htw) ac (s4 _ _ ac) ?_
   cases ro with
   | done=>exact absurd rfl hn
   | notext _=>rfl
   | out _=>rfl
  constructor
  ·rintro rfl x B H' hx EV
   refine⟨_,rfl,_,rfl,two,fun r hr=>?_⟩;have s4:=ah (o:=.tup [.ref tw0,.ref x]) hr;have EV2:Ev c H H' x B st:=⟨s0.trans EV.same,EV.hall,EV.good,fun b hb=>s0.free (EV.nfp b hb)⟩;exact k r tw0 (.ref x) _ (EV2.same.trans s4) (EV2.same.free hr) ht0 ac (s4 _ _ (EV.same _ _ h0)) ⟨x,B,rfl,s0.free hx,EV2.on s4⟩
  ·intro hn
   cases ro with
   | done=>exact absurd rfl hn
   | notext kk =>
    intro dx H' s' hx;refine⟨_,UO.qq,ba ⟨_,rfl,fun ea=>?_⟩⟩;refine⟨_,rfl,rfl,UO.gQ,dx,_,_,rfl,hx,rfl,two,fun tw htw=>?_⟩;exact⟨_,rfl,_,rfl,two,fun r hr=>fin hn H' tw s' htw r hr⟩
   | out o =>
    cases o with
    | done=>exact absurd rfl nd
    | already =>
     intro H' s2;exact⟨_,UO.aq,aD ⟨_,VM.aa,ba ⟨two,fun tw htw=>⟨_,rfl,_,rfl,two,fun r hr=>fin hn H' tw s2 htw r hr⟩⟩⟩⟩
    | masked =>
     intro H' s2;exact⟨_,UO.mq,aD ⟨_,VM.ma,aD ⟨_,VM.mm,ba ⟨two,fun tw htw=>⟨_,rfl,_,rfl,two,fun r hr=>fin hn H' tw s2 htw r hr⟩⟩⟩⟩⟩
    | same =>
     intro H' s2;exact⟨_,UO.sq,aD ⟨_,VM.sa,aD ⟨_,VM.sm,aD ⟨_,VM.ss,ba ⟨two,fun tw htw=>⟨_,rfl,_,rfl,two,fun r hr=>fin hn H' tw s2 htw r hr⟩⟩⟩⟩⟩⟩
    | met =>
     intro H' s2;exact⟨_,UO.tq,aD ⟨_,VM.ta,aD ⟨_,VM.tm,aD ⟨_,VM.ts,aD ⟨_,VM.tt,ba ⟨two,fun tw htw=>⟨_,rfl,_,rfl,two,fun r hr=>fin hn H' tw s2 htw r hr⟩⟩⟩⟩⟩⟩⟩
    | noguest g =>
     intro dx H' s2 hx;refine⟨_,UO.nq,aD ⟨_,VM.na,aD ⟨_,VM.nm,aD ⟨_,VM.ns,aD ⟨_,VM.nt,aD ⟨_,VM.nn,ba ⟨_,rfl,fun ea=>?_⟩⟩⟩⟩⟩⟩⟩;refine⟨_,rfl,rfl,U.gN,dx,_,_,rfl,hx,rfl,two,fun tw htw=>?_⟩;exact⟨_,rfl,_,rfl,two,fun r hr=>fin hn H' tw s2 htw r hr⟩
theorem lC (F:dB K "_law_bad_line" "_law_bad_line" dO f fd) : aV P w K mg base cz 1 f fd ["_law_cell"] lR:=by
 refine F.ok cH (fun vs H Q E h=>?_) (fun cdv A outer s H vs Q E hr h=>?_)
 ·obtain⟨c,rfl,_⟩:=h
  rfl
 ·obtain⟨c,rfl,k⟩:=h
  refine⟨_,af (bp 1 cH.nd (fA (ak (ao) (ak (ao) (ak (ao) (ak (ao) (ak (ao) (ak (ao) (ak (ao) (ak (ao) (ak (ao) (ak (ao) aF)))))))))))) (
   af (bp 1 cH.nd (av hZ (pv 1) (fA (ak (ao) (ak (ao) (ak (ao) (ak (ao) (ak (ao) (ak (ao) (ak (ao) (ak (ao) aF))))))))))) (
   af (bp 1 cH.nd (av hZ (pv 1) (fA (eR (ao) (ao))))) (
   ag (aw (aW iy (pv 1) (av a6 (pv 0) (bg bj (by rfl) T.len E7 (fT (pv 1)))) (fun _ _=>rfl)))))),?_⟩
  refine⟨by show (10:Nat)<=sizeLine;decide,fun l1 h1=>?_⟩;have s1:=ah (o:=.lst ((eW.take 10).map V.str)) h1;have e1:upd H l1 (.lst ((eW.take 10).map V.str)) l1=some (.lst ((eW.take 10).map V.str)):=ac
  show _
  refine⟨_,rfl,by show (8:Nat)<=sizeLine;decide,fun l2 h2=>?_⟩;have s2:=ah (o:=.lst (((eW.drop 10).take 8).map V.str)) h2;refine⟨l1,l2,_,_,rfl,rfl,s2 _ _ e1,ac,by show (18:Nat)<=sizeLine;decide,fun l3 h3=>?_⟩;have s3:=ah (o:=.lst ((eW.take 10).map V.str++((eW.drop 10).take 8).map V.str)) h3;refine⟨_,rfl,by show (2:Nat)<=sizeLine;decide,fun l4 h4=>?_⟩;have s4:=ah (o:=.lst ((eW.drop 18).map V.str)) h4;refine⟨l3,l4,_,_,rfl,rfl,s4 _ _ ac,ac,by show (20:Nat)<=sizeLine;decide,fun l5 h5=>?_⟩;have s5:=ah (o:=.lst (eW.map V.str)) h5;have s15:=s1.trans (s2.trans (s3.trans (s4.trans s5)));refine⟨_,rfl,_,rfl,_,rfl,l5,eW.map V.str,rfl,.inl (be.of ac),c,20,rfl,rfl,by show (0:Int)<20;decide,?_⟩;have b1:=EJ c (show (20:Int)≠0 by decide);have b2:=EF c (show (0:Int)<20 by decide);obtain⟨j,hj⟩:∃ j:Nat,(j:Int)=c%20:=⟨(c%20).toNat,by omega⟩
  have hjl:j<eW.length:=by show j<20;omega
  refine⟨l5,eW.map V.str,c%20,V.str eW[j],rfl,rfl,be.of ac,by rw[<-hj];exact bV (by rw[List.getElem?_map,List.getElem?_eq_getElem hjl];rfl),?_⟩;exact k _ _ (xf (List.getElem_mem _)) s15
theorem ky (F:dB K "_law_bent_line" "_law_bent_line" dm f fd) : aV P w K mg base cz 1 f fd ["_law_line_here","_law_cell"] jN:=by
 refine F.ok kF (fun vs H Q E h=>?_) (fun cdv A outer s H vs Q E hr h=>?_)
 ·obtain⟨d,c,rfl,_⟩:=h
  rfl
 ·obtain⟨d,c,rfl,gs,k⟩:=h
  have ls:=d4 gs;have ll:=gi (bf d)
  have l1:(Str.ofString "x").length=1:=by decide +kernel
  have l2:(Str.ofString " ").length=1:=by decide +kernel
  have sl:sizeLine=16777216:=EZ
  refine⟨_,af (aQ (ax b9 (av a6 (pv 1) ai) ai (aB _)) (ag (aw (av ei ao (pv 0)))) az) (
   af (aQ (ax b9 (av a6 (pv 1) ai) ai (aB _)) (ag (aw (av ei (pv 0) ao))) az) (
   zN (zO b9 (av a6 (pv 1) ai) (aB _)) (ag (aw (av ei ao (pv 0)))) (yc (sx (pv 0) (by decide +kernel) (by decide +kernel))))),?_⟩
  have four:(0:Int)<4:=by decide
  have b1:=EJ c (show (4:Int)≠0 by decide);have b2:=EF c (show (0:Int)<4 by decide);refine⟨_,rfl,c,4,rfl,rfl,four,rfl,_,rfl,?_⟩
  by_cases c0:c%4=0
  ·rw[Ee (E9 V.int c0)]
   exact ba ⟨_,rfl,_,_,rfl,rfl,by omega,k _ (BO gs)⟩
  rw[Ei (fun z=>c0 (V.int.inj z))];refine aD ⟨_,rfl,c,4,rfl,rfl,four,rfl,_,rfl,?_⟩
  by_cases c1:c%4=1
  ·rw[Ee (E9 V.int c1)]
   exact ba ⟨_,rfl,_,_,rfl,rfl,by omega,k _ (BP gs)⟩
  rw[Ei (fun z=>c1 (V.int.inj z))];refine aD ⟨_,rfl,c,4,rfl,rfl,four,rfl,_,rfl,?_⟩
  by_cases c2:c%4=2
  ·rw[Ee (E9 V.int c2)]
   exact ba ⟨_,rfl,_,_,rfl,rfl,by omega,k _ (BQ gs)⟩
  rw[Ei (fun z=>c2 (V.int.inj z))];exact aD ⟨_,rfl,bf d,rfl,by omega,k _ (BR gs)⟩
theorem lD (F:dB K "_law_read_due" "_law_read_due" dP f fd)(dY:aA P w K mg base "_law_due" 2 ["_law_worn","_law_met","_law_deed_here"] sM)(cL:aA P w K mg base "_law_after" 2 ["_law_worn","_law_met","_law_deed_here"] jM) : aV P w K mg base cz 4 f fd ["_law_lines","_law_tail"] q8:=by
 refine F.ok bq (fun vs H Q E h=>?_) (fun cdv A outer s H vs Q E hr h=>?_)
 ·obtain⟨l,qs,tail,L,rfl,_⟩:=h
  rfl
 ·obtain⟨l,qs,tail,L,rfl,hl,ql,hL,nm,k⟩:=h
  have hu:=c8 hr
  have two:(2:Nat)<=sizeLine:=by decide
  have three:(3:Nat)<=sizeLine:=by decide
  refine⟨_,af (bp 2 bq.nd dG) (
   af (bp 3 bq.nd sr) (
   af (fB Fg rfl (zK (by rfl) T.enumerate (fT (pv 0))) (kA rfl (bx (k8 4 bq.nd) (bx (kA rfl (bx (k8 5 bq.nd) (bx (k8 6 bq.nd) gl))) gl))) (af (aQ (eB (uu (pv 6))) (ag (aw (aP (w9 (aP (eR (ao) (av de (pv 4) (ai)))) (pv 2) (pv 3))))) (az)) (
   af (bp 7 bq.nd (bo dY hr.m rfl (w9 (pv 2) (pv 3) (pv 6)))) (
   af (aQ (ax gL (aW aN (pv 7) (ai) (fun _ _=>rfl)) (ao) (aB _)) (ag (aw (aP (w9 (pv 7) (pv 2) (pv 3))))) (az)) (
   ag (a5 (bo cL hr.m rfl (w9 (pv 2) (pv 3) (pv 6))))))))) (
   af (aQ (kC (pv 1)) (ag (aw (aP (w9 (aP (eR (ao) (av de (bg bj (by rfl) T.len E7 (fT (pv 0))) (ai)))) (pv 2) (pv 3))))) (az)) (
   ag (aw (aP (w9 (aP (eR (ao) (bY))) (pv 2) (pv 3)))))))),?_⟩
  intro w hw;have sA:=ah (o:=.dK []) hw;have hw2:upd H w (.dK []) w=some (.dK (dk [])):=ac;generalize upd H w (.dK [])=H2 at hw2 sA ⊢;intro m hm;have sB:=ah (o:=.dT []) hm;have hm0:H m=none:=sA.free hm;have hm3:upd H2 m (.dT []) m=some (.dT (lL [])):=ac;have hw3:=sB _ _ hw2;have s3:=sA.trans sB;generalize upd H2 m (.dT [])=H3 at hm3 hw3 s3 ⊢;clear sB sA hw2 hm;obtain⟨as,hl0,hp0⟩:=id hl;have al:=Ej hp0
  have out:∀ (tw:Addr)(ro:RO)(st:bI)(ml:List (Int×Int))(HH:Hp),aE H HH->HH tw=some (.tup (oV ro))->HH w=some (.dK (dk st.worn))->HH m=some (.dT (lL ml))->uP L qs.length st ml->sZ L st->oz ml->b6 ⟨[],[],[],[]⟩ 0 (qs.map (·.2)) tail=(ro,st)->∀ r,HH r=none->Q (.ref r) (upd HH r (.tup [.ref tw,.ref w,.ref m])):=fun tw ro st ml HH s h1 h2 h3 ev ci mo e r hr=>by
   have st2:=ah (o:=.tup [.ref tw,.ref w,.ref m]) hr;exact k r tw w m st ml ro _ (s.trans st2) hw hm0 ac (st2 _ _ h1) (st2 _ _ h2) (st2 _ _ h3) ev ci mo e
  refine⟨_,rfl,l,rfl,⟨_,be.of (s3 _ _ hl0)⟩,?_⟩
  refine xw (K:=K) (a:=l) (xs:=as.map V.ref) (fun i σ HH=>∃ (st:bI)(ml:List (Int×Int))(v4 v5 v6 v7:Option V),σ=[some (.ref l),some (.bl tail),some (.ref w),some (.ref m),v4,v5,v6,v7]/\aE H HH/\HH w=some (.dK (dk st.worn))/\HH m=some (.dT (lL ml))/\uP L i st ml/\sZ L st/\oz ml/\b6 ⟨[],[],[],[]⟩ 0 (qs.map (·.2)) tail=b6 st i ((qs.map (·.2)).drop i) tail)
   ⟨_,[],none,none,none,none,rfl,s3,hw3,hm3,BW,C2,DT,rfl⟩ (fun i σ HH _ ⟨_,_,_,_,_,_,_,s,_⟩=>be.of (s _ _ hl0)) ?_ ?_
  ·rintro i y σ HH T hi ⟨st,ml,v4,v5,v6,v7,rfl,S,hW,hM,ev,ci,mo,er⟩ hT
   obtain⟨b,hb,rfl⟩:=bL hi;have hil:=(List.getElem?_eq_some_iff.mp hb).1;obtain⟨q,hq,hB0⟩:=bw hp0 hb;have sT:=ah (o:=.tup [.int (i:Int),.ref b]) hT;have hTT:upd HH T (.tup [.int (i:Int),.ref b]) T=some (.tup [.int (i:Int),.ref b]):=ac;have hW:=sT _ _ hW;have hM:=sT _ _ hM;have S:=S.trans sT;generalize upd HH T (.tup [.int (i:Int),.ref b])=HH at hTT hW hM S ⊢
   have edr:(qs.map (·.2)).drop i=q.2::(qs.map (·.2)).drop (i+1):=by rw[List.drop_eq_getElem_cons (by rw[D6];omega),List.getElem_map,(List.getElem?_eq_some_iff.mp hq).2]
   rw[edr]at er;have hB:=hB0.mono S
   have evq:uP L qs.length st ml:=by
    have hiq:i<=qs.length:=by omega
    have z:=ev.sz;exact⟨ev.good,ev.of,⟨by have:=z.c;omega,fun x hx=>by have:=z.k x hx;omega,by have:=z.d;omega⟩,by have:=ev.mn;omega,ev.al,ev.eq,ev.dn,ev.nm⟩
   have nmq:=nm q (EB hq);obtain⟨z,od⟩:=q
   cases od with
   | none =>
    have hB:HH b=some (.tup [.str z,.non]):=hB;refine⟨T,_,rfl,bZ.of hTT,rfl,_,_,rfl,_,_,rfl,b,_,rfl,bZ.of hB,rfl,_,_,rfl,_,_,rfl,rfl,rfl,?_⟩;refine⟨_,rfl,_,rfl,ba ⟨_,rfl,_,_,rfl,rfl,two,fun tw htw=>?_⟩⟩;have st2:=ah (o:=.tup [.str "NoText",.int ((i:Int)+1)]) htw;exact⟨_,rfl,_,rfl,three,fun r hr2=>out tw (.notext ((i:Int)+1)) st ml _ (S.trans st2) ac (st2 _ _ hW) (st2 _ _ hM) evq ci mo er r hr2⟩
   | some d =>
    obtain⟨t,hB,hD⟩:=hB;have nmD:=nmq d rfl;refine⟨T,_,rfl,bZ.of hTT,rfl,_,_,rfl,_,_,rfl,b,_,rfl,bZ.of hB,rfl,_,_,rfl,_,_,rfl,rfl,rfl,?_⟩;have ln:=qC ev.good ev.of;refine⟨_,rfl,_,rfl,aD ⟨_,rfl,_,rfl,_,rfl,w,m,t,st.worn,ml,d,rfl,hW,hM,hD,fun r H1 hr1 s1 hrt=>?_⟩⟩;rw[jy ev.al]at hrt;refine⟨_,rfl,r,_,_,_,rfl,rfl,bZ.of hrt,bV (j:=0) (Cd _),rfl,_,rfl,?_⟩;rw[pJ];have hW1:=s1 _ _ hW;have hM1:=s1 _ _ hM;have S1:=S.trans s1
    by_cases hj:aK st d=.done
    ·rw[Ee hj]
     rw[gq hj]at er
     have en:bt st d=after st d:=by unfold bt;rw[D8 hj]
     have em:fR st ml d=pX ml d:=by unfold fR;rw[D8 hj]
     have ev2:=ev.next (fun g hg=>(nmD g hg).1) (fun g hg=>(nmD g hg).2);have ci2:=xi (d:=d) ci (fun g hg=>(nmD g hg).1);have mo2:=zr (st:=st) mo d;rw[en]at ci2 ev2;rw[em]at mo2 ev2;refine aD ⟨_,rfl,_,rfl,_,rfl,w,m,t,st.worn,ml,d,rfl,hW1,hM1,s1 _ _ hD,by omega,by have:=ev.mn;omega,(jy ev.al d).trans hj,fun H5 h1 h2 k3=>?_⟩;refine⟨after st d,_,_,_,_,_,rfl,fun c o e=>k3 c o (S1 _ _ e) (aj e hw) (aj e hm0),?_,h2,ev2,ci2,mo2,er⟩;rw[h1];cases d<;>rfl
    ·rw[Ei hj]
     rw[iE hj]at er;exact ba ⟨_,rfl,_,rfl,_,rfl,three,fun r2 hr2=>out r (.out (aK st d)) st ml _ S1 hrt hW1 hM1 evq ci mo er r2 hr2⟩
  rintro σ HH ⟨st,ml,v4,v5,v6,v7,rfl,S,hW,hM,ev,ci,mo,er⟩;rw[D6,List.drop_of_length_le (by rw[D6];omega)]at er;rw[D6]at ev
  have evq:uP L qs.length st ml:=by rw[<-al];exact ev
  cases tail with
  | true =>
   have er:_=(RO.notext ((as.length:Int)+1),st):=er;refine⟨_,rfl,_,rfl,ba ⟨_,rfl,l,_,rfl,.inl (be.of (S _ _ hl0)),_,_,rfl,rfl,two,fun tw htw=>?_⟩⟩;rw[D6];have st2:=ah (o:=.tup [.str "NoText",.int ((as.length:Int)+1)]) htw;exact⟨_,rfl,_,rfl,three,fun r hr2=>out tw (.notext ((as.length:Int)+1)) st ml _ (S.trans st2) ac (st2 _ _ hW) (st2 _ _ hM) evq ci mo er r hr2⟩
  | false =>
   have er:_=(RO.done,st):=er;refine⟨_,rfl,_,rfl,aD ⟨two,fun tw htw=>?_⟩⟩;have st2:=ah (o:=.tup [.str "done",.non]) htw;exact⟨_,rfl,_,rfl,three,fun r hr2=>out tw .done st ml _ (S.trans st2) ac (st2 _ _ hW) (st2 _ _ hM) evq ci mo er r hr2⟩
theorem ut (F:dB K "_law_new" "_law_new" jj f fd)(br:aA P w K mg base "_law_guest" 2 ["_law_k","_law_cell"] iG) : aV P w K mg base cz 3 f fd ["_law_k","_law_cell"] qZ:=by
 refine F.ok uE (fun vs H Q E h=>?_) (fun cdv A outer s H vs Q E hr h=>?_)
 ·obtain⟨j,n,rfl,_⟩:=h
  rfl
 ·obtain⟨j,n,rfl,⟨j0,j1⟩,k⟩:=h
  refine⟨_,ag (aw (bo br hr.m rfl (eR (av de (ai) (pv 0)) (pv 1)))),?_⟩;exact⟨_,rfl,_,_,rfl,rfl,_,rfl,_,_,rfl,⟨by omega,by omega⟩,k⟩
theorem A3 (F:dB K "law" "law" kI f fd)(bS:aA P w K mg base "_law_size" 1 ["_law_cell"] kH)(bi:aA P w K mg base "_law_cell_at" 1 ["_law_script","_law_k"] (om K))(cO:aA P w K mg base "_law_deeds" 4 ["_law_script"] (jO K))(ff:aA P w K mg base "_law_evening" 6 ["_law_script"] (iF K))(i8:aA P w K mg base "_law_line" 1 ["_law_deed_here"] qY)(d7:aA P w K mg base "_law_bad_line" 1 ["_law_cell"] lR)(dH:aA P w K mg base "_law_bent_line" 1 ["_law_line_here","_law_cell"] jN)(d8:aA P w K mg base "_law_read_due" 4 ["_law_lines","_law_tail"] q8)(fX:aA P w K mg base "_law_opened" 9 ["_law_text"] (vA c))(fY:aA P w K mg base "_law_stands" 4 ["_law_hall","_law_worn","_law_met","_law_story"] (jV c))(cP:aG P w K mg base (iN P w) c.C "come" 2 ["self","guest"] (oo c))(j5:aA P w K mg base "_law_new" 3 ["_law_k","_law_cell"] qZ) : aV P w K mg base cz 10 f fd ["_law_script"] (sO K):=by
 refine F.ok ca (fun vs H Q E h=>?_) (fun cdv A outer s H vs Q E hr h=>?_)
 ·obtain⟨a,ns,rfl,_⟩:=h
  rfl
 ·obtain⟨a,ns,rfl,hS,hlen,k⟩:=h
  have hu:=c8 hr
  have two:(2:Nat)<=sizeLine:=by decide
  have one:(1:Nat)<=sizeLine:=by decide
  have sl:sizeLine=16777216:=EZ
  refine⟨_,af (bp 1 ca.nd (bo bS hr.m rfl (fT (bo bi hr.m rfl (eR (pv 0) (ai)))))) (
   af (bp 2 ca.nd (bo cO hr.m rfl (fT (av hZ (bW dv (pv 0) cX (cu (ai))) (bW dv (pv 0) (cu (ai)) cX))))) (
   af (aQ (ax xV (av a6 (pv 1) (ai)) (ai) (aB _)) (ag (bp 2 ca.nd (aW aN (bo ff hr.m rfl (fT (av hZ (bW dv (pv 0) cX (cu (ai))) (bW dv (pv 0) (cu (ai)) cX)))) (ai) (fun _ _=>rfl)))) (az)) (
   af (lQ (ix:=3) (so:=am kI) (N:=ve) (N':=["_law_deed_here"]) (src:=[none]) rfl rfl yW rfl (du (bW dv (pv 2) cX (cu (ai)))) (fun cl C s2 H2 ex=>⟨k8 0 (show (["_law_deed_here"]:List Str).Nodup by decide +kernel),fb,aP (eR (bo i8 hr.m rfl (fT (pv 0))) (pv 0))⟩) ca.nd rfl rfl) (
   af (bp 4 ca.nd (av a6 (av cr (pv 1) (ai)) (av de (bg bj (by rfl) T.len E7 (fT (pv 3))) (ai)))) (
   af (aQ (ax b9 (av a6 (pv 1) (ai)) (ai) (aB _)) (ag (bp 3 ca.nd (av hZ (av hZ (bW dv (pv 3) cX (cu (pv 4))) (fA (fT (aP (eR (bo d7 hr.m rfl (fT (av cr (pv 1) (ai)))) (bY)))))) (bW dv (pv 3) (cu (pv 4)) cX)))) (az)) (
   af (aQ (PW.pt (gn (ax b9 (av a6 (pv 1) (ai)) (ai) (aB _)) (dU (ax pI (pv 4) (bg bj (by rfl) T.len E7 (fT (pv 3))) (aB _))))) (ag (uy (aP (eR (bo dH hr.m rfl (eR (aW aN (aW iy (pv 3) (pv 4) (fun _ _=>rfl)) (ai) (fun _ _=>rfl)) (av cr (pv 1) (ai)))) (bY))) (A9 (pv 3) (pv 4) yo))) (az)) (
   af (bp 5 ca.nd (vn K (ao) (lO (so:=am kI) (N:=ve) (N':=["_law_line_here","_law_deed_here"]) (src:=[none,none]) rfl rfl yW rfl (du (pv 3)) (fun cl C s2 H2 ex=>⟨vo (n:=2) K rfl (bx (k8 0 (show (["_law_line_here","_law_deed_here"]:List Str).Nodup by decide +kernel)) (bx (k8 1 (show (["_law_line_here","_law_deed_here"]:List Str).Nodup by decide +kernel)) gl)),fb,av ei (pv 0) (ao)⟩)))) (
   af (bp 6 ca.nd ((A5 (lN b9 (av a6 (pv 1) (ai)) (ai) (aB _)) (A7 (lN xV (av a6 (av cr (pv 1) (ai)) (ai)) (ai) (aB _)))))) (
   af (aQ (kC (pv 6)) (ag (bp 5 ca.nd (av ei (pv 5) (aW iy (fA (w9 (ao) (ao) (ao))) (av a6 (av cr (pv 1) (ai)) (ai)) (fun _ _=>rfl))))) (az)) (
   af (uy (bo d8 hr.m rfl (eR (pv 3) (pv 6))) (kA rfl (bx (k8 7 ca.nd) (bx (k8 8 ca.nd) (bx (k8 9 ca.nd) gl))))) (
   af (lQ (ix:=10) (so:=am kI) (N:=ve) (N':=["_law_line_here","_law_deed_here"]) (src:=[none,none]) rfl rfl yW rfl (du (pv 3)) (fun cl C s2 H2 ex=>⟨vo (n:=2) K rfl (bx (k8 0 (show (["_law_line_here","_law_deed_here"]:List Str).Nodup by decide +kernel)) (bx (k8 1 (show (["_law_line_here","_law_deed_here"]:List Str).Nodup by decide +kernel)) gl)),fb,pv 1⟩) ca.nd rfl rfl) (
   af (fB Fg rfl (iD (by rfl) T.range (fT (ai))) (k8 11 ca.nd) (af (uy (bo fX hr.m rfl (fT (pv 5))) (kA rfl (bx (k8 12 ca.nd) (bx (k8 13 ca.nd) gl)))) (
   af (aQ (PW.pt (nK (ax (qL 1 (AN hr (by decide))) (pv 12) (pv 7) (aB _)) (je (ax gL (uv (uu (pv 13))) (lN gL (aW aN (pv 7) (ai) (fun _ _=>rfl)) (ao) (aB _)) (aB _))))) (ag (aw (gM))) (az)) (
   af (aQ (PW.pt (gn (eB (qM (pv 13))) (dU (qP (kC (bg vQ (by rfl) T.isinstance PyProof.Rows.boot_isinstance (ak (pv 13) (ak (vm (v:=.ref c.C) (by rfl) U.mC rfl) aF)))))))) (ag (aw (gM))) (az)) (
   af (aQ (PW.pt (gn (eB (qM (pv 13))) (dU (qP (kC (bo fY hr.m rfl (ak (pv 13) (ak (pv 8) (ak (pv 9) (ak (pv 10) aF)))))))))) (ag (aw (gM))) (az)) (
   ag (aQ (eB (qM (pv 13))) (ag (a5 (c9 cP (pv 13) U.cl hr.m x0 (fT (bo j5 hr.m rfl (eR (ai) (bo bi hr.m rfl (eR (pv 0) (ai))))))))) (az)))))))) (
   ag (aw (gM))))))))))))))),?_⟩
  refine⟨_,rfl,a,ns,2,rfl,hS,by decide,_,rfl,?_⟩;have bd0:=yT (bC ns 2);obtain⟨bd,ebd⟩:∃ bd,bd=cB (bC ns 2):=⟨_,rfl⟩;rw[<-ebd]at bd0 ⊢
  have five:(0:Int)<5:=by decide
  have m5a:=EJ bd (show (5:Int)≠0 by decide);have m5b:=EF bd five
  have cutE:∀ xs:List Int,dM (xs.map V.int) none (some 2)=(xs.take 2).map V.int:=fun xs=>by rw[show (some (2:Int))=some ((2:Nat):Int) from rfl,tK,List.map_take]
  have cutF:∀ xs:List Int,dM (xs.map V.int) (some 3) none=(xs.drop 3).map V.int:=fun xs=>by rw[show (some (3:Int))=some ((3:Nat):Int) from rfl,rE,List.map_drop]
  refine⟨_,rfl,fz ⟨_,rfl,a,_,rfl,hS,fun l1 h1=>?_⟩⟩;rw[cutE];have s1:=ah (o:=.lst ((ns.take 2).map V.int)) h1;have e1:upd H l1 (.lst ((ns.take 2).map V.int)) l1=some (.lst ((ns.take 2).map V.int)):=ac;generalize upd H l1 (.lst ((ns.take 2).map V.int))=H1 at s1 e1 ⊢;refine⟨_,rfl,_,rfl,fz ⟨a,_,rfl,s1.seq hS,fun l2 h2=>?_⟩⟩;rw[cutF];have s2:=ah (o:=.lst ((ns.drop 3).map V.int)) h2;have e2:upd H1 l2 (.lst ((ns.drop 3).map V.int)) l2=some (.lst ((ns.drop 3).map V.int)):=ac;have e1:=s2 _ _ e1;have s2:=s1.trans s2;generalize upd H1 l2 (.lst ((ns.drop 3).map V.int))=H2 at s2 e1 e2 ⊢;refine⟨l1,l2,_,_,rfl,rfl,e1,e2,by rw[D6,D6,EE,Fk];omega,fun l3 h3=>?_⟩;rw[<-Es];have cc:=xh ns;obtain⟨nx,enx⟩:∃ nx,nx=ns.take 2++ns.drop 3:=⟨_,rfl⟩;rw[<-enx]at cc ⊢;have s3:=ah (o:=.lst (nx.map V.int)) h3;have e3:upd H2 l3 (.lst (nx.map V.int)) l3=some (.lst (nx.map V.int)):=ac;have s3:=s2.trans s3;generalize upd H2 l3 (.lst (nx.map V.int))=H3 at s3 e3 ⊢;refine⟨l3,nx,rfl,be.of e3,fun lq H4 ds hlq s4 dlq hds hdl=>?_⟩;rw[cc]at hds;have s4:=s3.trans s4;generalize hcn:bC ns 1=cn at hds;have L40:(aO 40 cn).length=40:=pE 40 cn;refine⟨_,rfl,bd,5,rfl,rfl,five,_,_,rfl,rfl,_,rfl,?_⟩
  apply oh (fun σ HH=>∃ (lq:Addr)(ds:List au),σ=[some (.ref a),some (.int bd),some (.ref lq),none,none,none,none,none,none,none,none,none,none,none]/\aE H HH/\bE HH lq ds/\(∀ d∈ds,∀ g∈names d,g∈aO 40 cn))
  ·intro rest
   by_cases c0:bd%5>0
   ·rw[Ee c0]
    refine ba ⟨_,rfl,fz ⟨_,rfl,a,_,rfl,s4.seq hS,fun k1 g1=>?_⟩⟩;rw[cutE];have r1:=ah (o:=.lst ((ns.take 2).map V.int)) g1;have f1:upd H4 k1 (.lst ((ns.take 2).map V.int)) k1=some (.lst ((ns.take 2).map V.int)):=ac;have r1:=s4.trans r1;generalize upd H4 k1 (.lst ((ns.take 2).map V.int))=G1 at r1 f1 ⊢;refine⟨_,rfl,_,rfl,fz ⟨a,_,rfl,r1.seq hS,fun k2 g2=>?_⟩⟩;rw[cutF];have r2:=ah (o:=.lst ((ns.drop 3).map V.int)) g2;have f2:upd G1 k2 (.lst ((ns.drop 3).map V.int)) k2=some (.lst ((ns.drop 3).map V.int)):=ac;have f1:=r2 _ _ f1;have r2:=r1.trans r2;generalize upd G1 k2 (.lst ((ns.drop 3).map V.int))=G2 at r2 f1 f2 ⊢;refine⟨k1,k2,_,_,rfl,rfl,f1,f2,by rw[D6,D6,EE,Fk];omega,fun k3 g3=>?_⟩;rw[<-Es,<-enx];have r3:=ah (o:=.lst (nx.map V.int)) g3;refine⟨k3,nx,rfl,be.of ac,fun t w m ls G3 st ml r4 ht M ev=>?_⟩;refine⟨t,_,2,_,rfl,rfl,bZ.of ht,rfl,?_⟩;have nm:=ev.nm;rw[cc]at nm;rw[hcn]at nm;exact mF (rest _ _ ⟨ls,st.deeds,rfl,r2.trans (r3.trans r4),M.hs,nm⟩)
   ·rw[Ei c0]
    exact aD (rest _ _ ⟨lq,ds,rfl,s4,dlq,hds⟩)
  clear s4 dlq hds hdl hlq;rintro σ H4 ⟨lq,ds,rfl,s4,dlq,hds⟩;obtain⟨as,hq4,hp4⟩:=dlq;refine⟨_,rfl,fz ⟨_,rfl,lq,_,rfl,be.of hq4,fun l5 h5=>?_⟩⟩;rw[show (some (40:Int))=some ((40:Nat):Int) from rfl,tK,<-List.map_take];have s5:=ah (o:=.lst ((as.take 40).map V.ref)) h5;have e5:upd H4 l5 (.lst ((as.take 40).map V.ref)) l5=some (.lst ((as.take 40).map V.ref)):=ac;have hp5:Paired (fun a x=>upd H4 l5 (.lst ((as.take 40).map V.ref)) a=some (bv x)) (as.take 40) (ds.take 40):=Paired.mapP (ie 40 hp4) fun b y e=>s5 _ _ e;have s5:=s4.trans s5;have hds5:∀ d∈ds.take 40,∀ g∈names d,g∈aO 40 cn:=fun d hd=>hds d (List.mem_of_mem_take hd)
  have dl5:(ds.take 40).length<=40:=by rw[EE];omega
  generalize upd H4 l5 (.lst ((as.take 40).map V.ref))=H5 at s5 e5 hp5 ⊢;generalize as.take 40=bs at e5 hp5 ⊢;generalize ds.take 40=es at hp5 hds5 dl5;clear hp4 hq4 s4 h5 hds;have bl:=Ej hp5;refine⟨l5,rfl,⟨_,be.of e5⟩,fun l6 h6=>?_⟩
  refine cD (K:=K) (a:=l5) (xs:=bs.map V.ref) (fun i σ HK=>∃ v:Option V,σ=[v]/\aE H5 HK/\dC HK l6 ((es.take i).map fun d=>(bf d,some d)))
   ⟨none,rfl,ah h6,⟨[],ac,.nil⟩⟩ (fun i σ HK _ ⟨_,_,s2,_⟩=>be.of (s2 _ _ e5)) ?_ ?_
  ·rintro i y σ HK hi ⟨v,rfl,t1,ln⟩
   obtain⟨b,hb,rfl⟩:=bL hi;obtain⟨d,hd,hB⟩:=bw hp5 hb;have smd:∀ g∈names d,bF g:=fun g hg=>eY (hds5 d (EB hd) g hg);refine gE ⟨_,rfl,b,d,rfl,t1 _ _ hB,smd,fun HJ u1=>⟨_,rfl,two,fun t ht=>?_⟩⟩;obtain⟨cs,hc,pc⟩:=ln.mono u1;have cl:=Ej pc;rw[D6,EE]at cl;have st:=ah (o:=.tup [.str (bf d),.ref b]) ht;refine⟨_,st _ _ hc,by rw[D6];exact aS (by omega),_,rfl,bX ((t1.trans u1).trans st) h6,?_⟩;have:=zo (z:=bf d) hc pc ht (u1 _ _ (t1 _ _ hB));rw[E8,hd,Fb,Es];exact this
  rintro σ H6 ⟨v,rfl,t1,ln⟩;rw[D6,bl,Fc]at ln;have l60:H l6=none:=s5.free h6;have s6:=s5.trans t1
  have gd:∀ q∈es.map (fun d=>(bf d,some d)),∃ d,q=(bf d,some d)/\∀ g∈names d,g∈aO 40 cn:=fun q hq=>by
   obtain⟨d,hd,rfl⟩:=Ez.mp hq;exact⟨d,rfl,hds5 d hd⟩
  have ql:(es.map fun d=>(bf d,some d)).length<=40:=by rw[D6];exact dl5
  generalize (es.map fun d=>(bf d,some d))=qs at ln gd ql;clear hp5 e5 s5 t1 h6 bl dl5 hds5;obtain⟨cs,hl6,pc6⟩:=id ln;have cl:=Ej pc6;refine⟨_,rfl,bd,5,rfl,rfl,⟨by decide,by decide⟩,_,rfl,l6,_,rfl,.inl (be.of hl6),_,_,rfl,rfl,_,_,rfl,rfl,by show (0:Int)<_;rw[D6];omega,?_⟩;rw[D6];obtain⟨pn,epc⟩:∃ pn:Nat,(pn:Int)=bd/5%((cs.length:Int)+1):=⟨(bd/5%((cs.length:Int)+1)).toNat,Int.toNat_of_nonneg (EJ _ (by omega))⟩;rw[<-epc];clear epc;have okG:∀ {d:au},(∀ g∈names d,g∈aO 40 cn)->rp (aO 40 cn) (bf d,some d):=fun {d} h=>⟨rfl,fun g hg=>⟨h g hg,eY (h g hg),pH (h g hg)⟩⟩;refine⟨_,rfl,bd,5,rfl,rfl,five,rfl,_,rfl,?_⟩
  apply oh (fun σ HH=>∃ (l:Addr)(qs:List (Str×Option au)),σ=[some (.ref a),some (.int bd),some (.ref lq),some (.ref l),some (.int (pn:Int)),none,none,none,none,none,none,none,none,none]/\aE H HH/\dC HH l qs/\(∀ q∈qs,rp (aO 40 cn) q)/\qs.length<=41/\H l=none/\(bd%5≠2->∀ q∈qs,∃ d,q=(bf d,some d)/\∀ g∈names d,g∈aO 40 cn))
  ·intro rest
   have ok6:∀ q∈qs,rp (aO 40 cn) q:=fun q hq=>by
    obtain⟨d,rfl,hd⟩:=gd q hq;exact okG hd
   by_cases c2:bd%5=2
   ·rw[Ee (E9 V.int c2)]
    refine ba ⟨_,rfl,fz ⟨_,rfl,(pn:Int),rfl,?_⟩⟩;refine zn pn ln fun p1 G1 hp1 g1 n1=>?_;refine⟨_,rfl,bd,7,rfl,rfl,⟨by decide,by decide⟩,_,rfl,fun z G2 hz g2=>⟨two,fun t ht=>⟨one,fun ll hll=>?_⟩⟩⟩;have g3:=ah (o:=.tup [.str z,.non]) ht;have g4:=ah (o:=.lst [.ref t]) hll;have nb:dC (upd (upd G2 t (.tup [.str z,.non])) ll (.lst [.ref t])) ll [(z,none)]:=⟨[t],ac,.cons (g4 _ _ ac) .nil⟩;have g24:=g2.trans (g3.trans g4);have n4:=n1.mono g24;have g14:=g1.trans g24;generalize upd (upd G2 t (.tup [.str z,.non])) ll (.lst [.ref t])=G4 at nb n4 g14 ⊢;refine xI n4 nb (by rw[EE,EG];omega) fun p2 G5 hp2 g5 n5=>?_;refine⟨_,rfl,_,rfl,(pn:Int),rfl,fz ?_⟩;refine zm pn (ln.mono (g14.trans g5)) fun p3 G6 hp3 g6 n6=>?_;refine xI (n5.mono g6) n6 (by rw[El,EE,EG,Fk];omega) fun p4 G7 hp4 g7 n7=>?_;have s7:=s6.trans (g14.trans (g5.trans (g6.trans g7)));refine mF (rest _ _ ⟨p4,_,rfl,s7,n7,fun q hq=>?_,by rw[El,El,EE,EG,Fk];omega,(s6.trans (g14.trans (g5.trans g6))).free hp4,fun n=>absurd c2 n⟩);rcases EA.mp hq with hq | hq
    ·rcases EA.mp hq with hq | hq
     ·exact ok6 q (List.mem_of_mem_take hq)
     ·rw[Et.mp hq];exact hz
    ·exact ok6 q (List.mem_of_mem_drop hq)
   ·rw[Ei (fun z=>c2 (V.int.inj z))]
    exact aD (rest _ _ ⟨l6,qs,rfl,s6,ln,ok6,by omega,l60,fun _=>gd⟩)
  clear ln gd ql hl6 pc6 cl s6;rintro σ H6 ⟨l,qs,rfl,s6,ln,ok6,ql,l0,gd⟩;obtain⟨cs,hl6,pc6⟩:=id ln;have cl:=Ej pc6;refine⟨_,rfl,bd,5,rfl,rfl,five,rfl,_,rfl,?_⟩
  apply oh (fun σ HH=>∃ (qs:List (Str×Option au)),σ=[some (.ref a),some (.int bd),some (.ref lq),some (.ref l),some (.int (pn:Int)),none,none,none,none,none,none,none,none,none]/\aE H HH/\dC HH l qs/\(∀ q∈qs,rp (aO 40 cn) q)/\qs.length<=41)
  ·intro rest
   by_cases c3:bd%5=3
   ·rw[Ee (E9 V.int c3)]
    refine ba ⟨_,rfl,_,rfl,l,_,rfl,.inl (be.of hl6),_,_,rfl,rfl,_,rfl,?_⟩;rw[D6]
    by_cases c4:(pn:Int)<(cs.length:Int)
    ·rw[Ee c4]
     obtain⟨b,hb⟩:∃ b,cs[pn]? = some b:=⟨_,List.getElem?_eq_getElem (by omega)⟩;obtain⟨q,hq,hB⟩:=bw pc6 hb;obtain⟨d,rfl,nd⟩:=gd (by omega) q (EB hq);obtain⟨t0,hB1,hB2⟩:=hB;refine ba ⟨_,rfl,_,rfl,l,_,_,_,rfl,rfl,be.of hl6,bV (by rw[List.getElem?_map,hb];rfl),b,_,0,_,rfl,rfl,bZ.of hB1,rfl,_,rfl,bd,11,rfl,rfl,⟨by decide,by decide⟩,d,_,rfl,fun g hg=>pH (nd g hg),fun z hz=>⟨two,fun t ht=>?_⟩⟩;have g3:=ah (o:=.tup [.str z,.non]) ht;have n3:=ln.mono g3;have ht2:upd H6 t (.tup [.str z,.non]) t=some (.tup [.str z,.non]):=ac;have s7:=s6.trans g3;generalize upd H6 t (.tup [.str z,.non])=G3 at n3 ht2 s7 g3 ⊢;have hl7:=g3 _ _ hl6;have pc7:Paired (pT G3) cs qs:=Paired.mapP pc6 fun _ _ y=>y.mono g3;refine⟨_,rfl,_,rfl,l,_,_,pn,rfl,rfl,hl7,by unfold yM;rw[D8 (by omega),D8 (by rw[D6];omega),FN],?_⟩;refine rest _ _ ⟨_,rfl,bX s7 l0,AX pn hl7 pc7 ht2,fun q hq=>?_,by rw[List.length_set];exact ql⟩;rcases List.mem_or_eq_of_mem_set hq with hq | rfl
     ·exact ok6 q hq
     ·exact hz
    ·rw[Ei c4]
     exact aD (rest _ _ ⟨qs,rfl,s6,ln,ok6,ql⟩)
   ·rw[Ei (fun z=>c3 (V.int.inj z))]
    exact aD (aD (rest _ _ ⟨qs,rfl,s6,ln,ok6,ql⟩))
  clear ln ok6 ql gd hl6 pc6 cl s6;rintro σ H6 ⟨qs,rfl,s6,ln,ok6,ql⟩;obtain⟨cs,hl6,pc6⟩:=id ln;have cl:=Ej pc6;refine⟨rfl,_,rfl,l,rfl,⟨_,be.of hl6⟩,fun l7 h7=>?_⟩
  refine cD (K:=K) (a:=l) (xs:=cs.map V.ref) (fun i σ HK=>∃ v0 v1:Option V,σ=[v0,v1]/\aE H6 HK/\HK l7=some (.lst ((yN (qs.take i)).map V.str)))
   ⟨none,none,rfl,ah h7,ac⟩ (fun i σ HK _ ⟨_,_,_,s2,_⟩=>be.of (s2 _ _ hl6)) ?_ ?_
  ·rintro i y σ HK hi ⟨v0,v1,rfl,t1,hl7⟩
   obtain⟨b,hb,rfl⟩:=bL hi;have hil:=(List.getElem?_eq_some_iff.mp hb).1;obtain⟨q,hq,hB⟩:=bw pc6 hb;obtain⟨v,hB,_⟩:=hB.sv;have lq2:=(jB (ok6 q (EB hq))).2
   have en:(Str.ofString "\n").length=1:=by decide +kernel
   refine⟨b,_,rfl,bZ.of (t1 _ _ hB),rfl,_,_,rfl,_,_,rfl,rfl,gE ⟨_,rfl,_,_,rfl,rfl,by rw[gi q.1,en];omega,_,hl7,by unfold yN;rw[D6,D6,EE];exact aS (by omega),_,_,rfl,bX t1 h7,?_⟩⟩;rw[ac,E8,hq,Fb];unfold yN;rw[Es,Es];rfl
  rintro σ H7 ⟨v0,v1,rfl,t7,hl7⟩;rw[D6,cl,Fc]at hl7;have s7:=s6.trans t7;have ln7:=ln.mono t7;refine⟨_,l7,yN qs,rfl,rfl,be.of hl7,B8 ok6 (by omega),?_⟩;have tx:=CF ok6;generalize Txt.join (Str.ofString "") (yN qs)=z at tx;have txl:=yz tx;clear ln hl6 pc6 cl t7 h7 hl7 s6;refine⟨_,rfl,bd,5,rfl,rfl,five,rfl,_,rfl,?_⟩
  apply oh (fun σ HH=>HH=H7/\∃ tb:Bool,σ=[some (.ref a),some (.int bd),some (.ref lq),some (.ref l),some (.int (pn:Int)),some (.str z),some (.bl tb),none,none,none,none,none,none,none])
  ·intro rest
   by_cases c4:bd%5=4
   ·rw[Ee (E9 V.int c4)]
    refine ba ⟨_,rfl,bd,5,rfl,rfl,⟨by decide,by decide⟩,_,3,rfl,rfl,by show (0:Int)<3;decide,_,_,rfl,rfl,?_⟩;exact mF (rest _ _ ⟨rfl,_,rfl⟩)
   ·rw[Ei (fun z=>c4 (V.int.inj z))]
    exact aD (mF (rest _ _ ⟨rfl,_,rfl⟩))
  rintro σ HH ⟨rfl,tb,rfl⟩;refine⟨_,rfl,_,rfl,?_⟩
  apply oh (fun σ H8=>∃ (tl z:Str),σ=[some (.ref a),some (.int bd),some (.ref lq),some (.ref l),some (.int (pn:Int)),some (.str z),some (.bl tb),none,none,none,none,none,none,none]/\aE HH H8/\pV (aO 40 cn) qs tl z/\cF tl=tb)
  ·intro rest
   cases tb with
   | true =>
    refine ba ⟨_,rfl,by show (3:Nat)<=sizeLine;decide,fun lw hlw=>?_⟩;have gw:=ah (o:=.lst [.str "come 77",.str "x",.str " "]) hlw;have b1:=EJ (bd/15) (show (3:Int)≠0 by decide);have b2:=EF (bd/15) (show (0:Int)<3 by decide);have fin:∀ tl:Str,(aZ tl).all (fun c=>decide (32<=c)&&decide (c<128))=true->(aZ tl).length<=100->cF tl=true->_:=fun tl f1 f2 f3=>rest [some (.ref a),some (.int bd),some (.ref lq),some (.ref l),some (.int (pn:Int)),some (.str (z++tl)),some (.bl true),none,none,none,none,none,none,none] (upd HH lw (.lst [.str "come 77",.str "x",.str " "])) ⟨tl,z++tl,rfl,gw,z5 tx f1 f2,f3⟩;refine⟨_,rfl,bd,15,rfl,rfl,⟨by decide,by decide⟩,_,3,rfl,rfl,by show (0:Int)<3;decide,?_⟩;obtain⟨x,ex⟩:∃ x,x=bd/15%3:=⟨_,rfl⟩;rw[<-ex]at b1 b2 ⊢
    have c3:x=0\/x=1\/x=2:=by omega
    have k1:(Str.ofString "come 77").length=7:=by decide +kernel
    have k2:(Str.ofString "x").length=1:=by decide +kernel
    have k3:(Str.ofString " ").length=1:=by decide +kernel
    rcases c3 with rfl | rfl | rfl
    ·exact⟨lw,_,_,_,rfl,rfl,be.of ac,bV (j:=0) rfl,_,_,rfl,rfl,by omega,mF (fin (Str.ofString "come 77") (by decide +kernel) (by decide +kernel) (by decide +kernel))⟩
    ·exact⟨lw,_,_,_,rfl,rfl,be.of ac,bV (j:=1) rfl,_,_,rfl,rfl,by omega,mF (fin (Str.ofString "x") (by decide +kernel) (by decide +kernel) (by decide +kernel))⟩
    ·exact⟨lw,_,_,_,rfl,rfl,be.of ac,bV (j:=2) rfl,_,_,rfl,rfl,by omega,mF (fin (Str.ofString " ") (by decide +kernel) (by decide +kernel) (by decide +kernel))⟩
   | false=>exact aD (rest _ _ ⟨_,z,rfl,aE.refl _,tx,by decide +kernel⟩)
  clear tx txl;rintro σ H8 ⟨tl,z,rfl,t8,tx,etb⟩;have s8:=s7.trans t8;have ln8:=ln7.mono t8
  have nmq:∀ q∈qs,∀ d,q.2=some d->∀ g∈names d,g∈aO 40 cn/\bF g:=fun q hq d e g hg=>by
   have:=ok6 q hq;obtain⟨zz,o⟩:=q;cases e;have:=this.2 g hg;exact⟨this.1,this.2.1⟩
  refine⟨_,rfl,_,rfl,l,qs,tb,aO 40 cn,rfl,ln8,by omega,by omega,nmq,fun r tw w m st ml ro H9 t9 hw0 hm0 hr9 htw9 hw9 hm9 ev ci mo er=>?_⟩;refine⟨r,_,rfl,bZ.of hr9,rfl,_,_,rfl,_,_,rfl,_,_,rfl,rfl,?_⟩;have s9:=s8.trans t9;obtain⟨cs,hl9,pc9⟩:=ln8.mono t9;have cl:=Ej pc9;refine⟨_,rfl,l,rfl,⟨_,be.of hl9⟩,fun ls hls=>?_⟩
  refine cD (K:=K) (a:=l) (xs:=cs.map V.ref) (fun i σ HK=>∃ v0 v1:Option V,σ=[v0,v1]/\aE H9 HK/\tz HK ls ((qs.take i).map (·.2)))
   ⟨none,none,rfl,ah hls,⟨[],ac,.nil⟩⟩ (fun i σ HK _ ⟨_,_,_,s2,_⟩=>be.of (s2 _ _ hl9)) ?_ ?_
  ·rintro i y σ HK hi ⟨v0,v1,rfl,t1,sA⟩
   obtain⟨b,hb,rfl⟩:=bL hi;have hil:=(List.getElem?_eq_some_iff.mp hb).1;obtain⟨q,hq,hB⟩:=bw pc9 hb;obtain⟨v,hB,hv⟩:=hB.sv;obtain⟨vs,hvs,pvs⟩:=sA;have vl:=Ej pvs;rw[D6,EE]at vl;refine⟨b,_,rfl,bZ.of (t1 _ _ hB),rfl,_,_,rfl,_,_,rfl,rfl,gE ⟨_,rfl,_,hvs,aS (by omega),_,_,rfl,bX t1 hls,?_⟩⟩;have:=zY hvs pvs (hv.mono t1);rw[E8,hq,Fb,Es];exact this
  rintro σ H10 ⟨v0,v1,rfl,t10,sA⟩;rw[D6,cl,Fc]at sA;have s10:=s9.trans t10;have htw:=t10 _ _ htw9;have hw:=t10 _ _ hw9;have hm:=t10 _ _ hm9;have hS10:=s10.seq hS;clear pc9 hl9 cl htw9 hw9 hm9 hr9 hls t9 t10 t8 ln8 ln7 s7 s8 s9;refine⟨2,rfl,by decide,by decide,?_⟩
  refine iw (n:=2) (fun i σ HH=>∃ v11 v12 v13:Option V,σ=[some (.ref a),some (.int bd),some (.ref lq),some (.ref l),some (.int (pn:Int)),some (.str z),some (.bl tb),some (.ref tw),some (.ref w),some (.ref m),some (.ref ls),v11,v12,v13]/\aE H10 HH)
   ⟨none,none,none,rfl,aE.refl _⟩ ?_ ?_
  ·rintro i σ HH hi ⟨v11,v12,v13,rfl,sH⟩
   refine⟨_,rfl,qs,tl,z,aO 40 cn,rfl,tx,by omega,by omega,fun r2 tw2 fv H11 t11 hr2 htw2 e11 et11 opd=>?_⟩;rw[etb,er]at et11 opd;dsimp only at et11 opd;refine⟨r2,_,rfl,bZ.of e11,rfl,_,_,rfl,_,_,rfl,rfl,?_⟩
   have nd:ro≠.out .done:=by have:=nO (qs.map (·.2)) ⟨[],[],[],[]⟩ 0 tb;rw[er]at this;exact this
   have fl:=wC ro nd;have htw11:=t11 _ _ (sH _ _ htw);refine⟨_,rfl,_,rfl,tw2,tw,_,_,rfl,rfl,sE et11 fl,sE htw11 fl,fun bb hbb=>⟨_,rfl,?_⟩⟩;rw[show (if true=true then !bb else bb)=false by rw[hbb.mpr rfl];rfl];obtain⟨zw,vs,ez,hz⟩:=Ce ro;rw[ez]at htw11;have s11:=sH.trans t11
   by_cases hro:ro=.done
   ·subst hro
    obtain⟨x,B,rfl,hx,E⟩:=opd;obtain⟨tbf,dd,edd,ede⟩:=nN er;have ede:st.deeds=dd:=ede;have hzd:=hz.mpr (.inl rfl);subst hzd;have hS11:=s11.seq hS10;have nC:∀ B:HA,(bG B).lookup ("come" : Str)=none:=fun B=>vX B (by decide +kernel);refine aD ⟨_,rfl,_,rfl,tw,_,0,_,rfl,rfl,bZ.of htw11,bV (j:=0) rfl,rfl,rfl,_,rfl,?_⟩;rw[show decide (V.str (Str.ofString "done")=V.str (Str.ofString "done"))=true from Ee rfl];have l40:=qC E.good ev.of;refine aD ⟨_,rfl,_,rfl,ba ⟨_,rfl,V.ref x,c.C,_,true,rfl,jt.ins E.hall.ob U.cl UO.ha UO.hn UO.ht UO.hm,UO.kk,_,rfl,aD ?_⟩⟩
    have wB:w∉B.fp:=fun q=>by have n:=E.nfp w q;rw[sH _ _ hw]at n;cases n
    have dA:bE H11 ls st.deeds:=by
     rw[ede];rw[edd]at sA;exact (sA.mono s11).deeds
    have mn:=ev.mn;refine⟨_,rfl,_,rfl,ba ⟨_,rfl,_,rfl,_,rfl,_,rfl,x,w,m,ls,B,st,ml,aO 40 cn,rfl,E.hall,wB,s11 _ _ hw,s11 _ _ hm,dA,E.good,ev.al,ci,mo,by omega,by omega,by omega,fun g hg=>eY (ev.of.1 g hg),fun H12 t12=>⟨_,rfl,aD ?_⟩⟩⟩;have E12:=E.on t12;have ft:=u0 E12.good ev.of (by omega) ev.sz (by omega)
    have gout:look st.worn (jv (60+0) (bC ns 1))=none:=by rw[hcn];exact xK ev.of (tS (by decide) (by decide) (by decide))
    have hj:aK st (.come (jv (60+0) (bC ns 1)))=.done:=by unfold aK;dsimp only;rw[gout];rfl
    refine⟨_,rfl,_,rfl,ba ⟨_,rfl,x,B.dx,_,rfl,E12.hall.ob,nC B,_,rfl,a,ns,1,rfl,t12.seq hS11,by decide,0,bC ns 1,rfl,⟨by decide,by decide⟩,x,B,st,_,rfl,E12.hall,ft,kb _ _,?_⟩⟩;unfold oy;rw[D8 hj];intro H13 mv;have g2:=ka E12.good (d:=.come (jv (60+0) (bC ns 1))) (fun g hg=>by rw[Et.mp hg];exact kb _ _)
    have en:bt st (.come (jv (60+0) (bC ns 1)))=after st (.come (jv (60+0) (bC ns 1))):=by unfold bt;rw[D8 hj]
    have mv2:pb c.C H12 x B (bt st (.come (jv (60+0) (bC ns 1)))) H13:=by rw[en];exact mv
    obtain⟨B',V2,_,_⟩:=E12.moved mv2 g2;exact⟨_,_,_,rfl,sH.trans V2.same⟩
   ·have fvn:fv=.non:=by
     cases ro with
     | done=>exact absurd rfl hro
     | _=>exact opd
    subst fvn
    have hzn:zw≠"done":=fun q=>by
     rcases hz.mp q with y | y
     ·exact hro y
     ·exact nd y
    refine aD ⟨_,rfl,_,rfl,tw,_,0,_,rfl,rfl,bZ.of htw11,bV (j:=0) rfl,rfl,rfl,_,rfl,?_⟩;rw[Ei (fun q=>hzn (V.str.inj q))];refine aD ⟨_,rfl,_,rfl,aD (aD ⟨_,rfl,_,rfl,aD (aD ⟨_,rfl,_,rfl,aD ?_⟩)⟩)⟩;exact⟨_,_,_,rfl,s11⟩
  rintro σ HH ⟨v11,v12,v13,rfl,sH⟩;exact k _
end
theorem all_mk2 {l:PySem.W.OpenLaw}{w:World}{K:PySem.W.Frag}{h:Heap}{mg:Str->Option Value}{fa:Addr}{C cW cA cM cS cT cN fN co cq ck t1 t2 t3 t4 t5 t6 t7 t8 n1:Addr}(X:K.In h)(G:h.Ns mainGlobals mg)(hfa:mg "law" = some (.ref fa))(aC:PySem.W.nsIn K mainGlobals "Hall" = some (some (.ref C)))(n_cW:PySem.W.nsIn K mainGlobals "WaltzError" = some (some (.ref cW)))(n_cA:PySem.W.nsIn K mainGlobals "AlreadyIn" = some (some (.ref cA)))(n_cM:PySem.W.nsIn K mainGlobals "Masked" = some (some (.ref cM)))(n_cS:PySem.W.nsIn K mainGlobals "Same" = some (some (.ref cS)))(n_cT:PySem.W.nsIn K mainGlobals "Met" = some (some (.ref cT)))(n_cN:PySem.W.nsIn K mainGlobals "NoGuest" = some (some (.ref cN)))(b_cN:PySem.W.findIn K (.ref cN) "__init__" = some (some (.ref fN)))(pg:PySem.W.plainGet K C Str.empty=true)(hd:PySem.W.hasDictIn K C=true)(po:PySem.W.plainOver K C=true)(sa:PySem.W.findIn K (.ref C) "__setattr__" = some (some (.builtin "object.__setattr__")))(vf:PySem.W.findIn K (.ref C) "worn" = some none)(m6:PySem.W.findIn K (.ref C) "holders" = some none)(m5:PySem.W.findIn K (.ref C) "circles" = some none)(rY:PySem.W.findIn K (.ref C) "deeds" = some none)(e_cA:fu K cA)(e_cM:fu K cM)(e_cS:fu K cS)(e_cT:fu K cT)(e_cN:gj K cN fN=true)(g1:PySem.W.findIn K (.ref cN) "__getattribute__" = some (some (.builtin "BaseException.__getattribute__")))(g2:PySem.W.findIn K (.ref cN) "__getattr__" = some none)(g3:PySem.W.findIn K (.ref cN) "__setattr__" = some (some (.builtin "object.__setattr__")))(g4:PySem.W.findIn K (.ref cN) "guest" = some none)(g5:PySem.W.hasDictIn K cN=true)(g6:PySem.W.mroIn K cN (.type "BaseException")=some true)(g7:PySem.W.mroIn K cN (.type "object")=some true)(g8:((PySem.W.clsIn K cN).any fun cd=>eZ cd.mro)=true)(tN:PySem.W.typeIn K (.ref fN)=some (.type "function"))(wS:PySem.W.specialIn K (.ref cW) "__getattribute__" = some (some (.builtin "type.__getattribute__")))(wR:PySem.W.readsIn K cW (.type "type")=true)(wI:PySem.W.findCls K (.ref cW) (.type "type") "__init__" = some (.val (.builtin "ValueError.__init__")))(x_aa:PySem.W.exmOne K (.ref cA) (.ref cA)=some true)(x_ma:PySem.W.exmOne K (.ref cM) (.ref cA)=some false)(x_mm:PySem.W.exmOne K (.ref cM) (.ref cM)=some true)(x_sa:PySem.W.exmOne K (.ref cS) (.ref cA)=some false)(x_sm:PySem.W.exmOne K (.ref cS) (.ref cM)=some false)(x_ss:PySem.W.exmOne K (.ref cS) (.ref cS)=some true)(x_ta:PySem.W.exmOne K (.ref cT) (.ref cA)=some false)(x_tm:PySem.W.exmOne K (.ref cT) (.ref cM)=some false)(x_ts:PySem.W.exmOne K (.ref cT) (.ref cS)=some false)(x_tt:PySem.W.exmOne K (.ref cT) (.ref cT)=some true)(x_na:PySem.W.exmOne K (.ref cN) (.ref cA)=some false)(x_nm:PySem.W.exmOne K (.ref cN) (.ref cM)=some false)(x_ns:PySem.W.exmOne K (.ref cN) (.ref cS)=some false)(x_nt:PySem.W.exmOne K (.ref cN) (.ref cT)=some false)(x_nn:PySem.W.exmOne K (.ref cN) (.ref cN)=some true)(mk:PySem.W.makesIn K C=true)(kc:PySem.W.keepIn K (.ref C)=true)(n_md:PySem.W.nsIn K mainGlobals "MOST_DIGITS" = some (some (.int 12 t1)))(n_dg:PySem.W.nsIn K mainGlobals "DIGITS" = some (some (.str "0123456789" t2)))(n_dz:PySem.W.nsIn K mainGlobals "DEED_SIZES" = some (some (.ref co)))(dzo:K.lookup co=some (L2.gObj w.params Wz.sizesD [(t3,t4),(t5,t6),(t7,t8)] n1))(dzs:(co == sysModules)=false)(i_ha:PySem.W.findIn K (.ref C) "__class__" = some (some (.builtin "object.__class__")))(i_hn:PySem.W.specialIn K (.builtin "object.__class__") "__get__" = some (some (.builtin "getset_descriptor.__get__")))(i_ht:PySem.W.takesIn K (.builtin "object.__class__")=some true)(i_hm:PySem.W.mroIn K C (.type "object")=some true)(i_kk:PySem.W.kitOne K (.ref C) (.ref C)=some true)(n_cq:PySem.W.nsIn K mainGlobals "NoText" = some (some (.ref cq)))(b_cq:PySem.W.findIn K (.ref cq) "__init__" = some (some (.ref ck)))(e_cq:gj K cq ck=true)(p1:PySem.W.findIn K (.ref cq) "__getattribute__" = some (some (.builtin "BaseException.__getattribute__")))(p2:PySem.W.findIn K (.ref cq) "__getattr__" = some none)(p3:PySem.W.findIn K (.ref cq) "__setattr__" = some (some (.builtin "object.__setattr__")))(p4:PySem.W.findIn K (.ref cq) "place" = some none)(p5:PySem.W.hasDictIn K cq=true)(p6:PySem.W.mroIn K cq (.type "BaseException")=some true)(p7:PySem.W.mroIn K cq (.type "object")=some true)(p8:((PySem.W.clsIn K cq).any fun cd=>eZ cd.mro)=true)(tQ:PySem.W.typeIn K (.ref ck)=some (.type "function"))(x_qq:PySem.W.exmOne K (.ref cq) (.ref cq)=some true)(x_aq:PySem.W.exmOne K (.ref cA) (.ref cq)=some false)(x_nq:PySem.W.exmOne K (.ref cN) (.ref cq)=some false)(x_mq:PySem.W.exmOne K (.ref cM) (.ref cq)=some false)(x_sq:PySem.W.exmOne K (.ref cS) (.ref cq)=some false)(x_tq:PySem.W.exmOne K (.ref cT) (.ref cq)=some false)(l8:bh K "_law_size" il)(iT:bh K "_law_cell_at" eK)(kO:bh K "_law_crowd" gB)(kR:bh K "_law_guest" gD)(lY:bh K "_law_deed" ik)(kQ:bh K "_law_draws" gC)(fJ:bh K "_law_draws_from" c6)(kP:bh K "_law_deeds" c5)(o8:bh K "_law_key" ji)(o7:bh K "_law_due" jh)(kN:bh K "_law_after" gA)(iU:bh K "_law_evening" eL)(lZ:bh K "_law_line" fc)(gU:bh K "_law_bad_line" dO)(gJ:bh K "_law_bent_line" dm)(gW:bh K "_law_read_due" dP)(kM:bU K C "__init__" "Hall.__init__" gz)(iV:bh K "read_number" c7)(kS:bh K "read_line" dX)(jl:bU K C "dress" "Hall.dress" fC)(kL:bU K C "come" "Hall.come" gy)(gT:bU K cN "__init__" "NoGuest.__init__" dN)(jo:bU K C "wears" "Hall.wears" fE)(o5:bU K C "go" "Hall.go" jf)(lX:bU K C "met" "Hall.met" ij)(gG:bU K C "acquaint" "Hall.acquaint" dh)(gH:bU K C "exchange" "Hall.exchange" di)(o6:bh K "do_deed" jg)(iS:bU K cq "__init__" "NoText.__init__" eJ)(rm:bh K "opened" kJ)(jp:bh K "_law_opened" fF)(iO:bU K C "guests" "Hall.guests" eE)(jn:bU K C "story" "Hall.story" fD)(iQ:bU K C "moment" "Hall.moment" eG)(gI:bU K C "partners" "Hall.partners" dj)(jm:bU K C "pairs" "Hall.pairs" dw)(iP:bU K C "inside" "Hall.inside" eF)(iR:bU K C "wearer" "Hall.wearer" eI)(jq:bh K "_law_stands" fG)(o9:bh K "_law_new" jj)(z7:bh K "law" kI)(Aq:PySem.W.nsIn K mainGlobals "len" = some none)(vJ:PySem.W.nsIn K mainGlobals "range" = some none)(j4:PySem.W.nsIn K mainGlobals "isinstance" = some none)(vK:PySem.W.nsIn K mainGlobals "tuple" = some none)(yJ:PySem.W.nsIn K mainGlobals "list" = some none)(Ap:PySem.W.nsIn K mainGlobals "int" = some none)(yH:PySem.W.nsIn K mainGlobals "bool" = some none)(An:PySem.W.nsIn K mainGlobals "all" = some none)(Ao:PySem.W.nsIn K mainGlobals "any" = some none)(sS:PySem.W.nsIn K mainGlobals "sorted" = some none)(oq:PySem.W.nsIn K mainGlobals "reversed" = some none)(At:PySem.W.nsIn K mainGlobals "set" = some none)(As:PySem.W.nsIn K mainGlobals "min" = some none)(Ar:PySem.W.nsIn K mainGlobals "max" = some none)(yI:PySem.W.nsIn K mainGlobals "dict" = some none)(Aw:PySem.W.nsIn K mainGlobals "zip" = some none)(lf:PySem.W.nsIn K mainGlobals "enumerate" = some none)(Av:PySem.W.nsIn K mainGlobals "sum" = some none)(Au:PySem.W.nsIn K mainGlobals "str" = some none) :
  ∃ fd:FuncData,(∀ (s:Shared)(v:Value),BindsTo s fd ⟨[v],[]⟩ [("_law_script",v)])/\∀ base:Heap,K.In base->base.Ns mainGlobals mg->aV l.prog w K mg base cz 10 fa fd ["_law_script"] (sO K):=by
 obtain⟨c,rfl,rfl,rfl,rfl,rfl,rfl,rfl,rfl⟩:∃ c:HX,c.C=C/\c.cW=cW/\c.cA=cA/\c.cM=cM/\c.cS=cS/\c.cT=cT/\c.cN=cN/\c.fN=fN:=⟨⟨C,cW,cA,cM,cS,cT,cN,fN⟩,rfl,rfl,rfl,rfl,rfl,rfl,rfl,rfl⟩;have T:Txt mg:=⟨Ex X G Aq,Ex X G vJ,Ex X G j4,Ex X G vK,Ex X G yJ,Ex X G Ap,Ex X G yH,Ex X G An,Ex X G Ao,Ex X G sS,Ex X G oq,Ex X G At,Ex X G As,Ex X G Ar,Ex X G yI,Ex X G Aw,Ex X G lf,Ex X G Av,Ex X G Au⟩;have U:HT K mg c:=⟨⟨pg,hd,po,sa⟩,vf,m6,m5,rY,ES X G aC,e_cA,e_cM,e_cS,e_cT,ES X G n_cA,ES X G n_cM,ES X G n_cS,ES X G n_cT,ES X G n_cN,ES X G n_cW,e_cN,⟨g1,g2,g3,g4,g5,g6,g7,g8⟩,tN,wS,wR,wI⟩;have VM:HM K c:=⟨x_aa,x_ma,x_mm,x_sa,x_sm,x_ss,x_ta,x_tm,x_ts,x_tt,x_na,x_nm,x_ns,x_nt,x_nn⟩;have UO:Ay K mg w c co cq ck:=⟨⟨⟨⟨_,ES X G n_md,⟨_,rfl⟩⟩,⟨_,ES X G n_dg,⟨_,rfl⟩⟩,ES X G n_dz,⟨by decide +kernel,dzs,[(t3,t4),(t5,t6),(t7,t8)],n1,rfl,dzo⟩⟩,i_ha,i_hn,i_ht,i_hm,i_kk⟩,e_cq,⟨p1,p2,p3,p4,p5,p6,p7,p8⟩,tQ,ES X G n_cq,x_qq,x_aq,x_nq,x_mq,x_sq,x_tq⟩;obtain⟨f_Hall_init,qi,a_Hall_init,i_Hall_init,G_Hall_init⟩:=kM;obtain⟨f_NoGuest_init,lj,a_NoGuest_init,i_NoGuest_init,G_NoGuest_init⟩:=gT;obtain⟨f_NoText_init,mD,a_NoText_init,i_NoText_init,G_NoText_init⟩:=iS
 obtain⟨f_law,AL,a_law,G_law⟩:=z7;have e:=hfa.symm.trans (ES X G a_law);cases e;have eN:=Ef (Ef (a_NoGuest_init.symm.trans b_cN))
 have eN2:f_NoGuest_init=c.fN:=by injection eN
 have eQ:=Ef (Ef (a_NoText_init.symm.trans b_cq))
 have eQ2:f_NoText_init=ck:=by injection eQ
 refine⟨AL,?_,fun base _ _=>?_⟩
 ·obtain⟨_,_,_,_,_,_,_,_,_,rfl,_,_⟩:=G_law.ex
  exact fun s v=>.of_eq rfl
 ·have bS:aA l.prog w K mg base "_law_size" 1 ["_law_cell"] kH:=oE X G l8 fun _ _ h=>sf T U VM UO h
  have bi:aA l.prog w K mg base "_law_cell_at" 1 ["_law_script","_law_k"] (om K):=oE X G iT fun _ _ h=>nw T U VM UO h;have gR:aA l.prog w K mg base "_law_crowd" 1 ["_law_cell"] lS:=oE X G kO fun _ _ h=>qG T U VM UO h;have br:aA l.prog w K mg base "_law_guest" 2 ["_law_k","_law_cell"] iG:=oE X G kR fun _ _ h=>qJ T U VM UO h bS;have i7:aA l.prog w K mg base "_law_deed" 3 ["_law_drawn","_law_many","_law_cell"] lT:=oE X G lY fun _ _ h=>sd T U VM UO h br;have gS:aA l.prog w K mg base "_law_draws" 2 ["_law_cell","_law_many","_law_base"] lU:=oE X G kQ fun _ _ h=>qI T U VM UO h bS;have da:aA l.prog w K mg base "_law_draws_from" 3 ["_law_script","_law_start","_law_most","_law_base"] (qX K):=oE X G fJ fun _ _ h=>jD T U VM UO h gS;have cO:aA l.prog w K mg base "_law_deeds" 4 ["_law_script"] (jO K):=oE X G kP fun _ _ h=>qH T U VM UO h bi gR br i7 da;have dZ:aA l.prog w K mg base "_law_key" 1 ["_law_one","_law_other"] sN:=oE X G o8 fun _ _ h=>ur T U VM UO h;have dY:aA l.prog w K mg base "_law_due" 2 ["_law_worn","_law_met","_law_deed_here"] sM:=oE X G o7 fun _ _ h=>uq T U VM UO h dZ;have cL:aA l.prog w K mg base "_law_after" 2 ["_law_worn","_law_met","_law_deed_here"] jM:=oE X G kN fun _ _ h=>qF T U VM UO h dZ;have ff:aA l.prog w K mg base "_law_evening" 6 ["_law_script"] (iF K):=oE X G iU fun _ _ h=>ny T U VM UO h cO dY cL;have i8:aA l.prog w K mg base "_law_line" 1 ["_law_deed_here"] qY:=oE X G lZ fun _ _ h=>se T U VM UO h;have d7:aA l.prog w K mg base "_law_bad_line" 1 ["_law_cell"] lR:=oE X G gU fun _ _ h=>lC T U VM UO h
  have dH:aA l.prog w K mg base "_law_bent_line" 1 ["_law_line_here","_law_cell"] jN:=oE X G gJ fun _ _ h=>ky T U VM UO h;have d8:aA l.prog w K mg base "_law_read_due" 4 ["_law_lines","_law_tail"] q8:=oE X G gW fun _ _ h=>lD T U VM UO h dY cL;have MH:CS l.prog w K mg base c:=⟨f_Hall_init,qi,⟨mk,a_Hall_init,i_Hall_init,kc⟩,qE T U VM UO G_Hall_init ,(G_Hall_init.binds (ps:=["self"]) (by intro _ _ _ _ _ _;(repeat refine BC fun _=>?_);exact BB rfl))⟩;have Cread_number:aA l.prog w K mg base "read_number" 1 ["word"] zW:=oE X G iV fun _ _ h=>nA T U VM UO h;have Cread_line:aA l.prog w K mg base "read_line" 2 ["line"] zV:=oE X G kS fun _ _ h=>qK T U VM UO h Cread_number;have bT:aG l.prog w K mg base cz c.C "dress" 1 ["self","guest","mask"] (jP c.C):=vc jl fun _ _ h=>oO T U VM UO h;have cP:aG l.prog w K mg base (iN l.prog w) c.C "come" 2 ["self","guest"] (oo c):=vc kL fun _ _ h=>qD T U VM UO h bT;have NG:jr l.prog w K mg base c:=⟨lj,eN2▸lA T U VM UO G_NoGuest_init ,(G_NoGuest_init.binds (ps:=["self","guest"]) (by intro _ _ _ _ _ _;(repeat refine BC fun _=>?_);exact BB rfl))⟩;have a9:aG l.prog w K mg base (iN l.prog w) c.C "wears" 3 ["self","guest"] (iH c):=vc jo fun _ _ h=>oR T U VM UO h NG;have j7:aG l.prog w K mg base (iN l.prog w) c.C "go" 4 ["self","guest"] (zU c):=vc o5 fun _ _ h=>um T U VM UO h a9;have i9:aG l.prog w K mg base cz c.C "met" 1 ["self","one","other"] (vy c.C):=vc lX fun _ _ h=>r9 T U VM UO h;have cG:aG l.prog w K mg base cz c.C "acquaint" 1 ["self","one","other"] (vx c.C):=vc gG fun _ _ h=>kr T U VM UO h
  have dI:aG l.prog w K mg base (iN l.prog w) c.C "exchange" 4 ["self","one","other"] (qW c):=vc gH fun _ _ h=>ku T U VM UO h a9 i9 bT cG;have Cdo_deed:f8 l.prog w K mg base "do_deed" 5 ["hall","deed"] (zT c):=DG X G o6 fun _ _ h=>uo T U VM UO h cP j7 dI;have NT:l9 l.prog w K mg base cq ck:=⟨mD,eQ2▸nv T U VM UO G_NoText_init ,(G_NoText_init.binds (ps:=["self","place"]) (by intro _ _ _ _ _ _;(repeat refine BC fun _=>?_);exact BB rfl))⟩;have Copened:f8 l.prog w K mg base "opened" 8 ["text"] (jU c cq):=DG X G rm fun _ _ h=>wx T U VM UO h MH Cread_line Cdo_deed NT;have fX:aA l.prog w K mg base "_law_opened" 9 ["_law_text"] (vA c):=oE X G jp fun _ _ h=>oS T U VM UO h Copened;have fj:aG l.prog w K mg base cz c.C "guests" 1 ["self"] (jQ c.C):=vc iO fun _ _ h=>ni T U VM UO h;have f6:aG l.prog w K mg base cz c.C "story" 1 ["self"] (lV c.C):=vc jn fun _ _ h=>oQ T U VM UO h;have fm:aG l.prog w K mg base cz c.C "moment" 1 ["self"] (jT c.C):=vc iQ fun _ _ h=>nk T U VM UO h;have dJ:aG l.prog w K mg base cz c.C "partners" 1 ["self","guest"] (gu c.C):=vc gI fun _ _ h=>kx T U VM UO h;have fZ:aG l.prog w K mg base cz c.C "pairs" 2 ["self"] (jR c.C):=vc jm fun _ _ h=>oP T U VM UO h dJ;have fk:aG l.prog w K mg base cz c.C "inside" 1 ["self","guest"] (jS c.C):=vc iP fun _ _ h=>nj T U VM UO h;have fo:aG l.prog w K mg base (iN l.prog w) c.C "wearer" 3 ["self","mask"] (jW c):=vc iR fun _ _ h=>nu T U VM UO h NG;have fY:aA l.prog w K mg base "_law_stands" 4 ["_law_hall","_law_worn","_law_met","_law_story"] (jV c):=oE X G jq fun _ _ h=>oU T U VM UO h fj f6 fm fZ fk a9 fo
  have j5:aA l.prog w K mg base "_law_new" 3 ["_law_k","_law_cell"] qZ:=oE X G o9 fun _ _ h=>ut T U VM UO h br;exact A3 T U VM UO G_law bS bi cO ff i8 d7 dH d8 fX fY cP j5
theorem walk {l:PySem.W.OpenLaw}{q:Program}{loose:List Str}{XP:(Str->Option Value)->Heap->Prop}{YP:World->Heap->Prop}{d:DefRec}{K:Params->PySem.W.Frag}(hn:l.most=some 63)(hdf:d.params.defaults=[])
  (hY:∀ (w:World)(h:Heap),YP w h->(K w.params).In h)
  (F:∀ (w:World)(mg:Str->Option Value)(fa:Addr)(h:Heap),(K w.params).In h->h.Ns mainGlobals mg->mg d.name=some (.ref fa) ->
   ∃ fd:FuncData,(∀ (s:Shared)(u:Value),BindsTo s fd ⟨[u],[]⟩ [("_law_script",u)])/\∀ base:Heap,(K w.params).In base->base.Ns mainGlobals mg->aV l.prog w (K w.params) mg base cz 10 fa fd ["_law_script"] (sO (K w.params))) :
  PySem.W.WalkO q loose XP YP l.row.toRowW d [] (fun f vs=>PySem.call f vs) :=
 L2.walk_of (n:=63) (k:=10) (x:="_law_script") (CX:=fun _=>cz) (sp:=fun w=>sO (K w.params)) hn (by decide) hdf ⟨rfl,by decide,by decide⟩ hY F (fun _ _ a ns hl _ hS=>⟨a,ns,rfl,hS,hl,fun _=>rfl⟩) fun _ _ _ _ _ z=>z
end Wk48
namespace PySem.W.Fast
def tw5588823962175674464:=0
def tw1210571216878832932:=0
def tw3628199603570142930:=0
def tw11863173469495167109:=0
def tw16788849513133464841:=0
def tw17893039524572730195:=0
def tw872285362705158302:=0
def tw11633373018666220648:=0
def tw9719807029049214923:=0
def tw16076792115927237669:=0
def tw4921956987688991520:=0
def tw13337323964373424171:=0
def tw4527334755158363127:=0
def tw453616861696020010:=0
def tw13233549409529630674:=0
def tw6644648775306811730:=0
def tw10545768225174619009:=0
def tw8401587003826138597:=0
def tw14034395439269944606:=0
def tw17127491290245691924:=0
def tw16982544744973657213:=0
def tw16141049313319702138:=0
def tw9151008547493302356:=0
def tw12739935997688089501:=0
def tw18315394925161470916:=0
def tw12082610554921677291:=0
def tw3034057762285525605:=0
def tw10828206272276056263:=0
def tw16757542199257912032:=0
def tw4356244925021467299:=0
def tw12747729767116671232:=0
def tw8794979403914094074:=0
def tw5700103575207122646:=0
def tw17145020695679502400:=0
def tw15181470072149986878:=0
def tw6920819330629049696:=0
def tw274696117226794255:=0
def tw3880320597399944770:=0
def tw3921274157701413049:=0
def tw11076397856487550241:=0
def tw7543884877131459364:=0
def tw464833976412892753:=0
def tw8779634879989663798:=0
def tw5303785011909812835:=0
def tw9746482930520348420:=0
def tw16226343352765420037:=0
def tw3701334492270930418:=0
def tw4570988563273400776:=0
def tw8887358804062703243:=0
def tw6870959138888586706:=0
def tw7674232008271388831:=0
def tw10502345237626829477:=0
def tw14666468465408526100:=0
def tw15125672013846760702:=0
def tw13068627915484064805:=0
def tw16439971967165096737:=0
def tw17726460445668777798:=0
def tw13892088060376362949:=0
def tw3167394662111329499:=0
def tw12212505259360937820:=0
def tw17193598513692780395:=0
def tw11463937108809002078:=0
def tw11503123712194207057:=0
def tw9378496376806200173:=0
def tw3824146698590928795:=0
def tw9578545487361372412:=0
def tw15460952915976977791:=0
def tw14815319173973943365:=0
def tw15160446103739380194:=0
def tw15054106750427162766:=0
def tw4937969349669853481:=0
def tw14726340681499515888:=0
def tw4252506136163869619:=0
def tw4975197112735689616:=0
def tw17733252710705955356:=0
def tw15094985475844189424:=0
def tw15875955142766251449:=0
def tw9246121825539908290:=0
def tw7236181520174881444:=0
def tw17104836258240004054:=0
def tw10371766614317983304:=0
def tw13234370443361330966:=0
def tw6080755993500551680:=0
def tw14016653168249957791:=0
def tw1354417098513994939:=0
def tw8062978834082339950:=0
def tw8419594932322014464:=0
def tw6794904598649051370:=0
def tw13901373751298066544:=0
def tw10882126226464274532:=0
def tw12374634179558526620:=0
def tw2564347776742878954:=0
def tw15817930629914491337:=0
def tw10098121362429183290:=0
def tw6653521313198066185:=0
def tw16804149250267723035:=0
def tw2602543148601878202:=0
def tw13386080870099807262:=0
def tw135104310369441399:=0
def tw11062657182904221819:=0
def tw9491057525329729790:=0
def tw8434489539124817880:=0
def tw18160848443569807496:=0
def tw16951181341616898531:=0
def tw8294340163934386109:=0
def tw14327637753705806036:=0
def tw2296688766996072465:=0
def tw15036064769117485512:=0
def tw12282530119477355790:=0
def tw5128045245077608436:=0
def tw9168395546002434956:=0
def tw3528257460047983801:=0
def tw8989116562570355769:=0
def tw14430323042127054408:=0
def tw160738002448533509:=0
def tw14313008899115367537:=0
def tw3309021682564519664:=0
def tw5207115700207323815:=0
def tw14956034615684082279:=0
def tw16204482006800609304:=0
def tw6482485931782939914:=0
def tw13878424907601440993:=0
def tw17587967938816560128:=0
def tw17011176065223124920:=0
def tw12641301757878139436:=0
def tw10249178576955410073:=0
def tw3721522771257767711:=0
def tw4255765227404912011:=0
def tw7531357065188240012:=0
def tw1657976060323387178:=0
def tw11987705395284486041:=0
def tw107553613970147055:=0
def tw12776594330833343830:=0
def tw9001439162809768395:=0
def tw15813557229434173025:=0
def tw2080972273827697652:=0
def tw13443467048362594149:=0
def tw6920754590631725121:=0
def tw8477406078791159145:=0
def tw5686674628467766293:=0
def tw1190342458593623416:=0
def tw1774581573827753423:=0
def tw2444633216797193788:=0
def tw5728523893702806584:=0
def tw935180670928743695:=0
def tw12712762434078296341:=0
def tw12648946269513031764:=0
def tw6842151670471013415:=0
def tw3576453198506737497:=0
def tw299143775664050777:=0
def tw17327433257298535481:=0
def tw5677966388020747032:=0
def tw1388360503484408256:=0
def tw7229591666089850785:=0
def tw4134670143579214839:=0
def tw7041609978479523153:=0
def tw7705340011887857455:=0
def tw13548400402646274682:=0
def tw2018334009483463586:=0
def tw7418606868112412684:=0
def tw13937704778034617575:=0
def tw15536914142768390122:=0
def tw9111506558737616121:=0
def tw7265527790886592266:=0
def tw7098059423107401014:=0
def tw14168395136565256345:=0
def tw12827181324168916784:=0
def tw14720369077671126434:=0
def tw6675859636652497840:=0
def tw17846735531209298128:=0
def tw2568945508130946006:=0
def tw5329304691291060861:=0
def tw6631264800178016440:=0
def tw14573956175791235962:=0
def tw14168759808511425994:=0
def tw13333815365320724704:=0
def tw7447856814421925073:=0
def tw5999098428522512492:=0
def tw9893927247816304573:=0
def tw4906139718277327243:=0
def tw13632294914030685466:=0
def tw11512522966583901922:=0
def tw14462475392768253146:=0
def tw9712238690142703425:=0
def tw7581750466306437285:=0
def tw17090200874220928777:=0
def tw7592565450756872296:=0
def tw2336627358127778567:=0
def tw15466292577038443858:=0
def tw1644333742728580507:=0
def tw3922892757043121305:=0
def tw1650856588755216415:=0
def tw17756922522167586735:=0
def tw17040411769079832368:=0
def tw3394641488797995065:=0
def tw15143880701044272323:=0
def tw837441674822618233:=0
def tw8898403053679681947:=0
def tw7264734982547602999:=0
def tw16843962331158428506:=0
def tw3950022732959687216:=0
def tw3463494185773768768:=0
def tw2580021283108868143:=0
def tw13862583354117108816:=0
def tw4155378600196316263:=0
def tw5968497501216100017:=0
def tw441501975351627971:=0
def tw9828641622615019252:=0
def tw7180702632815394116:=0
def tw11614281797704574852:=0
def tw1412725729639742556:=0
def tw6325064437034787158:=0
def tw15483937263050111105:=0
def tw14635050195509021246:=0
def tw104130032538016961:=0
def tw7257012148542166593:=0
def tw3483185365074712579:=0
def tw3864743568802981996:=0
def tw14951096227162763153:=0
def tw15643649263381690447:=0
def tw10735747915102631656:=0
def tw2768789622470426127:=0
def tw18442453612719273708:=0
def tw12893275681104353849:=0
def tw322636860544676912:=0
def tw5337223549213087295:=0
def tw3261512747506088457:=0
def tw11612914765807254145:=0
def tw1854140141760361773:=0
def tw1112258738524043622:=0
def tw13283977439027078929:=0
def tw17005082669429565188:=0
def tw1011750269600453463:=0
def tw18356165480900739332:=0
def tw1368300397049509463:=0
def tw1749034727310650685:=0
def tw886758039922222427:=0
def tw10053051411773009279:=0
def tw5531332634702042046:=0
def tw2794154685862771035:=0
def tw10121266154278798550:=0
def tw2293105489367349217:=0
def tw2522423513145552184:=0
def tw5040196366787669284:=0
def tw16703980639536843323:=0
def tw3476013860149325585:=0
def tw1696418043627977446:=0
def tw1674231156582846536:=0
def tw9743616232858333708:=0
end PySem.W.Fast
open PySem PySem.W PyProof.Rows
set_option maxRecDepth 100000 in
set_option maxHeartbeats 0 in
theorem PySem.Challenge.cw_lastwaltz_k48_lines_that_are_refused_holds : PySem.Challenge.rw_lastwaltz_k48_lines_that_are_refused.Holds := by
 w_on;o_law;k_head;(case hw=>w_witness2)
 k_fill
 refine Wk48.walk (l:=PySem.Challenge.rw_lastwaltz_k48_lines_that_are_refused) rfl rfl (fun w h Y=>PySem.W.kIn_of Y) ?F
 case F =>
  intro w mg fa h KX G hmg;refine' Wk48.all_mk2 KX G hmg ?aC ?n_cW ?n_cA ?n_cM ?n_cS ?n_cT ?n_cN ?b_cN ?pg ?hd ?po ?sa ?vf ?m6 ?m5 ?rY ?e_cA ?e_cM ?e_cS ?e_cT ?e_cN ?g1 ?g2 ?g3 ?g4 ?g5 ?g6 ?g7 ?g8 ?tN ?wS ?wR ?wI ?x_aa ?x_ma ?x_mm ?x_sa ?x_sm ?x_ss ?x_ta ?x_tm ?x_ts ?x_tt ?x_na ?x_nm ?x_ns ?x_nt ?x_nn ?mk ?kc ?n_md ?n_dg ?n_dz ?dzo ?dzs ?i_ha ?i_hn ?i_ht ?i_hm ?i_kk ?n_cq ?b_cq ?e_cq ?p1 ?p2 ?p3 ?p4 ?p5 ?p6 ?p7 ?p8 ?tQ ?x_qq ?x_aq ?x_nq ?x_mq ?x_sq ?x_tq ?l8 ?iT ?kO ?kR ?lY ?kQ ?fJ ?kP ?o8 ?o7 ?kN ?iU ?lZ ?gU ?gJ ?gW ?kM ?iV ?kS ?jl ?kL ?gT ?jo ?o5 ?lX ?gG ?gH ?o6 ?iS ?rm ?jp ?iO ?jn ?iQ ?gI ?jm ?iP ?iR ?jq ?o9 ?z7 ?Aq ?vJ ?j4 ?vK ?yJ ?Ap ?yH ?An ?Ao ?sS ?oq ?At ?As ?Ar ?yI ?Aw ?lf ?Av ?Au
  (case aC=>k_is)
  (case n_cW=>k_is)
  (case n_cA=>k_is)
  (case n_cM=>k_is)
  (case n_cS=>k_is)
  (case n_cT=>k_is)
  (case n_cN=>k_is)
  (case b_cN=>k_is)
  (case e_cA=>kernel_rfl)
  (case e_cM=>kernel_rfl)
  (case e_cS=>kernel_rfl)
  (case e_cT=>kernel_rfl)
  (case e_cN=>kernel_rfl)
  (case g8=>kernel_rfl)
  (case x_aa=>kernel_rfl)
  (case x_ma=>kernel_rfl)
  (case x_mm=>kernel_rfl)
  (case x_sa=>kernel_rfl)
  (case x_sm=>kernel_rfl)
  (case x_ss=>kernel_rfl)
  (case x_ta=>kernel_rfl)
  (case x_tm=>kernel_rfl)
  (case x_ts=>kernel_rfl)
  (case x_tt=>kernel_rfl)
  (case x_na=>kernel_rfl)
  (case x_nm=>kernel_rfl)
  (case x_ns=>kernel_rfl)
  (case x_nt=>kernel_rfl)
  (case x_nn=>kernel_rfl)
  (case n_md=>k_is)
  (case n_dg=>k_is)
  (case n_dz=>k_is)
  (case dzo=>exact rfl)
  (case dzs=>kernel_rfl)
  (case i_kk=>kernel_rfl)
  (case n_cq=>k_is)
  (case b_cq=>k_is)
  (case e_cq=>kernel_rfl)
  (case p8=>kernel_rfl)
  (case x_qq=>kernel_rfl)
  (case x_aq=>kernel_rfl)
  (case x_nq=>kernel_rfl)
  (case x_mq=>kernel_rfl)
  (case x_sq=>kernel_rfl)
  (case x_tq=>kernel_rfl)
  all_goals first | (refine' Wz.fact_mk ?a ?l ?c ?k;(case a=>k_is);(case l=>k_is);(case c=>k_is);(case k=>k_is)) | (refine' Wz.mfact_mk ?a ?i ?l ?c ?k;(case a=>k_is);(case i=>k_is);(case l=>k_is);(case c=>k_is);(case k=>k_is)) | k_is
