import PyProof.Rows.All
import Wide.All
import OpenK.AllK
import Wide.FinOn
import Lean
import PyProof.EqAt
import PyProof.EqKinds
import PyProof.TupleCall
import PyProof.NeData
import PyProof.DictItems
import PyProof.JoinWalk
import PyProof.CallStr
import OpenK.KOwn
import KE.KTryMore
import PyProof.EnumMake
import KE.KLam
import KE.KNestM
import KE.KEqDict
import PySem.Challenge.RW_lastwaltz_k55_whole_masks_walk_apart
set_option Elab.async false
set_option linter.all false
set_option maxRecDepth 100000
set_option maxHeartbeats 4000000
theorem Ed:type_of% @if_neg:=@if_neg
theorem Ee:type_of% @if_pos:=@if_pos
theorem Ef:type_of% @PySem.wpAny_bind:=@PySem.wpAny_bind
theorem Eg:type_of% @List.length_map:=@List.length_map
theorem Eh:type_of% @Nat.le_refl:=@Nat.le_refl
theorem Ei:type_of% @Option.some.inj:=@Option.some.inj
theorem Ej:type_of% @Bool.false_ne_true:=@Bool.false_ne_true
theorem Ek:type_of% @List.mem_cons_of_mem:=@List.mem_cons_of_mem
theorem El:type_of% @List.mem_singleton:=@List.mem_singleton
theorem Em:type_of% @PySem.Heap.lt_size:=@PySem.Heap.lt_size
theorem En:type_of% @List.mem_cons:=@List.mem_cons
theorem Eo:type_of% @PyProof.Rows.wpS_pure:=@PyProof.Rows.wpS_pure
theorem Ep:type_of% @List.mem_cons_self:=@List.mem_cons_self
theorem Er:type_of% @PySem.Paired.length:=@PySem.Paired.length
theorem Es:type_of% @PyProof.Rows.wpS_bind:=@PyProof.Rows.wpS_bind
theorem Et:type_of% @PySem.wpAny_pure:=@PySem.wpAny_pure
theorem Eu:type_of% @Nat.ne_of_lt:=@Nat.ne_of_lt
theorem Ew:type_of% @List.length_append:=@List.length_append
theorem Ex:type_of% @Ne.symm:=@Ne.symm
theorem Ey:type_of% @List.size_toArray:=@List.size_toArray
theorem Ez:type_of% @Nat.lt_of_lt_of_le:=@Nat.lt_of_lt_of_le
theorem EA:type_of% @decide_eq_false:=@decide_eq_false
theorem EB:type_of% @List.mem_append:=@List.mem_append
theorem EC:type_of% @decide_eq_true:=@decide_eq_true
theorem ED:type_of% @List.mem_append_right:=@List.mem_append_right
theorem EE:type_of% @List.map_append:=@List.map_append
theorem EF:type_of% @List.map_cons:=@List.map_cons
theorem EG:type_of% @List.mem_map:=@List.mem_map
theorem EH:type_of% @PySem.W.mg_none_of:=@PySem.W.mg_none_of
theorem EI:type_of% @Nat.le_trans:=@Nat.le_trans
theorem EJ:type_of% @Array.length_toList:=@Array.length_toList
theorem EK:type_of% @Nat.zero_le:=@Nat.zero_le
theorem EL:type_of% @Option.isSome_iff_exists:=@Option.isSome_iff_exists
theorem EM:type_of% @congrArg:=@congrArg
theorem EN:type_of% @List.mem_of_getElem?:=@List.mem_of_getElem?
theorem EO:type_of% @List.length_cons:=@List.length_cons
theorem EQ:type_of% @List.nodup_cons:=@List.nodup_cons
theorem ER:type_of% @List.pairwise_append:=@List.pairwise_append
theorem ES:type_of% @PySem.F.slot_list_append:=@PySem.F.slot_list_append
theorem ET:type_of% @PySem.F.type_list_append:=@PySem.F.type_list_append
theorem EU:type_of% @List.take_add_one:=@List.take_add_one
theorem EV:type_of% @PySem.F.plainAttrs_list:=@PySem.F.plainAttrs_list
theorem EW:type_of% @Array.toList_append:=@Array.toList_append
theorem EX:type_of% @List.mem_range:=@List.mem_range
theorem EY:type_of% @List.lookup_cons:=@List.lookup_cons
theorem EZ:type_of% @PySem.Calls.spliced_cons:=@PySem.Calls.spliced_cons
theorem E4:type_of% @PySem.wpAny_mono:=@PySem.wpAny_mono
theorem E8:type_of% @List.length_take:=@List.length_take
theorem E9:type_of% @Option.toList_some:=@Option.toList_some
theorem Fa:type_of% @PySem.PassesOwn.never:=@PySem.PassesOwn.never
theorem Fb:type_of% @PyProof.Rows.wpS_forRange:=@PyProof.Rows.wpS_forRange
theorem Fc:type_of% @PySem.W.mg_of:=@PySem.W.mg_of
theorem Fd:type_of% @Array.size_push:=@Array.size_push
theorem Fe:type_of% @List.take_length:=@List.take_length
theorem Ff:type_of% @PySem.mem_of_lookup:=@PySem.mem_of_lookup
theorem Fg:type_of% @List.append_assoc:=@List.append_assoc
theorem Fh:type_of% @List.length_singleton:=@List.length_singleton
theorem Fi:type_of% @List.map_map:=@List.map_map
theorem Fj:type_of% @List.take_append_drop:=@List.take_append_drop
theorem Fk:type_of% @PySem.W.kia_one:=@PySem.W.kia_one
theorem Fl:type_of% @PySem.Calls.evalArgs_plain:=@PySem.Calls.evalArgs_plain
theorem Fm:type_of% @List.pairwise_map:=@List.pairwise_map
theorem Fo:type_of% @beq_eq_false_iff_ne:=@beq_eq_false_iff_ne
theorem Fp:type_of% @List.getElem_of_mem:=@List.getElem_of_mem
theorem Fq:type_of% @List.extract_eq_take_drop:=@List.extract_eq_take_drop
theorem Ft:type_of% @PySem.wpAny_Call_Name_kw:=@PySem.wpAny_Call_Name_kw
theorem Fu:type_of% @PySem.wpAny_truthy_bool:=@PySem.wpAny_truthy_bool
theorem Fv:type_of% @PySem.Calls.spliced_nil:=@PySem.Calls.spliced_nil
theorem Fw:type_of% @PySem.wpAny_newObj_type:=@PySem.wpAny_newObj_type
theorem Fx:type_of% @Nat.lt_succ_of_lt:=@Nat.lt_succ_of_lt
theorem Fy:type_of% @Bool.and_eq_true:=@Bool.and_eq_true
theorem Fz:type_of% @List.length_filter_le:=@List.length_filter_le
theorem FA:type_of% @PySem.F.slot_dict_get:=@PySem.F.slot_dict_get
theorem FB:type_of% @Int.emod_lt_of_pos:=@Int.emod_lt_of_pos
theorem FC:type_of% @List.pairwise_iff_getElem:=@List.pairwise_iff_getElem
theorem FD:type_of% @PySem.sizeLine_eq:=@PySem.sizeLine_eq
theorem FE:type_of% @List.mem_append_left:=@List.mem_append_left
theorem FF:type_of% @PyProof.Rows.wpS_mono:=@PyProof.Rows.wpS_mono
theorem FG:type_of% @Array.toList_extract:=@Array.toList_extract
theorem FH:type_of% @of_decide_eq_true:=@of_decide_eq_true
theorem FI:type_of% @List.nodup_append:=@List.nodup_append
theorem FJ:type_of% @List.length_range:=@List.length_range
theorem FK:type_of% @PySem.wpAny_holding:=@PySem.wpAny_holding
theorem FL:type_of% @List.mem_map_of_mem:=@List.mem_map_of_mem
theorem FM:type_of% @List.mem_flatMap:=@List.mem_flatMap
theorem FN:type_of% @PyProof.Rows.boot_isinstance:=@PyProof.Rows.boot_isinstance
theorem FO:type_of% @beq_iff_eq:=@beq_iff_eq
theorem FP:type_of% @PySem.Calls.callWith_builtin:=@PySem.Calls.callWith_builtin
theorem FQ:type_of% @List.take_of_length_le:=@List.take_of_length_le
theorem FR:type_of% @PyProof.Rows.callWith_type1:=@PyProof.Rows.callWith_type1
theorem FS:type_of% @PySem.codeAny_mono:=@PySem.codeAny_mono
theorem FT:type_of% @PySem.tupleKind_room_in1:=@PySem.tupleKind_room_in1
theorem FU:type_of% @Nat.sub_self:=@Nat.sub_self
theorem FV:type_of% @Bool.false_eq_true:=@Bool.false_eq_true
theorem FW:type_of% @List.mem_filter:=@List.mem_filter
theorem FX:type_of% @Classical.choose_spec:=@Classical.choose_spec
theorem FY:type_of% @Int.emod_nonneg:=@Int.emod_nonneg
theorem FZ:type_of% @Prod.ext:=@Prod.ext
theorem F0:type_of% @PySem.F.excBase_ValueError:=@PySem.F.excBase_ValueError
theorem F1:type_of% @Array.mem_toList_iff:=@Array.mem_toList_iff
theorem F2:type_of% @PySem.boot_len:=@PySem.boot_len
theorem F3:type_of% @List.mergeSort_perm:=@List.mergeSort_perm
theorem F4:type_of% @List.map_congr_left:=@List.map_congr_left
theorem F5:type_of% @List.reverse_append:=@List.reverse_append
theorem F6:type_of% @Nat.lt_irrefl:=@Nat.lt_irrefl
theorem F7:type_of% @PySem.wpAny_standAt:=@PySem.wpAny_standAt
theorem F8:type_of% @List.any_cons:=@List.any_cons
theorem F9:type_of% @Nat.le_succ:=@Nat.le_succ
theorem Ga:type_of% @PySem.wpAny_field:=@PySem.wpAny_field
theorem Gb:type_of% @PySem.wpAny_pyIter_list:=@PySem.wpAny_pyIter_list
theorem Gc:type_of% @Bool.not_eq_true':=@Bool.not_eq_true'
theorem Gd:type_of% @PySem.wpAny_loadPart_at:=@PySem.wpAny_loadPart_at
theorem Ge:type_of% @Array.toList_push:=@Array.toList_push
theorem Gf:type_of% @PySem.Heap.size_push:=@PySem.Heap.size_push
theorem Gg:type_of% @List.nodup_nil:=@List.nodup_nil
theorem Gh:type_of% @PySem.wpAny_call:=@PySem.wpAny_call
namespace L2
open PySem PySem.Spec PyProof.Rows
abbrev bR:=Sum Int Str
def qj:bR->Value->Bool
 | .inl k,v=>Value.isInt k v
 | .inr x,v=>Value.isStrOf x v
def Dm (w:World):bR->Int
 | .inl k=>hashInt k
 | .inr x=>hashStr w x
theorem bM:∀ {k:bR}{v:Value},qj k v=true->(∃ i t,k=Sum.inl i/\v=Value.int i t)\/(∃ x t,k=Sum.inr x/\v=Value.str x t)
 | .inl i,v,h=>by
  obtain⟨t,e⟩:=Value.isInt_shape (k:=i) (v:=v) h;exact .inl ⟨i,t,rfl,e⟩
 | .inr x,v,h=>by
  obtain⟨t,e⟩:=Value.isStrOf_shape (x:=x) (v:=v) h;exact .inr ⟨x,t,rfl,e⟩
theorem xv (i:Int)(t:Tok):qj (.inl i) (.int i t)=true:=by simp[qj,Value.isInt]
theorem xw (x:Str)(t:Tok):qj (.inr x) (.str x t)=true:=by simp[qj,Value.isStrOf]
theorem Bc (a b:Int):decide ((Sum.inl a:bR)=Sum.inl b)=(a == b):=by
 by_cases e:a=b
 ·subst e;simp
 ·have h:¬ (Sum.inl a:bR)=Sum.inl b:=fun q=>e (Sum.inl.inj q)
  rw[EA h];exact (Fo.mpr e).symm
theorem Bg (a b:Str):decide ((Sum.inr a:bR)=Sum.inr b)=decide (a=b):=by
 by_cases e:a=b
 ·subst e;simp
 ·have h:¬ (Sum.inr a:bR)=Sum.inr b:=fun q=>e (Sum.inr.inj q)
  rw[EA h,EA e]
theorem Bd (a:Int)(b:Str):decide ((Sum.inl a:bR)=Sum.inr b)=false:=EA (fun q=>nomatch q)
theorem Be (a:Str)(b:Int):decide ((Sum.inr a:bR)=Sum.inl b)=false:=EA (fun q=>nomatch q)
def bH (prog:Program)(w:World):PySem.KeyKind prog w bR where
 is:=qj
 hash:=Dm w
 inj:=fun v a b ha hb=>by
  rcases bM ha with ⟨i,t,rfl,rfl⟩ | ⟨x,t,rfl,rfl⟩
  ·rcases bM hb with ⟨j,u,rfl,e⟩ | ⟨y,u,rfl,e⟩
   ·injection e with e1 _;rw[e1]
   ·exact nomatch e
  ·rcases bM hb with ⟨j,u,rfl,e⟩ | ⟨y,u,rfl,e⟩
   ·exact nomatch e
   ·injection e with e1 _;rw[e1]
 byValue:=fun k v h=>by
  rcases bM h with ⟨i,t,rfl,rfl⟩ | ⟨x,t,rfl,rfl⟩<;>rfl
 pyHash:=fun hv h=>by
  rcases bM hv with ⟨i,t,rfl,rfl⟩ | ⟨x,t,rfl,rfl⟩
  ·exact wpAny_pyHash_int h
  ·exact wpAny_pyHash_str h
 eqBool:=fun hu hv h=>by
  rcases bM hu with ⟨i,t,rfl,rfl⟩ | ⟨x,t,rfl,rfl⟩
  ·rcases bM hv with ⟨j,u,rfl,rfl⟩ | ⟨y,u,rfl,rfl⟩
   ·rw[Bc]at h;exact wpAny_eqBool_int h
   ·rw[Bd]at h;exact SeqAt.EqAt.int_str i t y u _ _ _ _ h
  ·rcases bM hv with ⟨j,u,rfl,rfl⟩ | ⟨y,u,rfl,rfl⟩
   ·rw[Be]at h;exact SeqAt.EqAt.str_int x t j u _ _ _ _ h
   ·rw[Bg]at h;exact wpAny_eqBool_str h
 «strs»:=fun k x t v h=>by
  rcases bM h with ⟨i,u,rfl,e⟩ | ⟨y,u,rfl,e⟩
  ·exact nomatch e
  ·injection e with e1 _
   subst e1;cases v<;>rfl
theorem tu (prog:Program)(w:World)(i:Int)(t:Tok):(bH prog w).is (.inl i) (.int i t)=true:=xv i t
theorem tw (prog:Program)(w:World)(x:Str)(t:Tok):(bH prog w).is (.inr x) (.str x t)=true:=xw x t
inductive V where
 | non | bl (b:Bool) | int (i:Int) | str (x:Str) | byt (b:Array UInt8) | flt (b:UInt64) | ref (a:Addr) | ty (n:String)
 deriving DecidableEq
def aT:V->Value->Prop
 | .non,u=>u=Value.none
 | .bl b,u=>u=Value.bool b
 | .int i,u=>∃ t,u=Value.int i t
 | .str x,u=>∃ t,u=Value.str x t
 | .byt b,u=>∃ t,u=Value.bytes b t
 | .flt b,u=>∃ t,u=Value.float b t
 | .ref a,u=>u=Value.ref a
 | .ty n,u=>u=Value.type n
abbrev aU:List V->List Value->Prop:=Paired aT
theorem aU.length {xs:List V}{us:List Value}(r:aU xs us):xs.length=us.length:=Er r
theorem aU.get:∀ {xs:List V}{us:List Value}{i:Nat}{x:V},aU xs us->xs[i]? = some x->∃ u,us[i]? = some u/\aT x u
 | _,_,_,_,.nil,e=>by simp at e
 | _,_,0,_,.cons r _,e=>by simp at e;subst e;exact⟨_,rfl,r⟩
 | _,_,i+1,x,.cons _ t,e=>by
  obtain⟨u,h1,h2⟩:=aU.get (i:=i) (x:=x) t (by simpa using e);exact⟨u,by simpa using h1,h2⟩
theorem aU.append:∀ {xs ys:List V}{us ws:List Value},aU xs us->aU ys ws->aU (xs++ys) (us++ws)
 | _,_,_,_,.nil,s=>s
 | _,_,_,_,.cons r t,s=>.cons r (aU.append t s)
theorem aU.take:∀ {xs:List V}{us:List Value}(n:Nat),aU xs us->aU (xs.take n) (us.take n)
 | _,_,0,_=>.nil
 | _,_,_+1,.nil=>.nil
 | _,_,n+1,.cons r t=>.cons r (aU.take n t)
theorem aU.drop:∀ {xs:List V}{us:List Value}(n:Nat),aU xs us->aU (xs.drop n) (us.drop n)
 | _,_,0,r=>r
 | _,_,_+1,.nil=>.nil
 | _,_,n+1,.cons _ t=>aU.drop n t
def gK:Option V->Option Value->Prop
 | some v,some u=>aT v u
 | none,none=>True
 | _,_=>False
def KV {κ:Type}:List (κ×V)->List (κ×Value)->Prop:=Paired fun (p:κ×V)(q:κ×Value)=>p.1=q.1/\aT p.2 q.2
def kV:bR->V
 | .inl i=>.int i
 | .inr x=>.str x
inductive HO where
 | lst (xs:List V)
 | tup (xs:List V)
 | dK (kvs:List (bR×V)) | dT (kvs:List (List bR×V))
 | set (S:Int->Bool) (n:Nat)
 | ins (C dx:Addr) (fs:List (Str×V))
 | own (x:Addr)
 | xd (fs:List (Str×V))
 | met (f x:Addr)
 | rng (lo hi:Int)
 | frz (o:Obj) (u:HO)
 | tbl (ps:Array Value)
 | ext (φ:Heap->Prop)
abbrev Hp:=Addr->Option HO
def upd (H:Hp)(a:Addr)(o:HO):Hp:=fun b=>if b=a then some o else H b
theorem ag {H:Hp}{a:Addr}{o:HO}:upd H a o a=some o:=by unfold upd;rw[Ee rfl]
theorem ae {H:Hp}{a b:Addr}{o:HO}(h:b≠a):upd H a o b=H b:=by unfold upd;rw[Ed h]
theorem wT {H:Hp}{a:Addr}{o u:HO}:upd (upd H a o) a u=upd H a u:=by
 funext b;unfold upd;split<;>rfl
theorem cQ {H:Hp}{a b:Addr}{o u:HO}(h:H a=some o)(h':H b=some u)(d:o≠u):a≠b:=by
 intro e;subst e;rw[h]at h';exact d (Ei h')
theorem ak {H:Hp}{a b:Addr}{o:HO}(h:H a=some o)(h':H b=none):a≠b:=by
 intro e;subst e;rw[h]at h';cases h'
section
variable (P:Program)(w:World)
def bD (H:Hp)(h:Heap)(a:Addr):HO->Prop
 | .lst xs=>xs.length<=sizeLine/\∃ (its:List Value)(n:Nat),aU xs its/\h.get? a=some { cls:=.type "list",data:=.seq its.toArray n }
 | .tup xs=>xs.length<=sizeLine/\∃ its:List Value,aU xs its/\IsTup h a its.toArray
 | .dK kvs=>kvs.length<=sizeLine/\(a == sysModules)=false/\∃ vs,KV kvs vs/\h.DictOf (bH P w) a vs
 | .dT kvs=>kvs.length<=sizeLine/\(a == sysModules)=false/\∃ xs:List (List bR×Addr×Value),
   Paired (fun (p:List bR×V)(q:List bR×Addr×Value)=>p.1=q.1/\H q.2.1=some (.tup (p.1.map kV))/\aT p.2 q.2.2) kvs xs /\
   ∃ o es ep,h.get? a=some o/\o.ExactDict/\o.data=.dict es ep/\es.toList=xs.map (entryOfKey (tupleKind (bH P w)))/\(xs.map (·.1)).Nodup
 | .set S n=>h.SetOf (intKind P w) a S n
 | .ins C dx fs=>H dx=some (.own a)/\fs.length<=1000/\dx≠a/\h.get? a=some (PySem.W.instObj C dx) /\
   ∃ mA,h.Ns1 dx mA/\(∀ f,gK (fs.lookup f) (mA f))/\PySem.Within mA (fs.map (·.1))
 | .own _=>∃ o,h.get? a=some o
 | .xd fs=>∃ mA,h.Ns1 a mA/\∀ f,gK (fs.lookup f) (mA f)
 | .rng lo hi=>∃ t u v,h.get? a=some { cls:=.type "range",data:=.fields #[.int lo t,.int hi u,.int 1 v] }
 | .frz o u=>h.get? a=some o/\bD H h a u
 | .tbl ps=>h.get? a=some { cls:=.none,data:=.fields ps }
 | .met f x=>h.get? a=some (PySem.W.methodObj (.ref f) (.ref x))
 | .ext φ=>φ h/\(∃ o,h.get? a=some o)/\∀ h1 h2:Heap,φ h1->(∀ o,h1.get? a=some o->h2.get? a=some o)->φ h2
def iJ (H:Hp)(h:Heap):Prop:=∀ a o,H a=some o->bD P w H h a o
end
section
variable {P:Program}{w:World}{H H':Hp}{h h':Heap}{a:Addr}{o:HO}
theorem bD.lt (x:bD P w H h a o):a<h.objs.size:=by
 cases o with
 | lst xs=>obtain⟨_,_,_,_,e⟩:=x;exact Em e
 | tup xs=>obtain⟨_,_,_,p⟩:=x;exact p.lt
 | dK kvs=>obtain⟨_,_,_,_,o,_,_,e,_⟩:=x;exact Em e
 | dT kvs=>obtain⟨_,_,_,_,o,_,_,e,_⟩:=x;exact Em e
 | set S n=>obtain⟨o,_,_,_,e,_⟩:=x;exact Em e
 | ins C dx fs=>obtain⟨_,_,_,e,_⟩:=x;exact Em e
 | own y=>obtain⟨_,e⟩:=x;exact Em e
 | xd fs=>obtain⟨_,⟨_,_,_,e,_⟩,_⟩:=x;exact Em e
 | rng lo hi=>obtain⟨_,_,_,e⟩:=x;exact Em e
 | frz ob u=>obtain⟨e,_⟩:=x;exact Em e
 | tbl ps=>exact Em (show h.get? a=some _ from x)
 | met f y=>exact Em (show h.get? a=some _ from x)
 | ext φ=>obtain⟨_,⟨_,e⟩,_⟩:=x;exact Em e
theorem Paired.mapP {α β:Type}{F G:α->β->Prop}:∀ {l₁:List α}{l₂:List β},Paired F l₁ l₂->(∀ a b,F a b->G a b)->Paired G l₁ l₂
 | _,_,.nil,_=>.nil
 | _,_,.cons r t,f=>.cons (f _ _ r) (Paired.mapP t f)
theorem bD.stay (x:bD P w H h a o)(k:∀ b u,(b=a\/H b=some (.own a))->h.get? b=some u->h'.get? b=some u)
  (ho:∀ b,H b=some (.own a)->H' b=some (.own a)) (ht:∀ b xs,H b=some (.tup xs)->H' b=some (.tup xs)):bD P w H' h' a o:=by
 induction o with
 | lst xs=>obtain⟨z,its,n,r,e⟩:=x;exact⟨z,its,n,r,k _ _ (.inl rfl) e⟩
 | tup xs=>obtain⟨z,its,r,ob,e,c⟩:=x;exact⟨z,its,r,ob,k _ _ (.inl rfl) e,c⟩
 | dK kvs=>obtain⟨z,y,vs,r,ob,es,ep,e,c⟩:=x;exact⟨z,y,vs,r,ob,es,ep,k _ _ (.inl rfl) e,c⟩
 | dT kvs =>
  obtain⟨z,y,xs,r,ob,es,ep,e,c⟩:=x;exact⟨z,y,xs,Paired.mapP r fun p q z=>⟨z.1,ht _ _ z.2.1,z.2.2⟩,ob,es,ep,k _ _ (.inl rfl) e,c⟩
 | set S n=>obtain⟨ob,es,ep,t,e,c⟩:=x;exact⟨ob,es,ep,t,k _ _ (.inl rfl) e,c⟩
 | ins C dx fs =>
  obtain⟨d,z,ne,e,mA,⟨od,es,ep,e2,c⟩,r⟩:=x;exact⟨ho _ d,z,ne,k _ _ (.inl rfl) e,mA,⟨od,es,ep,k _ _ (.inr d) e2,c⟩,r⟩
 | own y=>obtain⟨ob,e⟩:=x;exact⟨ob,k _ _ (.inl rfl) e⟩
 | xd fs=>obtain⟨mA,⟨od,es,ep,e,c⟩,r⟩:=x;exact⟨mA,⟨od,es,ep,k _ _ (.inl rfl) e,c⟩,r⟩
 | rng lo hi=>obtain⟨t,u,v,e⟩:=x;exact⟨t,u,v,k _ _ (.inl rfl) e⟩
 | frz ob u ih=>obtain⟨e,q⟩:=x;exact⟨k _ _ (.inl rfl) e,ih q⟩
 | tbl ps =>
  have e:h.get? a=some { cls:=.none,data:=.fields ps }:=x
  show h'.get? a=some { cls:=.none,data:=.fields ps }
  exact k a _ (.inl rfl) e
 | met f y =>
  have e:h.get? a=some (PySem.W.methodObj (.ref f) (.ref y)):=x
  show h'.get? a=some (PySem.W.methodObj (.ref f) (.ref y))
  exact k a _ (.inl rfl) e
 | ext φ=>obtain⟨p,⟨o,e⟩,st⟩:=x;exact⟨st _ _ p fun o q=>k _ _ (.inl rfl) q,⟨o,k _ _ (.inl rfl) e⟩,st⟩
theorem iJ.lt (x:iJ P w H h)(e:H a=some o):a<h.objs.size:=(x a o e).lt
theorem iJ.fresh (x:iJ P w H h)(e:h.objs.size<=a):H a=none:=by
 cases q:H a with
 | none=>rfl
 | some u=>exact absurd (Ez (x.lt q) e) (F6 _)
theorem iJ.kept (x:iJ P w H h)(k:∀ b u,h.get? b=some u->h'.get? b=some u):iJ P w H h':=fun a o e =>
 (x a o e).stay (fun b u _ q=>k b u q) (fun _ q=>q) fun _ _ q=>q
theorem iJ.laid (x:iJ P w H h)(k:∀ b u,h.get? b=some u->h'.get? b=some u)(hp:h.objs.size<=a)(new:bD P w (upd H a o) h' a o):iJ P w (upd H a o) h':=fun b u e=>by
 have hn:=x.fresh hp
 by_cases hb:b=a
 ·subst hb;rw[ag]at e;cases e;exact new
 ·rw[ae hb]at e
  exact (x b u e).stay (fun c v _ q=>k c v q) (fun c q=>by rw[ae (ak q hn)];exact q) fun c xs q=>by rw[ae (ak q hn)];exact q
end
def Rd (H:Hp)(a:Addr)(u:HO):Prop:=H a=some u\/∃ o,H a=some (.frz o u)
theorem Rd.ok {P:Program}{w:World}{H:Hp}{h:Heap}{a:Addr}{u:HO}(r:Rd H a u)(x:iJ P w H h):bD P w H h a u:=by
 rcases r with r | ⟨o,r⟩
 ·exact x a u r
 ·obtain⟨_,q⟩:=x a _ r
  exact q
def B7:Option HO->Prop
 | some (.lst _)=>True
 | some (.dK _)=>True
 | some (.dT _)=>True
 | some (.set _ _)=>True
 | some (.ins _ _ _)=>True
 | some (.ext _)=>True
 | _=>False
section
variable {P:Program}{w:World}{H:Hp}{h h':Heap}{x e:Addr}{o':HO}
theorem iJ.write (ok:iJ P w H h)(mu:B7 (H x))(he:e=x\/H e=some (.own x))(k:∀ b u,b≠e->h.get? b=some u->h'.get? b=some u)(heo:∃ u,h'.get? e=some u)
  (new:bD P w (upd H x o') h' x o'):iJ P w (upd H x o') h':=fun b u q=>by
 have nown:∀ c y,H c=some (.own y)->c≠x:=fun c y r z=>by subst z;rw[r]at mu;exact mu
 have ntup:∀ c xs,H c=some (.tup xs)->c≠x:=fun c xs r z=>by subst z;rw[r]at mu;exact mu
 by_cases hb:b=x
 ·subst hb;rw[ag]at q;cases q;exact new
 ·rw[ae hb]at q
  by_cases hbe:b=e
  ·have q':H b=some (.own x):=by
    rcases he with z | z
    ·exact absurd (hbe.trans z) hb
    ·rw[hbe];exact z
   rw[q]at q';cases q';obtain⟨v,hv⟩:=heo;exact⟨v,by rw[hbe];exact hv⟩
  ·refine (ok b u q).stay (fun c v hc r=>k c v ?_ r) (fun c r=>by rw[ae (nown c b r)];exact r) fun c xs r=>by rw[ae (ntup c xs r)];exact r
   rcases hc with rfl | hc
   ·exact hbe
   ·rintro rfl
    rcases he with z | z
    ·exact nown c b hc z
    ·rw[hc]at z;cases z;exact hb rfl
end
structure Un (fs ex:List Addr)(H H':Hp)(h h':Heap):Prop where
 keep:∀ b o,h.get? b=some o->H b=none->b∉fs->b∉ex->h'.get? b=some o
 slot:∀ b o,h.get? b=some o->H b=none->b∈fs->b∉ex->∃ sl,h'.get? b=some { o with slots:=sl }
 free:∀ b o,h.get? b=some o->H b=none->b∉ex->H' b=none
 there:∀ b o,h.get? b=some o->b∉ex->∃ o',h'.get? b=some o'
 tups:∀ b xs,H b=some (.tup xs)->H' b=some (.tup xs)
 frzs:∀ b o u,H b=some (.frz o u)->H' b=some (.frz o u)
 tbls:∀ b ps,H b=some (.tbl ps)->∃ more,H' b=some (.tbl (ps++more))
section
variable {fs fs' ex ex':List Addr}{H H1 H2:Hp}{h h1 h2 h':Heap}{a x e:Addr}{o:HO}
theorem Un.any (u:Un fs ex H H1 h h1){b:Addr}{ob:Obj}(q:h.get? b=some ob)(n:H b=none)(hx:b∉ex):∃ sl,h1.get? b=some { ob with slots:=sl }:=by
 by_cases hb:b∈fs
 ·exact u.slot b ob q n hb hx
 ·exact⟨ob.slots,u.keep b ob q n hb hx⟩
theorem Un.kept (k:∀ b u,h.get? b=some u->h'.get? b=some u):Un fs ex H H h h' :=
 ⟨fun b ob q _ _ _=>k b ob q,fun b ob q _ _ _=>⟨ob.slots,k b ob q⟩,fun _ _ _ n _=>n,fun b ob q _=>⟨ob,k b ob q⟩,fun _ _ q=>q,fun _ _ _ q=>q,fun _ ps q=>⟨#[],by rw[q];simp⟩⟩
theorem Un.refl:Un fs ex H H h h:=Un.kept fun _ _ q=>q
theorem Un.laid (k:∀ b u,h.get? b=some u->h'.get? b=some u)(hp:h.objs.size<=a)(hn:H a=none):Un fs ex H (upd H a o) h h' where
 keep:=fun b u q _ _ _=>k b u q
 slot:=fun b u q _ _ _=>⟨u.slots,k b u q⟩
 free:=fun b u q n _=>by rw[ae (Eu (Ez (Em q) hp))];exact n
 there:=fun b u q _=>⟨u,k b u q⟩
 tups:=fun b xs q=>by rw[ae (ak q hn)];exact q
 frzs:=fun b u xs q=>by rw[ae (ak q hn)];exact q
 tbls:=fun b ps q=>⟨#[],by rw[ae (ak q hn),q];simp⟩
theorem Un.write (mu:B7 (H x))(he:e=x\/H e=some (.own x))(k:∀ b u,b≠e->h.get? b=some u->h'.get? b=some u)(heo:∃ u,h'.get? e=some u):Un fs ex H (upd H x o) h h':=by
 have hx:∀ b,H b=none->b≠x:=fun b n z=>by subst z;rw[n]at mu;exact mu
 have hb:∀ b,H b=none->b≠e:=fun b n z=>by
  subst z;rcases he with r | r
  ·exact hx b n r
  ·rw[n]at r;cases r
 have hm:∀ b u,H b=some u->¬ B7 (some u)->b≠x:=fun b u q nm z=>by subst z;rw[q]at mu;exact nm mu
 refine⟨fun b u q n _ _=>k b u (hb b n) q,fun b u q n _ _=>⟨u.slots,k b u (hb b n) q⟩,fun b u q n _=>by rw[ae (hx b n)];exact n,fun b u q _=>?_,
  fun b xs q=>by rw[ae (hm b _ q fun z=>z)];exact q,fun b u xs q=>by rw[ae (hm b _ q fun z=>z)];exact q,fun b ps q=>⟨#[],by rw[ae (hm b _ q fun z=>z),q];simp⟩⟩
 by_cases hbe:b=e
 ·subst hbe;exact heo
 ·exact⟨u,k b u hbe q⟩
end
def C1 (h:Heap)(H:Hp):List Addr:=(List.range h.objs.size).filter fun a=>(H a).isSome
def q8 (h:Heap)(H:Hp):Heap:=PySem.W.hideAll h (C1 h H)
theorem xq (h:Heap)(H:Hp):(q8 h H).objs.size=h.objs.size:=PySem.W.hideAll_size _ _
theorem oG {h:Heap}{H:Hp}{b:Addr}{o:Obj}(e:h.get? b=some o)(n:H b=none):(q8 h H).get? b=some o :=
 PySem.W.hideAll_get _ e fun hm=>by
  have q:(H b).isSome=true:=(FW.mp hm).2;rw[n]at q;simp at q
theorem Ad {h:Heap}{H:Hp}{b:Addr}{o:Obj}(e:(q8 h H).get? b=some o):h.get? b=some o/\H b=none:=by
 have e':h.get? b=some o:=PySem.W.of_hideAll (C1 h H) e;refine⟨e',?_⟩
 cases q:H b with
 | none=>rfl
 | some x =>
  have hm:b∈C1 h H:=FW.mpr ⟨EX.mpr (Em e'),by simp[q]⟩;have z:(q8 h H).get? b=none:=PySem.W.hideAll_none (C1 h H) hm;rw[z]at e;cases e
structure Mod (K:PySem.W.Frag)(mg:Str->Option Value)(base:Heap):Prop where
 kin:K.In base
 glob:base.Ns mainGlobals mg
 blt:∃ mb,base.Ns builtinsNs mb/\∀ x:Str,x≠"__name__"->mb x=bootBuiltins x
 nolimit:base.NoLimit
structure Cx where
 prog:Program
 w:World
 K:PySem.W.Frag
 mg:Str->Option Value
 base:Heap
 A:Around
 N:List Str
 s₀:Shared
 H₀:Hp
 env:Env
 outer:List Env
 stack:List Env
 ex:List Addr
 fn:Str->Bool
 calm:Bool
 pn:List (Addr×Obj)
 xe:Value->Shared->Prop
def iR (l:List Env):List Addr:=l.filterMap (·.frame)
abbrev Cx.fs (X:Cx):List Addr:=iR X.outer
def CW (sc:Scope)(x:Str):Prop:=sc.names.lookup x=some .local\/sc.names.lookup x=some .cell\/sc.names.lookup x=some .free
def BS (sc:Scope)(x:Str):Prop:=sc.names.lookup x=some .local\/sc.names.lookup x=some .cell
def Da (env:Env)(h:Heap)(m:Str->Option Value)(x:Str)(u:Value):Prop :=
 (env.kindOf x=some .local/\m x=some u)\/((env.kindOf x=some .cell\/env.kindOf x=some .free)/\∃ c,env.cells.lookup x=some c/\h.IsCell c (some u))
structure Cx.Ok (X:Cx):Prop where
 mod:Mod X.K X.mg X.base
 kind:X.env.scope.kind=.function
 glob:X.env.globals=mainGlobals
 blt:X.env.builtins=builtinsNs
 above:X.s₀.heap.objs.size<=X.env.locals
 inj:∀ x y c,X.env.cells.lookup x=some c->X.env.cells.lookup y=some c->x=y
 has:∀ x,(X.env.kindOf x=some .cell\/X.env.kindOf x=some .free)->∃ c,X.env.cells.lookup x=some c
 cab:∀ x c,X.fn x=true->X.env.cells.lookup x=some c->X.s₀.heap.objs.size<=c
 hd:X.calm=true->X.A.handled=none
 frames:X.A.frames=some X.stack
 stk:X.stack=X.outer\/(X.stack=X.env::X.outer/\X.env.frame=some X.env.locals)
 exf:∀ b∈X.ex,b≠X.env.locals/\∀ x c,X.env.cells.lookup x=some c->c≠b
 bs:∀ b o,X.base.get? b=some o->X.s₀.heap.get? b=some o/\X.H₀ b=none
 bsz:X.base.objs.size<=X.s₀.heap.objs.size
 noex:∀ b o,X.base.get? b=some o->b∉X.ex
 exfs:∀ b∈X.ex,b∉X.fs
 funs:X.s₀.heap.FunFrames X.base X.outer
 frf:∀ b∈X.fs,X.H₀ b=none
structure aw (X:Cx)(pins:List (Addr×Obj))(σ:List (Option V))(H:Hp)(s:Shared):Prop where
 ok:X.Ok
 os:s.os=X.s₀.os
 bare:AllBare s.gens
 base:Un X.fs X.ex X.H₀ H X.s₀.heap s.heap
 loc:∃ m,s.heap.Ns X.env.locals m/\∀ (i:Nat)(x:Str)(v:V),X.N[i]? = some x->σ[i]? = some (some v)->CW X.env.scope x->∃ u,aT v u/\Da X.env s.heap m x u
 cell:∀ x c,X.env.cells.lookup x=some c->∃ v,s.heap.IsCell c v
 free:H X.env.locals=none
 freeC:∀ x c,X.env.cells.lookup x=some c->H c=none
 pin:∀ p∈X.pn++pins,s.heap.get? p.1=some p.2/\H p.1=none/\p.1≠X.env.locals/\p.1∉X.fs/\∀ v,p.2.data≠.cell v
 hok:iJ X.prog X.w H s.heap
 len:σ.length=X.N.length
section
variable {X:Cx}{pins:List (Addr×Obj)}{σ:List (Option V)}{H H':Hp}{s:Shared}{h':Heap}
theorem Cx.Ok.nofr (ok:X.Ok){b:Addr}{o:Obj}(e:X.base.get? b=some o):b∉X.fs:=fun hb=>by
 have:=(ok.funs.mem hb).1;rw[e]at this;cases this
theorem aw.bs (I:aw X pins σ H s):∀ b o,X.base.get? b=some o->s.heap.get? b=some o/\H b=none:=fun b o e =>
 ⟨I.base.keep b o (I.ok.bs b o e).1 (I.ok.bs b o e).2 (I.ok.nofr e) (I.ok.noex b o e),I.base.free b o (I.ok.bs b o e).1 (I.ok.bs b o e).2 (I.ok.noex b o e)⟩
theorem aw.bk (I:aw X pins σ H s):∀ b o,X.base.get? b=some o->s.heap.get? b=some o:=fun b o e=>(I.bs b o e).1
theorem aw.mod (I:aw X pins σ H s):Mod X.K X.mg X.base:=I.ok.mod
theorem aw.kIn (I:aw X pins σ H s):X.K.In s.heap:=I.ok.mod.kin.keeps I.bk
theorem aw.lt (I:aw X pins σ H s):X.env.locals<s.heap.objs.size:=let ⟨_,hn,_⟩:=I.loc;hn.lt
theorem aw.sz (I:aw X pins σ H s):X.s₀.heap.objs.size<=s.heap.objs.size:=EI I.ok.above (Nat.le_of_lt I.lt)
theorem aw.nofs (I:aw X pins σ H s){a:Addr}(h:s.heap.objs.size<=a):a∉X.fs:=fun hb=>by
 obtain⟨_,o,ho,_⟩:=I.ok.funs.mem hb;exact absurd (Ez (Em ho) (EI I.sz h)) (F6 _)
theorem aw.cne (I:aw X pins σ H s):∀ x c,X.env.cells.lookup x=some c->c≠X.env.locals:=fun x c e z=>by
 obtain⟨v,o,ho,hd⟩:=I.cell x c e;obtain⟨m,⟨o',es,ep,ho',hd',_⟩,_⟩:=I.loc;rw[z,ho']at ho;cases ho;rw[hd']at hd;cases hd
theorem aw.funs (I:aw X pins σ H s):s.heap.FunFrames X.base X.outer:=by
 have all:∀ (l:List Env),(∀ b∈iR l,b∈X.fs)->X.s₀.heap.FunFrames X.base l->s.heap.FunFrames X.base l:=by
  intro l
  induction l with
  | nil=>intro _ _;trivial
  | cons env r ih =>
   intro hs hl;obtain⟨hk,⟨L,o,hf,hn,ho,hd⟩,hr⟩:=hl;have hL:L∈X.fs:=hs L (by unfold iR;rw[List.filterMap_cons,hf];exact Ep);obtain⟨sl,e⟩:=I.base.slot L o ho (I.ok.frf L hL) hL fun z=>I.ok.exfs L z hL;exact⟨hk,⟨L,_,hf,hn,e,hd⟩,ih (fun b hb=>hs b (by unfold iR;rw[List.filterMap_cons,hf];exact Ek _ hb)) hr⟩
 exact all X.outer (fun _ hb=>hb) I.ok.funs
theorem aw.stack (I:aw X pins σ H s):s.heap.FunFrames X.base X.stack:=by
 rcases I.ok.stk with e | ⟨e,hf⟩
 ·rw[e];exact I.funs
 ·rw[e]
  obtain⟨m,hn,_⟩:=I.loc;refine .cons (by rw[I.ok.kind];decide) hf hn ?_ I.funs;exact Heap.get?_none_of_le (EI I.ok.bsz I.ok.above)
theorem aw.stkSub (I:aw X pins σ H s):∀ b∈iR X.stack,b∈X.env.locals::X.fs:=fun b hb=>by
 rcases I.ok.stk with e | ⟨e,hf⟩
 ·rw[e]at hb;exact Ek _ hb
 ·rw[e]at hb
  unfold iR at hb;rw[List.filterMap_cons,hf]at hb;exact hb
theorem aw.stkFree (I:aw X pins σ H s):∀ b∈iR X.stack,H b=none:=fun b hb=>by
 rcases En.mp (I.stkSub b hb) with e | hb
 ·rw[e];exact I.free
 ·obtain⟨_,o,ho,_⟩:=I.ok.funs.mem hb
  exact I.base.free b o ho (I.ok.frf b hb) fun z=>I.ok.exfs b z hb
theorem aw.step {g':Array GenState}{t':Nat}{d':Drawn}{ch:List Addr}(I:aw X pins σ H s)
  (hch:∀ b∈ch,(b∈X.ex\/X.s₀.heap.objs.size<=b)/\b≠X.env.locals/\(∀ x c,X.env.cells.lookup x=some c->c≠b)/\∀ p∈X.pn++pins,p.1≠b)
  (keep:∀ b o,b≠X.env.locals->b∉X.fs->b∉ch->s.heap.get? b=some o->H b=none->h'.get? b=some o)
  (slot:∀ b o,b≠X.env.locals->b∈X.fs->b∉ch->s.heap.get? b=some o->H b=none->∃ sl,h'.get? b=some { o with slots:=sl }) (free:∀ b o,b∉ch->s.heap.get? b=some o->H b=none->H' b=none)
  (there:∀ b o,b∉ch->s.heap.get? b=some o->∃ o',h'.get? b=some o')
  (tups:∀ b xs,H b=some (.tup xs)->H' b=some (.tup xs)) (frzs:∀ b o u,H b=some (.frz o u)->H' b=some (.frz o u)) (tbls:∀ b ps,H b=some (.tbl ps)->∃ more,H' b=some (.tbl (ps++more)))
  (ns:∀ m,s.heap.Ns X.env.locals m->h'.Ns X.env.locals m) (hok:iJ X.prog X.w H' h') (hg:AllBare g') :
  aw X pins σ H' { s with heap:=h',gens:=g',drawn:=d',toks:=t' }:=by
 have neL:∀ b o,X.s₀.heap.get? b=some o->b≠X.env.locals:=fun b o e=>Eu (Ez (Em e) I.ok.above)
 have neC:∀ b o,X.s₀.heap.get? b=some o->b∉X.ex->b∉ch:=fun b o e hx hb=>by
  rcases (hch b hb).1 with z | z
  ·exact hx z
  ·exact absurd (Ez (Em e) z) (F6 _)
 have cellK:∀ x c,X.env.cells.lookup x=some c->∀ v,s.heap.IsCell c v->h'.IsCell c v:=fun x c e v ⟨o,ho,hd⟩=>by
  have nch:c∉ch:=fun z=>(hch c z).2.2.1 x c e rfl
  by_cases hc:c∈X.fs
  ·obtain⟨sl,q⟩:=slot c o (I.cne x c e) hc nch ho (I.freeC x c e)
   exact⟨_,q,hd⟩
  ·exact⟨o,keep c o (I.cne x c e) hc nch ho (I.freeC x c e),hd⟩
 refine⟨I.ok,I.os,hg,⟨fun b o e n hb hx=>?_,fun b o e n hb hx=>?_,fun b o e n hx=>?_,fun b o e hx=>?_,fun b xs e=>tups b xs (I.base.tups b xs e),fun b o xs e=>frzs b o xs (I.base.frzs b o xs e),fun b ps e=>?_⟩,?_,fun x c e=>?_,?_,fun x c e=>?_,fun p hp=>?_,hok,I.len⟩
 ·exact keep b o (neL b o e) hb (neC b o e hx) (I.base.keep b o e n hb hx) (I.base.free b o e n hx)
 ·obtain⟨sl,e1⟩:=I.base.slot b o e n hb hx
  obtain⟨sl',e2⟩:=slot b _ (neL b o e) hb (neC b o e hx) e1 (I.base.free b o e n hx);exact⟨sl',e2⟩
 ·obtain⟨o',e1⟩:=I.base.there b o e hx
  exact free b o' (neC b o e hx) e1 (I.base.free b o e n hx)
 ·obtain⟨o',e1⟩:=I.base.there b o e hx
  exact there b o' (neC b o e hx) e1
 ·obtain⟨m1,e1⟩:=I.base.tbls b ps e
  obtain⟨m2,e2⟩:=tbls b _ e1;exact⟨m1++m2,by rw[e2,Array.append_assoc]⟩
 ·obtain⟨m,hn,hl⟩:=I.loc
  refine⟨m,ns m hn,fun i x v e1 e2 e3=>?_⟩;obtain⟨u,r,l⟩:=hl i x v e1 e2 e3;refine⟨u,r,?_⟩;rcases l with l | ⟨k,c,e,z⟩
  ·exact .inl l
  ·exact .inr ⟨k,c,e,cellK x c e _ z⟩
 ·obtain⟨v,z⟩:=I.cell x c e
  exact⟨v,cellK x c e v z⟩
 ·obtain⟨m,⟨o,_,_,ho,_⟩,_⟩:=I.loc
  exact free _ o (fun z=>(hch _ z).2.1 rfl) ho I.free
 ·obtain⟨v,o,ho,hd⟩:=I.cell x c e
  exact free c o (fun z=>(hch c z).2.2.1 x c e rfl) ho (I.freeC x c e)
 ·obtain⟨e,n,ne,nf,d⟩:=I.pin p hp
  have nch:p.1∉ch:=fun z=>(hch p.1 z).2.2.2 p hp rfl;exact⟨keep p.1 p.2 ne nf nch e n,free p.1 p.2 nch e n,ne,nf,d⟩
theorem aw.un {t':Nat}(I:aw X pins σ H s)(u:Un X.fs [] H H' s.heap h')(hok:iJ X.prog X.w H' h'):aw X pins σ H' { s with heap:=h',toks:=t' }:=by
 obtain⟨m,⟨o,es,ep,ho,r⟩,_⟩:=id I.loc;obtain⟨sl,hL⟩:=u.any ho I.free (by simp)
 exact I.step (g':=s.gens) (d':=s.drawn) (ch:=[]) (fun _ z=>nomatch z) (fun b o _ hb _ e n=>u.keep b o e n hb (by simp)) (fun b o _ hb _ e n=>u.slot b o e n hb (by simp)) (fun b o _ e n=>u.free b o e n (by simp)) (fun b o _ e=>u.there b o e (by simp)) u.tups u.frzs u.tbls (fun m' hm=>by
  obtain⟨o',es',ep',ho',r'⟩:=hm;rw[ho]at ho';cases ho'
  exact⟨_,es',ep',hL,r'⟩) hok I.bare
theorem aw.call {g':Array GenState}{t':Nat}{d':Drawn}{ch:List Addr}(I:aw X pins σ H s)(u:Un (iR X.stack) ch H H' s.heap h')(hok:iJ X.prog X.w H' h')(hg:AllBare g')
  (hch:∀ b∈ch,(b∈X.ex\/X.s₀.heap.objs.size<=b)/\b≠X.env.locals/\(∀ x c,X.env.cells.lookup x=some c->c≠b)/\∀ p∈X.pn++pins,p.1≠b) :
  aw X pins σ H' { s with heap:=h',gens:=g',drawn:=d',toks:=t' }:=by
 obtain⟨m,⟨o,es,ep,ho,r⟩,_⟩:=id I.loc;obtain⟨sl,hL⟩:=u.any ho I.free fun z=>(hch _ z).2.1 rfl
 exact I.step (ch:=ch) hch (fun b o hL hb hc e n=>u.keep b o e n (fun z=>(En.mp (I.stkSub b z)).elim hL hb) hc) (fun b o _ _ hc e n=>u.any e n hc) (fun b o hc e n=>u.free b o e n hc) (fun b o hc e=>u.there b o e hc) u.tups u.frzs u.tbls (fun m' hm=>by
  obtain⟨o',es',ep',ho',r'⟩:=hm;rw[ho]at ho';cases ho'
  exact⟨_,es',ep',hL,r'⟩) hok hg
theorem aw.turned {t':Nat}{it:Addr}(I:aw X pins σ H s)(k:∀ b o,b≠it->s.heap.get? b=some o->h'.get? b=some o)(hn:H it=none)(hL:it≠X.env.locals)
  (h1:it∈X.ex\/X.s₀.heap.objs.size<=it) (h2:∀ x c,X.env.cells.lookup x=some c->c≠it) (h3:∀ p∈X.pn++pins,p.1≠it):aw X pins σ H { s with heap:=h',toks:=t' }:=by
 have nit:∀ b u,H b=some u->b≠it:=fun b u e z=>by rw[z,hn]at e;cases e
 refine I.step (g':=s.gens) (d':=s.drawn) (ch:=[it]) (fun b hb=>?_) (fun b o _ _ hc e _=>k b o (fun z=>hc (by simp[z])) e) (fun b o _ _ hc e _=>⟨o.slots,k b o (fun z=>hc (by simp[z])) e⟩) (fun _ _ _ _ n=>n)
  (fun b o hc e=>⟨o,k b o (fun z=>hc (by simp[z])) e⟩) (fun _ _ e=>e) (fun _ _ _ e=>e) (fun b ps e=>⟨#[],by rw[e];simp⟩) (fun m hm=>?_) (fun b u e=>?_) I.bare
 ·have e:b=it:=by simpa using hb
  subst e;exact⟨h1,hL,h2,h3⟩
 ·obtain⟨o,es,ep,ho,r⟩:=hm
  exact⟨o,es,ep,k _ o (Ex hL) ho,r⟩
 ·refine (I.hok b u e).stay (fun c v hc q=>k c v ?_ q) (fun _ q=>q) fun _ _ q=>q
  rcases hc with z | z
  ·rw[z];exact nit b u e
  ·exact nit c _ z
theorem aw.tok (I:aw X pins σ H s)(t:Nat):aw X pins σ H { s with toks:=t }:=I.un (h':=s.heap) (t':=t) Un.refl I.hok
theorem aw.kept {t':Nat}(I:aw X pins σ H s)(k:∀ b u,s.heap.get? b=some u->h'.get? b=some u):aw X pins σ H { s with heap:=h',toks:=t' }:=I.un (Un.kept k) (I.hok.kept k)
theorem aw.laid {a:Addr}{o:HO}{t':Nat}(I:aw X pins σ H s)(k:∀ b u,s.heap.get? b=some u->h'.get? b=some u)(hp:s.heap.objs.size<=a)(new:bD X.prog X.w (upd H a o) h' a o) :
  aw X pins σ (upd H a o) { s with heap:=h',toks:=t' }:=I.un (Un.laid k hp (I.hok.fresh hp)) (I.hok.laid k hp new)
theorem aw.write {x e:Addr}{o:HO}{t':Nat}(I:aw X pins σ H s)(mu:B7 (H x))(he:e=x\/H e=some (.own x))(k:∀ b u,b≠e->s.heap.get? b=some u->h'.get? b=some u)(heo:∃ u,h'.get? e=some u)
  (new:bD X.prog X.w (upd H x o) h' x o):aw X pins σ (upd H x o) { s with heap:=h',toks:=t' }:=I.un (Un.write mu he k heo) (I.hok.write mu he k heo new)
theorem aw.pins_of {pins':List (Addr×Obj)}(I:aw X pins σ H s)(h:∀ p∈pins',s.heap.get? p.1=some p.2/\H p.1=none/\p.1≠X.env.locals/\p.1∉X.fs/\∀ v,p.2.data≠.cell v):aw X pins' σ H s :=
 ⟨I.ok,I.os,I.bare,I.base,I.loc,I.cell,I.free,I.freeC,fun p hp=>(EB.mp hp).elim (fun z=>I.pin p (FE _ z)) (h p),I.hok,I.len⟩
theorem tO {N:List Str}(hN:N.Nodup){i j:Nat}{x:Str}(a:N[i]? = some x)(b:N[j]? = some x):i=j:=by
 obtain⟨h1,e1⟩:=List.getElem?_eq_some_iff.mp a;obtain⟨h2,e2⟩:=List.getElem?_eq_some_iff.mp b;exact (List.getElem_inj hN).mp (e1.trans e2.symm)
theorem qB {M:Model}{A:Around}{E:Value->Shared->Prop}{i:Nat}{x:Str}{v:V}{u:Value}{Q:Unit->Shared->Prop}(I:aw X pins σ H s)(hN:X.N.Nodup)(hi:X.N[i]? = some x)(hx:BS X.env.scope x)(r:aT v u)
  (h:∀ s',aw X pins (σ.set i (some v)) H s'->(∃ a,Heap.SameBut a s.heap s'.heap/\(a=X.env.locals\/X.env.cells.lookup x=some a))->Q () s') (hf:X.fn x=true\/X.env.scope.names.lookup x=some .local:=by first | exact .inl rfl | exact .inr rfl | assumption):wpAny M A (storeName X.env x u) Q E s:=by
 obtain⟨m,hn,hl⟩:=id I.loc
 have hcls:(X.env.scope.kind == .class||(X.env.scope.kind == .module&&X.env.locals != X.env.globals))=false:=by rw[I.ok.kind];rfl
 have hiσ:i<σ.length:=by rw[I.len];exact (List.getElem?_eq_some_iff.mp hi).1
 have cne:=I.cne
 have tracked:∀ {a:Addr}{h':Heap},(∃ o,s.heap.get? a=some o/\H a=none)->Heap.SameBut a s.heap h'->iJ X.prog X.w H h':=fun {a h'} ha hs b ob e=>by
  obtain⟨_,_,hfree⟩:=ha;refine (I.hok b ob e).stay (fun c w' hc q=>(hs.2 c ?_).trans q) (fun _ q=>q) fun _ _ q=>q;rintro rfl;rcases hc with rfl | hc
  ·rw[hfree]at e;cases e
  ·rw[hfree]at hc;cases hc
 rcases hx with hk | hk
 ·refine wpAny_storeName_local hk hn (fun h' hn' hs=>?_) hcls
  obtain⟨oL,_,_,hoL,_⟩:=id hn;refine h _ ⟨I.ok,I.os,I.bare,⟨fun b o e n hb hx=>?_,fun b o e n hb hx=>?_,I.base.free,fun b o e hx=>?_,I.base.tups,I.base.frzs,I.base.tbls⟩,⟨_,hn',fun j y v' e1 e2 e3=>?_⟩,fun y c e=>?_,I.free,I.freeC,fun p hp=>?_,tracked ⟨oL,hoL,I.free⟩ hs,by simpa using I.len⟩ ⟨_,hs,.inl rfl⟩
  ·exact (hs.2 b (Eu (Ez (Em e) I.ok.above))).trans (I.base.keep b o e n hb hx)
  ·obtain⟨sl,e1⟩:=I.base.slot b o e n hb hx
   exact⟨sl,(hs.2 b (Eu (Ez (Em e) I.ok.above))).trans e1⟩
  ·obtain⟨o',e1⟩:=I.base.there b o e hx
   exact⟨o',(hs.2 b (Eu (Ez (Em e) I.ok.above))).trans e1⟩
  ·by_cases hj:j=i
   ·subst hj
    rw[hi]at e1;cases e1;rw[List.getElem?_set_self hiσ]at e2;cases e2;exact⟨u,r,.inl ⟨hk,by simp⟩⟩
   ·rw[List.getElem?_set_ne (Ex hj)]at e2
    obtain⟨u',r',q⟩:=hl j y v' e1 e2 e3;refine⟨u',r',?_⟩;rcases q with ⟨k,e⟩ | ⟨k,c,e,z⟩
    ·refine .inl ⟨k,?_⟩
     have:y≠x:=fun e=>hj (tO hN e1 (e▸hi));simp[this,e]
    ·exact .inr ⟨k,c,e,z.sameBut hs (cne y c e)⟩
  ·obtain⟨w',z⟩:=I.cell y c e
   exact⟨w',z.sameBut hs (cne y c e)⟩
  ·obtain⟨e,n,ne,nf,d⟩:=I.pin p hp
   exact⟨(hs.2 p.1 ne).trans e,n,ne,nf,d⟩
 ·have hfn:X.fn x=true:=by
   rcases hf with z | z
   ·exact z
   ·rw[z]at hk;cases hk
  obtain⟨c,hc⟩:=I.ok.has x (.inl hk);obtain⟨w',z⟩:=I.cell x c hc;refine wpAny_storeName_cell I.ok.kind hk hc z (fun h' hc' hs=>?_);obtain⟨oc,hoc,hocd⟩:=id z;refine h { s with heap:=h' } ⟨I.ok,I.os,I.bare,⟨fun b o e n hb hx=>?_,fun b o e n hb hx=>?_,I.base.free,fun b o e hx=>?_,I.base.tups,I.base.frzs,I.base.tbls⟩,⟨m,hn.sameBut hs (Ex (cne x c hc)),fun j y v' e1 e2 e3=>?_⟩,fun y c' e=>?_,I.free,I.freeC,fun p hp=>?_,tracked ⟨oc,hoc,I.freeC x c hc⟩ hs,by simpa using I.len⟩ ⟨c,hs,.inr hc⟩
  ·exact (hs.2 b (Eu (Ez (Em e) (I.ok.cab x c hfn hc)))).trans (I.base.keep b o e n hb hx)
  ·obtain⟨sl,e1⟩:=I.base.slot b o e n hb hx
   exact⟨sl,(hs.2 b (Eu (Ez (Em e) (I.ok.cab x c hfn hc)))).trans e1⟩
  ·obtain⟨o',e1⟩:=I.base.there b o e hx
   exact⟨o',(hs.2 b (Eu (Ez (Em e) (I.ok.cab x c hfn hc)))).trans e1⟩
  ·by_cases hj:j=i
   ·subst hj
    rw[hi]at e1;cases e1;rw[List.getElem?_set_self hiσ]at e2;cases e2;exact⟨u,r,.inr ⟨.inl hk,c,hc,hc'⟩⟩
   ·rw[List.getElem?_set_ne (Ex hj)]at e2
    obtain⟨u',r',q⟩:=hl j y v' e1 e2 e3;refine⟨u',r',?_⟩;rcases q with q | ⟨k,c',e,z'⟩
    ·exact .inl q
    ·refine .inr ⟨k,c',e,z'.sameBut hs ?_⟩
     rintro rfl;exact hj (tO hN e1 (I.ok.inj _ _ _ e hc▸hi))
  ·by_cases hcc:c'=c
   ·subst hcc;exact⟨_,hc'⟩
   ·obtain⟨w2,z2⟩:=I.cell y c' e
    exact⟨w2,z2.sameBut hs hcc⟩
  ·obtain⟨e,n,ne,nf,d⟩:=I.pin p hp
   refine⟨(hs.2 p.1 ?_).trans e,n,ne,nf,d⟩;intro q;rw[q,hoc]at e;have q':oc=p.2:=Ei e;exact d w' (by rw[<-q'];exact hocd)
theorem uh {M:Model}{A:Around}{E:Value->Shared->Prop}{i:Nat}{x:Str}{v:V}{u:Value}{Q:Unit->Shared->Prop}(I:aw X pins σ H s)(hN:X.N.Nodup)(hi:X.N[i]? = some x)(hx:BS X.env.scope x)(r:aT v u)
  (h:∀ s',aw X pins (σ.set i (some v)) H s'->Q () s') (hf:X.fn x=true\/X.env.scope.names.lookup x=some .local:=by first | exact .inl rfl | exact .inr rfl | assumption):wpAny M A (storeName X.env x u) Q E s :=
 qB I hN hi hx r (fun s' I' _=>h s' I') hf
theorem aw.call' {s':Shared}{ch:List Addr}(I:aw X pins σ H s)(ho:s'.os=s.os)(u:Un (iR X.stack) ch H H' s.heap s'.heap)(hok:iJ X.prog X.w H' s'.heap)(hg:AllBare s'.gens)
  (hch:∀ b∈ch,(b∈X.ex\/X.s₀.heap.objs.size<=b)/\b≠X.env.locals/\(∀ x c,X.env.cells.lookup x=some c->c≠b)/\∀ p∈X.pn++pins,p.1≠b):aw X pins σ H' s':=by
 obtain⟨h',g',d',t',o'⟩:=s';have e:o'=s.os:=ho;subst e;exact I.call (g':=g') (t':=t') (d':=d') u hok hg hch
end
abbrev XK:=Value->Option Addr->Hp->Prop
abbrev St:=List (Option V)
abbrev VK:=V->Hp->Prop
abbrev TE:=St->Hp->VK->Prop
abbrev TT:=St->Hp->(Bool->Hp->Prop)->Prop
abbrev TA:=St->Hp->(List V->Hp->Prop)->Prop
structure k6 where
 nx:St->Hp->Prop
 rt:VK
 bk:St->Hp->Prop:=fun _ _=>False
 ct:St->Hp->Prop:=fun _ _=>False
abbrev TS:=k6->St->Hp->Prop
def EP (X:Cx)(pins:List (Addr×Obj))(σ:St)(Q:VK)(u:Value)(s':Shared):Prop:=∃ v H',aw X pins σ H' s'/\aT v u/\Q v H'
def TP (X:Cx)(pins:List (Addr×Obj))(σ:St)(Q:Bool->Hp->Prop)(b:Bool)(s':Shared):Prop:=∃ H',aw X pins σ H' s'/\Q b H'
def AP (X:Cx)(pins:List (Addr×Obj))(σ:St)(Q:List V->Hp->Prop)(us:List Value)(s':Shared):Prop:=∃ vs H',aw X pins σ H' s'/\aU vs us/\Q vs H'
def SP (X:Cx)(pins:List (Addr×Obj))(D:k6)(f:Flow)(s':Shared):Prop :=
 match f with
 | .next=>∃ σ' H',aw X pins σ' H' s'/\D.nx σ' H'
 | .brk=>∃ σ' H',aw X pins σ' H' s'/\D.bk σ' H'
 | .cont=>∃ σ' H',aw X pins σ' H' s'/\D.ct σ' H'
 | .ret u=>∃ v σ' H',aw X pins σ' H' s'/\aT v u/\D.rt v H'
def PE (X:Cx)(e:Expr)(t:TE):Prop :=
 ∀ (pins:List (Addr×Obj))(s:Shared)(σ:St)(H:Hp)(Q:VK),aw X pins σ H s->t σ H Q->wpAny (model X.prog X.w) X.A (eval e X.env) (EP X pins σ Q) X.xe s
def PT (X:Cx)(e:Expr)(t:TT):Prop :=
 ∀ (pins:List (Addr×Obj))(s:Shared)(σ:St)(H:Hp)(Q:Bool->Hp->Prop),aw X pins σ H s->t σ H Q->wpAny (model X.prog X.w) X.A (isTrue e X.env (eval e X.env)) (TP X pins σ Q) X.xe s
def PW (X:Cx)(e:Expr)(t:TT):Prop :=
 ∀ (whole:Sem Value)(pins:List (Addr×Obj))(s:Shared)(σ:St)(H:Hp)(Q:Bool->Hp->Prop),aw X pins σ H s->t σ H Q->wpAny (model X.prog X.w) X.A (isTrue e X.env whole) (TP X pins σ Q) X.xe s
theorem PW.pt {X:Cx}{e:Expr}{t:TT}(h:PW X e t):PT X e t:=h _
def PA (X:Cx)(es:List Expr)(t:TA):Prop :=
 ∀ (pos:Pos)(pins:List (Addr×Obj))(s:Shared)(σ:St)(H:Hp)(Q:List V->Hp->Prop),aw X pins σ H s->t σ H Q->wpAny (model X.prog X.w) X.A (spliced (backTo pos (starEach es X.env))) (AP X pins σ Q) X.xe s
def PS (X:Cx)(st:Stmt)(t:TS):Prop :=
 ∀ (pins:List (Addr×Obj))(s:Shared)(σ:St)(H:Hp)(D:k6),aw X pins σ H s->t D σ H->wpAny (model X.prog X.w) X.A (exec st X.env) (SP X pins D) X.xe s
def vO (X:Cx)(st:List Stmt)(t:TS):Prop :=
 ∀ (pins:List (Addr×Obj))(s:Shared)(σ:St)(H:Hp)(D:k6),aw X pins σ H s->t D σ H->wpAny (model X.prog X.w) X.A (execs st X.env) (SP X pins D) X.xe s
theorem bA {α:Type}{t:Sem α}{Q Q':α->Shared->Prop}{M:Model}{A:Around}{E:Value->Shared->Prop}{s:Shared}(h:wpAny M A t Q E s)(hQ:∀ a s,Q a s->Q' a s):wpAny M A t Q' E s:=E4 h hQ fun _ _ x=>x
section
variable {X:Cx}
inductive TV (i:Nat) (σ:St) (H:Hp) (Q:VK):Prop
 | mk (v:V) (e:σ[i]? = some (some v)) (h:Q v H):TV i σ H Q
def CN (i:Nat):TE:=fun σ H Q=>TV i σ H Q
def tC (v:V):TE:=fun _ H Q=>Q v H
theorem yW {i:Nat}{x:Str}{pos:Pos}(hN:X.N[i]? = some x)(hv:CW X.env.scope x)(hd:(x == ("__debug__" : Str))=false:=by decide)(hcd:(x == ("__classdict__" : Str))=false:=by decide):PE X (.Name x pos) (CN i):=by
 intro pins s σ H Q I h;obtain⟨v,e,h⟩:=h;obtain⟨m,hn,hl⟩:=I.loc;obtain⟨u,r,l⟩:=hl i x v hN e hv;have fin:EP X pins σ Q u s:=⟨v,H,I,r,h⟩;rcases l with ⟨hk,hm⟩ | ⟨hk,c,hc,hcell⟩
 ·exact wpAny_Name (wpAny_loadName_local I.ok.kind hk hn hm fin) hd
 ·rcases hk with hk | hk
  ·exact wpAny_Name (wpAny_loadName_cell I.ok.kind hk hc hcell fin) hd
  ·exact wpAny_Name (wpAny_loadName_free I.ok.kind hk hc hcell fin hcd) hd
theorem aj {i j pos}:PE X (.Constant (.int i) j pos) (tC (.int i)):=fun _ _ _ H _ I h=>wpAny_Constant_int ⟨.int i,H,I.tok _,⟨_,rfl⟩,h⟩
theorem iZ {b j pos}:PE X (.Constant (.bool b) j pos) (tC (.bl b)):=fun _ _ _ H _ I h=>Constant_bool ⟨.bl b,H,I,rfl,h⟩
theorem o7 {j pos}:PE X (.Constant .none j pos) (tC .non):=fun _ _ _ H _ I h=>Constant_none ⟨.non,H,I,rfl,h⟩
theorem aY {x j pos}:PE X (.Constant (.str x) j pos) (tC (.str x)):=fun _ _ _ H _ I h=>Calls.Constant_str ⟨.str x,H,I.tok _,⟨_,rfl⟩,h⟩
def Gl (X:Cx)(x:Str):Prop:=X.env.kindOf x=some .globalImplicit
theorem jq {E:Value->Shared->Prop}{pins:List (Addr×Obj)}{s:Shared}{σ:St}{H:Hp}{x:Str}{u:Value}{pos:Pos}{Q:Value->Shared->Prop}(I:aw X pins σ H s)(hg:Gl X x)(hm:X.mg x=some u)(h:Q u s)
  (hd:(x == ("__debug__" : Str))=false:=by decide):wpAny (model X.prog X.w) X.A (eval (.Name x pos) X.env) Q E s :=
 Calls.Name_function_global I.ok.kind hg (Calls.loadGlobal_global (by rw[I.ok.glob];exact I.mod.glob.keeps I.bk) hm h) hd
theorem jT {E:Value->Shared->Prop}{pins:List (Addr×Obj)}{s:Shared}{σ:St}{H:Hp}{x:Str}{u:Value}{pos:Pos}{Q:Value->Shared->Prop}(I:aw X pins σ H s)(hg:Gl X x)(hm:X.mg x=none)(hv:bootBuiltins x=some u)(h:Q u s)
  (hn:x≠"__name__":=by decide) (hd:(x == ("__debug__" : Str))=false:=by decide):wpAny (model X.prog X.w) X.A (eval (.Name x pos) X.env) Q E s:=by
 obtain⟨mb,h1,h2⟩:=I.mod.blt;exact Calls.Name_function_global I.ok.kind hg (Calls.loadGlobal_builtin (by rw[I.ok.glob];exact I.mod.glob.keeps I.bk) hm (by rw[I.ok.blt];exact h1.keeps I.bk) ((h2 x hn).trans hv) h) hd
theorem nj {x:Str}{v:V}{u:Value}{pos:Pos}(hg:Gl X x)(hm:X.mg x=none)(hv:bootBuiltins x=some u)(r:aT v u)(hn:x≠"__name__":=by decide)(hd:(x == ("__debug__" : Str))=false:=by decide):PE X (.Name x pos) (tC v) :=
 fun _ _ _ H _ I h=>jT I hg hm hv ⟨v,H,I,r,h⟩ hn hd
variable {a b:Expr}{ta tb:TE}{pos:Pos}
def PC (X:Cx)(op:CmpOp)(a b:Expr)(t:TE):Prop :=
 ∀ (pins:List (Addr×Obj))(s:Shared)(σ:St)(H:Hp)(Q:VK),aw X pins σ H s->t σ H Q ->
  wpAny (model X.prog X.w) X.A (eval a X.env) (fun v s₁=>wpAny (model X.prog X.w) X.A (eval b X.env) (fun u s₂=>wpAny (model X.prog X.w) X.A (compareOp op v u) (EP X pins σ Q) X.xe s₂) X.xe s₁) X.xe s
inductive Df (Q:Bool->Hp->Prop) (x:V) (H:Hp):Prop
 | mk (c:Bool) (e:x=.bl c) (h:Q c H):Df Q x H
def tB (t:TE):TT:=fun σ H Q=>t σ H fun x H1=>Df Q x H1
theorem yP {op:CmpOp}{t:TE}(h:PC X op a b t)(h1:behindInMarks op b=false:=by first | exact nobehind _ (by decide) (by decide) | rfl):PE X (.Compare a [op] [b] pos) t:=fun pins s σ H Q I hw=>wpAny_Compare1 (h pins s σ H Q I hw) h1
theorem ij {op:CmpOp}{t:TE}(h:PC X op a b t)(h1:behindInMarks op b=false:=by first | exact nobehind _ (by decide) (by decide) | rfl):PT X (.Compare a [op] [b] pos) (tB t):=by
 intro pins s σ H Q I hw;refine wpAny_isTrue_Compare1 (bA (h pins s σ H _ I hw) fun v s1 h1=>bA h1 fun u s2 h2=>bA h2 fun c s3 ⟨x,H1,I1,r1,q1⟩=>?_) h1;obtain⟨d,rfl,q⟩:=q1;cases r1;exact Fu ⟨H1,I1,q⟩
theorem i6 {e:Expr}{t:TE}(h:PE X e t)(he:∀ whole,isTrue e X.env whole=(do let v <-whole;standAt e.pos;holding [v] (truthy v)):=by intro _;rfl):PT X e (tB t):=by
 intro pins s σ H Q I hw;refine isTrue_plain (bA (h pins s σ H _ I hw) fun v s1 ⟨x,H1,I1,r1,q1⟩=>?_) (he _);obtain⟨d,rfl,q⟩:=q1;cases r1;exact Fu ⟨H1,I1,q⟩
variable {tA tB':TT}{rest:List Expr}
def Dx (t u:TT):TT:=fun σ H Q=>t σ H fun c H1=>if c=true then u σ H1 Q else Q false H1
def D7 (t u:TT):TT:=fun σ H Q=>t σ H fun c H1=>if c=true then Q true H1 else u σ H1 Q
def DD (t:TT):TT:=fun σ H Q=>t σ H fun c H1=>Q (!c) H1
theorem gf (ha:PT X a tA):PW X (.BoolOp .And [a] pos) tA:=by
 intro wh pins s σ H Q I h;refine isTrue_and (bA (ha pins s σ H Q I h) fun c s1 e=>?_)
 cases c with
 | true=>exact isTrue_and_nil e
 | false=>exact e
theorem pb (ha:PT X a tA):PW X (.BoolOp .Or [a] pos) tA:=by
 intro wh pins s σ H Q I h;refine isTrue_or (bA (ha pins s σ H Q I h) fun c s1 e=>?_)
 cases c with
 | false=>exact isTrue_or_nil e
 | true=>exact e
theorem gB (ha:PT X a tA)(hb:PW X (.BoolOp .And (b::rest) pos) tB'):PW X (.BoolOp .And (a::b::rest) pos) (Dx tA tB'):=by
 intro wh pins s σ H Q I h;refine isTrue_and (bA (ha pins s σ H _ I h) fun c s1 ⟨H1,I1,q1⟩=>?_)
 cases c with
 | true=>exact hb wh pins s1 σ H1 Q I1 q1
 | false=>exact⟨H1,I1,q1⟩
theorem o9 (ha:PT X a tA)(hb:PW X (.BoolOp .Or (b::rest) pos) tB'):PW X (.BoolOp .Or (a::b::rest) pos) (D7 tA tB'):=by
 intro wh pins s σ H Q I h;refine isTrue_or (bA (ha pins s σ H _ I h) fun c s1 ⟨H1,I1,q1⟩=>?_)
 cases c with
 | true=>exact⟨H1,I1,q1⟩
 | false=>exact hb wh pins s1 σ H1 Q I1 q1
theorem jZ (ha:PT X a tA):PT X (.UnaryOp .Not a pos) (DD tA):=by
 intro pins s σ H Q I h;exact isTrue_not (ha pins s σ H (fun c H1=>Q (!c) H1) I h)
def CD (ta tb:TE):TE:=fun σ H Q=>ta σ H fun x H1=>∃ c,x=.bl c/\if c=true then tb σ H1 Q else Q (.bl false) H1
def CL (ta:TE):TE:=fun σ H Q=>ta σ H fun x H1=>∃ c,x=.bl c/\Q (.bl (!c)) H1
theorem yV {op}{t:TE}(h:PE X a t):PE X (.BoolOp op [a] pos) t:=fun pins s σ H Q I hw=>BoolOp_one (h pins s σ H Q I hw)
theorem yN (ha:PE X a ta)(hb:PE X (.BoolOp .And (b::rest) pos) tb):PE X (.BoolOp .And (a::b::rest) pos) (CD ta tb):=by
 intro pins s σ H Q I h;refine BoolOp_and (bA (ha pins s σ H _ I h) fun v s1 ⟨x,H1,I1,r1,q1⟩=>?_);obtain⟨c,rfl,q1⟩:=q1;cases r1;refine Fu ?_
 cases c with
 | true=>exact hb pins s1 σ H1 Q I1 q1
 | false=>exact⟨.bl false,H1,I1,rfl,q1⟩
theorem Bk (ha:PE X a ta):PE X (.UnaryOp .Not a pos) (CL ta):=by
 intro pins s σ H Q I h;refine UnaryOp_ (bA (ha pins s σ H _ I h) fun v s1 ⟨x,H1,I1,r1,q1⟩=>?_);obtain⟨c,rfl,q1⟩:=q1;cases r1;exact not_of (Fu ⟨.bl (!c),H1,I1,rfl,q1⟩)
end
def bz (K:PySem.W.Frag)(H:Hp)(a:Addr)(xs:List V):Prop :=
 Rd H a (.lst xs) \/
  ∃ (o:Obj)(its:Array Value)(n:Nat),K.lookup a=some o/\o.cls=.type "list"/\o.dict=none/\o.data=.seq its n/\its.size<=sizeLine/\aU xs its.toList
def dv (K:PySem.W.Frag)(H:Hp)(a:Addr)(xs:List V):Prop :=
 Rd H a (.tup xs) \/
  ∃ (o:Obj)(its:Array Value)(n:Nat),K.lookup a=some o/\o.cls=.type "tuple"/\o.data=.seq its n/\its.size<=sizeLine/\aU xs its.toList
def Dh:Value->Option V
 | .none=>some .non
 | .bool b=>some (.bl b)
 | .int i _=>some (.int i)
 | .str x _=>some (.str x)
 | .bytes b _=>some (.byt b)
 | .float b _=>some (.flt b)
 | .ref a=>some (.ref a)
 | .type n=>some (.ty n)
 | _=>none
theorem aT.abs {x:V}{u:Value}(r:aT x u):Dh u=some x:=by
 cases x with
 | non=>cases r;rfl
 | bl _=>cases r;rfl
 | int _=>obtain⟨t,rfl⟩:=r;rfl
 | str _=>obtain⟨t,rfl⟩:=r;rfl
 | byt _=>obtain⟨t,rfl⟩:=r;rfl
 | flt _=>obtain⟨t,rfl⟩:=r;rfl
 | ref _=>cases r;rfl
 | ty _=>cases r;rfl
theorem aT.inj {x y:V}{u:Value}(r:aT x u)(q:aT y u):x=y:=Ei (r.abs.symm.trans q.abs)
theorem aU.inj:∀ {xs ys:List V}{us:List Value},aU xs us->aU ys us->xs=ys
 | _,_,_,.nil,.nil=>rfl
 | _,_,_,.cons r t,.cons r' t'=>by rw[r.inj r',aU.inj t t']
section
variable {X:Cx}{pins:List (Addr×Obj)}{σ:St}{H:Hp}{s:Shared}{a:Addr}{xs ys:List V}
theorem bz.of {K:PySem.W.Frag}(h:H a=some (.lst xs)):bz K H a xs:=.inl (.inl h)
theorem dv.of {K:PySem.W.Frag}(h:H a=some (.tup xs)):dv K H a xs:=.inl (.inl h)
theorem aw.list (I:aw X pins σ H s)(h:bz X.K H a xs):∃ its:List Value,aU xs its/\PlainL s.heap a its.toArray/\xs.length<=sizeLine:=by
 rcases h with h | ⟨o,its,n,hk,hc,hd,hs,hz,r⟩
 ·obtain⟨z,its,n,r,e⟩:=h.ok I.hok
  exact⟨its,r,⟨_,n,e,rfl,rfl,rfl⟩,z⟩
 ·refine⟨its.toList,r,⟨o,n,I.kIn a o hk,hc,hd,by simpa using hs⟩,?_⟩
  have e:=r.length;simp only[EJ]at e;omega
theorem aw.tuple (I:aw X pins σ H s)(h:dv X.K H a xs):∃ its:List Value,aU xs its/\IsTup s.heap a its.toArray/\xs.length<=sizeLine:=by
 rcases h with h | ⟨o,its,n,hk,hc,hs,hz,r⟩
 ·obtain⟨z,its,r,p⟩:=h.ok I.hok
  exact⟨its,r,p,z⟩
 ·refine⟨its.toList,r,⟨o,I.kIn a o hk,hc,n,by simpa using hs⟩,?_⟩
  have e:=r.length;simp only[EJ]at e;omega
theorem aw.list_inj (I:aw X pins σ H s)(h:bz X.K H a xs)(h':bz X.K H a ys):xs=ys:=by
 obtain⟨its,r,⟨o,n,e,_,_,d⟩,_⟩:=I.list h;obtain⟨its',r',⟨o',n',e',_,_,d'⟩,_⟩:=I.list h';rw[e]at e';cases e';rw[d]at d';injection d' with d1 _
 have:its=its':=by simpa using EM Array.toList d1
 subst this;exact r.inj r'
theorem aw.tuple_inj (I:aw X pins σ H s)(h:dv X.K H a xs)(h':dv X.K H a ys):xs=ys:=by
 obtain⟨its,r,⟨o,e,_,n,d⟩,_⟩:=I.tuple h;obtain⟨its',r',⟨o',e',_,n',d'⟩,_⟩:=I.tuple h';rw[e]at e';cases e';rw[d]at d';injection d' with d1 _
 have:its=its':=by simpa using EM Array.toList d1
 subst this;exact r.inj r'
end
abbrev Cx.wish (X:Cx)(E:Value->Shared->Prop):Cx:={ X with xe:=E }
abbrev Cx.nox (X:Cx):Cx:=X.wish fun _ _=>False
theorem Cx.Ok.wish {X:Cx}(ok:X.Ok)(E:Value->Shared->Prop):(X.wish E).Ok :=
 ⟨ok.mod,ok.kind,ok.glob,ok.blt,ok.above,ok.inj,ok.has,ok.cab,ok.hd,ok.frames,ok.stk,ok.exf,ok.bs,ok.bsz,ok.noex,ok.exfs,ok.funs,ok.frf⟩
theorem Cx.Ok.unwish {X:Cx}{E:Value->Shared->Prop}(ok:(X.wish E).Ok):X.Ok :=
 ⟨ok.mod,ok.kind,ok.glob,ok.blt,ok.above,ok.inj,ok.has,ok.cab,ok.hd,ok.frames,ok.stk,ok.exf,ok.bs,ok.bsz,ok.noex,ok.exfs,ok.funs,ok.frf⟩
section
variable {X:Cx}{pins:List (Addr×Obj)}{σ:St}{H:Hp}{s:Shared}{E:Value->Shared->Prop}
theorem aw.wish (I:aw X pins σ H s)(E:Value->Shared->Prop):aw (X.wish E) pins σ H s:=⟨I.ok.wish E,I.os,I.bare,I.base,I.loc,I.cell,I.free,I.freeC,I.pin,I.hok,I.len⟩
theorem aw.unwish (I:aw (X.wish E) pins σ H s):aw X pins σ H s:=⟨I.ok.unwish,I.os,I.bare,I.base,I.loc,I.cell,I.free,I.freeC,I.pin,I.hok,I.len⟩
theorem SP.unwish {D:k6}{f:Flow}{s':Shared}(h:SP (X.wish E) pins D f s'):SP X pins D f s':=by
 cases f with
 | next=>obtain⟨σ',H',I,q⟩:=h;exact⟨σ',H',I.unwish,q⟩
 | brk=>obtain⟨σ',H',I,q⟩:=h;exact⟨σ',H',I.unwish,q⟩
 | cont=>obtain⟨σ',H',I,q⟩:=h;exact⟨σ',H',I.unwish,q⟩
 | ret u=>obtain⟨v,σ',H',I,r,q⟩:=h;exact⟨v,σ',H',I.unwish,r,q⟩
theorem vO.nox {st:List Stmt}{t:TS}(h:vO X.nox st t):vO X st t:=fun pins s σ H D I hw =>
 E4 (h pins s σ H D (I.wish _) hw) (fun _ _ q=>q.unwish) fun _ _ z=>False.elim z
end
section
variable {X:Cx}{st:Stmt}{rest:List Stmt}{t u:TS}{e:Expr}{te:TE}{pos:Pos}
def CJ:TS:=fun D σ H=>D.nx σ H
def DF (t u:TS):TS:=fun D σ H=>t { D with nx:=u D } σ H
theorem aJ:vO X [] CJ:=fun _ _ σ H _ I h=>wpAny_execs_nil ⟨σ,H,I,h⟩
theorem ah (h1:PS X st t)(h2:vO X rest u):vO X (st::rest) (DF t u):=by
 intro pins s σ H D I h;refine wpAny_execs_cons (bA (h1 pins s σ H { D with nx:=u D } I h) fun f s1 q=>?_)
 cases f with
 | next =>
  obtain⟨σ',H',I',q⟩:=q;exact h2 pins s1 σ' H' D I' q
 | ret v=>exact q
 | brk=>exact q
 | cont=>exact q
theorem ai (h1:PS X st t):vO X [st] t:=by
 intro pins s σ H D I h;refine wpAny_execs_cons (bA (h1 pins s σ H D I h) fun f s1 q=>?_)
 cases f with
 | next=>exact wpAny_execs_nil q
 | ret v=>exact q
 | brk=>exact q
 | cont=>exact q
theorem aw.quiet {pins:List (Addr×Obj)}{σ:St}{H:Hp}{s:Shared}(I:aw X pins σ H s):interactive X.env=false:=by simp[interactive,I.ok.kind]
def CI (te:TE):TS:=fun D σ H=>te σ H fun _ H1=>D.nx σ H1
theorem bg (he:PE X e te)(hs:swapsWith e none pos.line X.env=pure false:=by rfl):PS X (.Expr e pos) (CI te):=by
 intro pins s σ H D I h;exact wpAny_Expr_any (bA (he pins s σ H _ I h) fun v s1 ⟨x,H1,I1,r1,q1⟩=>⟨σ,H1,I1,q1⟩) I.quiet hs
def DE (te:TE):TS:=fun D σ H=>te σ H D.rt
theorem aA (he:PE X e te):PS X (.Return (some e) pos) (DE te):=by
 intro pins s σ H D I h;exact wpAny_Return_some (bA (he pins s σ H _ I h) fun v s1 ⟨x,H1,I1,r1,q1⟩=>⟨x,σ,H1,I1,r1,q1⟩)
def DB (c:TT)(t u:TS):TS:=fun D σ H=>c σ H fun b H1=>if b=true then t D σ H1 else u D σ H1
theorem br {c:Expr}{a b:List Stmt}{tc:TT}(hc:PT X c tc)(ha:vO X a t)(hb:vO X b u):PS X (.If c a b pos) (DB tc t u):=by
 intro pins s σ H D I h;refine wpAny_If (bA (hc pins s σ H _ I h) fun d s1 ⟨H1,I1,q1⟩=>?_)
 cases d with
 | true=>exact ha pins s1 σ H1 D I1 q1
 | false=>exact hb pins s1 σ H1 D I1 q1
end
abbrev TG:=V->St->Hp->(St->Hp->Prop)->Prop
abbrev zz:=List V->St->Hp->(St->Hp->Prop)->Prop
def PG (X:Cx)(target:Expr)(t:TG):Prop :=
 ∀ (pins:List (Addr×Obj))(s:Shared)(σ:St)(H:Hp)(v:V)(u:Value)(Q:St->Hp->Prop),aw X pins σ H s->aT v u->t v σ H Q ->
  wpAny (model X.prog X.w) X.A (assign target X.env u) (fun _ s'=>∃ σ' H',aw X pins σ' H' s'/\Q σ' H') X.xe s
def B9 (X:Cx)(ts:List Expr)(t:zz):Prop :=
 ∀ (pins:List (Addr×Obj))(s:Shared)(σ:St)(H:Hp)(vs:List V)(us:List Value)(Q:St->Hp->Prop),aw X pins σ H s->aU vs us->t vs σ H Q ->
  wpAny (model X.prog X.w) X.A (assignInOrder ((assignEach ts X.env).map (·.2)) us) (fun _ s'=>∃ σ' H',aw X pins σ' H' s'/\Q σ' H') X.xe s
section
variable {X:Cx}{pos:Pos}
def ky (i:Nat):TG:=fun v σ H Q=>Q (σ.set i (some v)) H
theorem js {i:Nat}{x:Str}(hN:X.N.Nodup)(hi:X.N[i]? = some x)(hx:BS X.env.scope x)(hf:X.fn x=true\/X.env.scope.names.lookup x=some .local:=by first | exact .inl rfl | exact .inr rfl | assumption):PG X (.Name x pos) (ky i):=by
 intro pins s σ H v u Q I r h;exact wpAny_assign_Name (uh I hN hi hx r (fun s' I'=>⟨_,H,I',h⟩) hf)
def Cf:zz:=fun vs σ H Q=>vs=[]/\Q σ H
inductive GC (t:TG) (u:zz) (vs:List V) (σ:St) (H:Hp) (Q:St->Hp->Prop):Prop
 | mk (v:V) (r:List V) (e:vs=v::r) (h:t v σ H fun σ' H'=>u r σ' H' Q):GC t u vs σ H Q
def wf (t:TG)(u:zz):zz:=fun vs σ H Q=>GC t u vs σ H Q
theorem gd:B9 X [] Cf:=by
 intro pins s σ H vs us Q I r h;obtain⟨e,h⟩:=h;subst e;cases r;exact assignInOrder_nil ⟨σ,H,I,h⟩
theorem aZ {e:Expr}{es:List Expr}{t:TG}{u:zz}(h1:PG X e t)(h2:B9 X es u)
  (hs:(assignEach (e::es) X.env).map (·.2)=assign e X.env::(assignEach es X.env).map (·.2):=by rfl):B9 X (e::es) (wf t u):=by
 intro pins s σ H vs us Q I r h;obtain⟨v,vr,e1,h⟩:=h;subst e1
 cases r with
 | cons r rr =>
  rw[hs];refine assignInOrder_cons (bA (h1 pins s σ H _ _ _ I r h) fun _ s1 ⟨σ1,H1,I1,q1⟩=>?_);exact h2 pins s1 σ1 H1 _ _ Q I1 rr q1
inductive GT (K:PySem.W.Frag) (n:Nat) (t:zz) (v:V) (σ:St) (H:Hp) (Q:St->Hp->Prop):Prop
 | mk (a:Addr) (xs:List V) (e:v=.ref a) (q:dv K H a xs) (l:xs.length=n) (h:t xs σ H Q):GT K n t v σ H Q
def A9 (K:PySem.W.Frag)(n:Nat)(t:zz):TG:=fun v σ H Q=>GT K n t v σ H Q
theorem jX {es:List Expr}{k:Nat}{t:zz}{n:Nat}(hc:X.calm=true)(h:B9 X es t)
  (hn:(assignEach es X.env).length=n:=by rfl) (hst:(assignEach es X.env).findIdx? (·.1)=none:=by rfl):PG X (.Tuple es k pos) (A9 X.K n t):=by
 intro pins s σ H v u Q I r hw;obtain⟨a,xs,e1,hq,hl,hw⟩:=hw;subst e1;cases r;obtain⟨its,rv,ht,hz⟩:=I.tuple hq;refine assign_Tuple_tuple (I.ok.hd hc) ht (by simp[hn,<-hl,rv.length]) hst fun h' hx=>?_;have I1:aw X pins σ H { s with heap:=h' }:=I.kept (t':=s.toks) fun b o e=>hx b o (Eu (Em e)) e;exact h pins _ σ H xs _ Q I1 (by simpa using rv) hw
def Bw (te:TE)(g:TG):TS:=fun D σ H=>te σ H fun x H1=>g x σ H1 D.nx
theorem Bn {tg e:Expr}{te:TE}{g:TG}(he:PE X e te)(hg:PG X tg g)(hs:swapsWithSole [tg] e pos.line X.env=pure false:=by rfl)(hw:swappedStores [tg] e X.env=pure none:=by rfl)
  (h1:(assignEach [tg] X.env).map (·.2)=[assign tg X.env]:=by rfl):PS X (.Assign [tg] e pos) (Bw te g):=by
 intro pins s σ H D I h;refine wpAny_Assign_stores (bA (he pins s σ H _ I h) fun v s1 ⟨x,H1,I1,r1,q1⟩=>?_) hs hw;rw[h1];exact bA (hg pins s1 σ H1 x v _ I1 r1 q1) fun _ s2 q=>q
theorem dw {i:Nat}{x:Str}{e:Expr}{te:TE}{pos':Pos}(hN:X.N.Nodup)(hi:X.N[i]? = some x)(hx:BS X.env.scope x)(he:PE X e te)(hs:swapsWith e (some (.Name x pos')) pos.line X.env=pure false:=by rfl)(hf:X.fn x=true\/X.env.scope.names.lookup x=some .local:=by first | exact .inl rfl | exact .inr rfl | assumption) :
  PS X (.Assign [.Name x pos'] e pos) (Bw te (ky i)):=by
 intro pins s σ H D I h;refine wpAny_Assign_Name (bA (he pins s σ H _ I h) fun v s1 ⟨y,H1,I1,r1,q1⟩=>?_) hs;exact uh I1 hN hi hx r1 (fun s2 I2=>⟨_,H1,I2,q1⟩) hf
end
structure It where
 go:Nat->Hp->Prop
 yld:Nat->Hp->V->Hp->Prop
 stop:Nat->Hp->Prop
def iP (X:Cx)(pins:List (Addr×Obj))(H:Hp)(b:Addr):Prop :=
 H b=none/\b≠X.env.locals/\b∉X.fs/\(b∈X.ex\/X.s₀.heap.objs.size<=b)/\(∀ x c,X.env.cells.lookup x=some c->c≠b)/\∀ p∈X.pn++pins,p.1≠b
theorem aw.fpOk {X:Cx}{pins:List (Addr×Obj)}{σ:St}{H H':Hp}{s:Shared}{b:Addr}(I:aw X pins σ H s)(hb:s.heap.objs.size<=b)(hn:H' b=none):iP X pins H' b:=by
 refine⟨hn,Nat.ne_of_gt (Ez I.lt hb),I.nofs hb,.inr (EI I.sz hb),fun x c e z=>?_,fun p hp z=>?_⟩
 ·obtain⟨v,q⟩:=I.cell x c e
  exact absurd (Ez q.lt (by rw[z];exact hb)) (F6 _)
 ·exact absurd (Ez (Em (I.pin p hp).1) (by rw[z];exact hb)) (F6 _)
structure xa (P:Program)(w:World)(K:PySem.W.Frag)(tg:Expr)(J:It)(fp:List Addr)(it:Addr)(tn:Nat->Heap->Prop):Prop where
 mem:it∈fp
 obj:∀ i h,tn i h->∀ b∈fp,∃ o,h.get? b=some o/\∀ v,o.data≠.cell v
 keep:∀ i h h',tn i h->(∀ b∈fp,∀ o,h.get? b=some o->h'.get? b=some o)->tn i h'
 item:∀ (X:Cx),X.prog=P->X.w=w->X.K=K->X.calm=true->∀ (i:Nat)(pins:List (Addr×Obj))(s:Shared)(σ:St)(H:Hp)(E:Value->Shared->Prop),aw X pins σ H s->(∀ b∈fp,iP X pins H b)->tn i s.heap->J.go i H ->
  wpAny (model P w) X.A (pyNext (.ref it)) (fun r s1=>∃ u,r=some u /\
   wpAny (model P w) X.A (letOwnedTupleGo tg (.ref it) u) (fun _ s2=>∃ x H',aw X pins σ H' s2/\aT x u/\J.yld i H x H'/\tn (i+1) s2.heap/\∀ b∈fp,H' b=none) E s1) E s
 done:∀ (X:Cx),X.prog=P->X.w=w->X.K=K->X.calm=true->∀ (i:Nat)(pins:List (Addr×Obj))(s:Shared)(σ:St)(H:Hp)(E:Value->Shared->Prop),aw X pins σ H s->(∀ b∈fp,iP X pins H b)->tn i s.heap->J.stop i H ->
  wpAny (model P w) X.A (pyNext (.ref it)) (fun r s1=>r=none/\aw X pins σ H s1) E s
 self:∀ (A:Around)(i:Nat)(s:Shared)(Q:Value->Shared->Prop)(E:Value->Shared->Prop),tn i s.heap->Q (.ref it) s->wpAny (model P w) A (pyIter (.ref it)) Q E s
abbrev TI:=St->Hp->(It->Hp->Prop)->Prop
def DJ (X:Cx)(pins:List (Addr×Obj))(σ:St)(tg:Expr)(R:It->Hp->Prop)(itv:Value)(s2:Shared):Prop :=
 ∃ (it:Addr)(fp:List Addr)(tn:Nat->Heap->Prop)(J:It)(H':Hp),itv=.ref it/\aw X pins σ H' s2/\xa X.prog X.w X.K tg J fp it tn/\tn 0 s2.heap/\(∀ b∈fp,iP X pins H' b)/\R J H'
def PI (X:Cx)(tg bB:Expr)(wi:TI):Prop :=
 ∀ (pins:List (Addr×Obj))(s:Shared)(σ:St)(H:Hp)(R:It->Hp->Prop),aw X pins σ H s->wi σ H R ->
  wpAny (model X.prog X.w) X.A (eval bB X.env) (fun v s1=>wpAny (model X.prog X.w) X.A (pyIter v) (DJ X pins σ tg R) X.xe s1) X.xe s
theorem yt {M:Model}{A:Around}{E:Value->Shared->Prop}{s:Shared}{tg:Expr}{it:Addr}{u:Value}{o:Obj}{n:String}{vs:Array Value}{Q:Unit->Shared->Prop}(ho:s.heap.get? it=some o)(hc:o.cls=.type n)(hd:o.data=.fields vs)
  (hn:["enumerate","zip","dict_itemiterator","dict_reverseitemiterator","odict_iterator","itertools.zip_longest","itertools.pairwise"].contains n=false) (hQ:Q () s):wpAny M A (letOwnedTupleGo tg (.ref it) u) Q E s:=by
 unfold letOwnedTupleGo
 cases tg<;>first
  | exact Et hQ
  | (cases u<;>first
    | exact Et hQ
    | (refine Ef (wpAny_load ho ?_)
       rw[hc,hd]
       show wpAny M A (if (["enumerate","zip","dict_itemiterator","dict_reverseitemiterator","odict_iterator","itertools.zip_longest","itertools.pairwise"].contains n&&vs[0]? == some (rawInt _))=true then _ else _) Q E s
       rw[Ed (by intro h;rw[hn,Bool.false_and]at h;cases h)]
       exact Et hQ))
def AX (K:PySem.W.Frag)(a:Addr):It :=
 ⟨fun i H=>∃ xs x,bz K H a xs/\xs[i]? = some x,fun i H x H'=>H'=H/\∀ xs,bz K H a xs->xs[i]? = some x,fun i H=>∃ xs,bz K H a xs/\xs.length<=i⟩
def B6 (K:PySem.W.Frag)(a:Addr):It :=
 ⟨fun i H=>∃ xs x,dv K H a xs/\xs[i]? = some x,fun i H x H'=>H'=H/\∀ xs,dv K H a xs->xs[i]? = some x,fun i H=>∃ xs,dv K H a xs/\xs.length<=i⟩
def AY (lo:Int)(n:Nat):It:=⟨fun i _=>i<n,fun i H x H'=>H'=H/\x=.int (lo+i),fun i _=>n<=i⟩
theorem xY {P:Program}{w:World}{K:PySem.W.Frag}{tg:Expr}(a it:Addr):xa P w K tg (AX K a) [it] it (fun i h=>h.IsListIter it a i) where
 mem:=by simp
 obj:=fun i h st b hb=>by
  have e:b=it:=by simpa using hb
  subst e;obtain⟨o,e,c,d⟩:=st;exact⟨o,e,fun v z=>by rw[d]at z;cases z⟩
 keep:=fun i h h' st k=>st.at fun o e=>k it (by simp) o e
 item:=by
  intro X hP hw hK hc i pins s σ H E I hf st hg;subst hP hw hK;obtain⟨xs,x,hq,hx⟩:=hg;obtain⟨its,rv,p,hz⟩:=I.list hq;obtain⟨u,hu,ru⟩:=rv.get hx;obtain⟨f0,f1,f2,f3,f4,f5⟩:=hf it (by simp);refine wpAny_pyNext_list_item st p.isList (x:=u) (by simpa using hu) fun h' st' sb=>?_;have I1:aw X pins σ H { s with heap:=h' }:=I.turned (t':=s.toks) (fun b o hb e=>(sb.2 b hb).trans e) f0 f1 f3 f4 f5;obtain⟨o,e,c,d⟩:=id st';exact⟨u,rfl,yt (s:={ s with heap:=h' }) e c d (by decide) ⟨x,H,I1,ru,⟨rfl,fun ys hy=>by rw[I.list_inj hy hq];exact hx⟩,st',fun b hb=>(hf b hb).1⟩⟩
 done:=by
  intro X hP hw hK hc i pins s σ H E I hf st hg;subst hP hw hK;obtain⟨xs,hq,hx⟩:=hg;obtain⟨its,rv,p,hz⟩:=I.list hq;obtain⟨f0,f1,f2,f3,f4,f5⟩:=hf it (by simp);have hl:=rv.length;exact wpAny_pyNext_list_end (I.ok.hd hc) st p.isList (by simp;omega) fun h' eb=>⟨rfl,I.turned (t':=s.toks) (fun b o hb e=>eb b o hb e) f0 f1 f3 f4 f5⟩
 self:=fun _ _ _ _ _ st h=>wpAny_pyIter_listiter st h
theorem vH {P:Program}{w:World}{K:PySem.W.Frag}{tg:Expr}(a it:Addr):xa P w K tg (B6 K a) [it] it (fun i h=>h.IsTupleIter it a i) where
 mem:=by simp
 obj:=fun i h st b hb=>by
  have e:b=it:=by simpa using hb
  subst e;obtain⟨o,e,c,d⟩:=st;exact⟨o,e,fun v z=>by rw[d]at z;cases z⟩
 keep:=fun i h h' st k=>st.at fun o e=>k it (by simp) o e
 item:=by
  intro X hP hw hK hc i pins s σ H E I hf st hg;subst hP hw hK;obtain⟨xs,x,hq,hx⟩:=hg;obtain⟨its,rv,p,hz⟩:=I.tuple hq;obtain⟨u,hu,ru⟩:=rv.get hx;obtain⟨f0,f1,f2,f3,f4,f5⟩:=hf it (by simp);refine wpAny_pyNext_tuple_item st (show s.heap.IsTuple a its.toArray from p) (x:=u) (by simpa using hu) fun h' st' sb=>?_;have I1:aw X pins σ H { s with heap:=h' }:=I.turned (t':=s.toks) (fun b o hb e=>(sb.2 b hb).trans e) f0 f1 f3 f4 f5;obtain⟨o,e,c,d⟩:=id st';exact⟨u,rfl,yt (s:={ s with heap:=h' }) e c d (by decide) ⟨x,H,I1,ru,⟨rfl,fun ys hy=>by rw[I.tuple_inj hy hq];exact hx⟩,st',fun b hb=>(hf b hb).1⟩⟩
 done:=by
  intro X hP hw hK hc i pins s σ H E I hf st hg;subst hP hw hK;obtain⟨xs,hq,hx⟩:=hg;obtain⟨its,rv,p,hz⟩:=I.tuple hq;obtain⟨f0,f1,f2,f3,f4,f5⟩:=hf it (by simp);have hl:=rv.length;exact wpAny_pyNext_tuple_end (I.ok.hd hc) st (show s.heap.IsTuple a its.toArray from p) (by simp;omega) fun h' eb=>⟨rfl,I.turned (t':=s.toks) (fun b o hb e=>eb b o hb e) f0 f1 f3 f4 f5⟩
 self:=fun _ _ _ _ _ st h=>wpAny_pyIter_tupleiter st h
theorem vG {P:Program}{w:World}{K:PySem.W.Frag}{tg:Expr}(it:Addr)(lo:Int)(n:Nat):xa P w K tg (AY lo n) [it] it (fun i h=>IsRangeIter h it (lo+(i:Nat)*1) ((n:Int)-(i:Nat)) 1) where
 mem:=by simp
 obj:=fun i h st b hb=>by
  have e:b=it:=by simpa using hb
  subst e
  exact⟨_,st,fun v z=>by
   have z':Data.fields _=Data.cell v:=z
   cases z'⟩
 keep:=fun i h h' st k=>k it (by simp) _ st
 item:=by
  intro X hP hw hK hc i pins s σ H E I hf st hg;subst hP hw hK;obtain⟨f0,f1,f2,f3,f4,f5⟩:=hf it (by simp);have W:=Walks.range (prog:=X.prog) (w:=X.w) (I.ok.hd hc) it lo 1 n;refine W.item i s _ _ hg st fun v h' tk hv st' kk=>?_;obtain⟨t,rfl⟩:=hv;have I1:aw X pins σ H { s with heap:=h',toks:=tk }:=I.turned (fun b o hb e=>kk b o (by simpa using hb) e) f0 f1 f3 f4 f5;refine⟨_,rfl,yt (s:={ s with heap:=h',toks:=tk }) (n:="range_iterator") st' rfl rfl (by decide) ⟨.int (lo+i),H,I1,⟨t,?_⟩,⟨rfl,rfl⟩,st',fun b hb=>(hf b hb).1⟩⟩;rw[Int.mul_one]
 done:=by
  intro X hP hw hK hc i pins s σ H E I hf st hg;subst hP hw hK;obtain⟨f0,f1,f2,f3,f4,f5⟩:=hf it (by simp);exact wpAny_pyNext_range_end (I.ok.hd hc) st (by have:n<=i:=hg;omega) fun h' eb=>⟨rfl,I.turned (t':=s.toks) (fun b o hb e=>eb b o hb e) f0 f1 f3 f4 f5⟩
 self:=fun _ _ _ _ _ st h=>wpAny_pyIter_rangeiter st h
section
variable {X:Cx}{tg:Expr}
inductive DH (K:PySem.W.Frag) (R:It->Hp->Prop) (x:V) (H:Hp):Prop
 | mk (a:Addr) (e:x=.ref a) (q:∃ xs,bz K H a xs) (h:R (AX K a) H):DH K R x H
def Cj (K:PySem.W.Frag)(tl:TE):TI:=fun σ H R=>tl σ H fun x H1=>DH K R x H1
def Dl (K:PySem.W.Frag)(tl:TE):TI:=fun σ H R=>tl σ H fun x H1=>∃ a,x=.ref a/\(∃ xs,dv K H1 a xs)/\R (B6 K a) H1
theorem dL {l:Expr}{tl:TE}(hl:PE X l tl):PI X tg l (Cj X.K tl):=by
 intro pins s σ H R I h;refine bA (hl pins s σ H _ I h) fun v s1 ⟨x,H1,I1,r1,q1⟩=>?_;obtain⟨a,e,⟨xs,hq⟩,q⟩:=q1;subst e;cases r1;obtain⟨its,rv,p,hz⟩:=I1.list hq;refine Gb p.isList ?_;refine⟨s1.heap.objs.size,[s1.heap.objs.size],_,_,H1,rfl,I1.kept (t':=s1.toks) fun b o e=>Heap.get?_push_of_some _ e,xY a _,⟨_,Heap.get?_push_size _ rfl,rfl,rfl⟩,fun b hb=>?_,q⟩
 have e:b=s1.heap.objs.size:=by simpa using hb
 subst e;exact I1.fpOk (Eh _) (I1.hok.fresh (Eh _))
theorem Bl {l:Expr}{tl:TE}(hl:PE X l tl):PI X tg l (Dl X.K tl):=by
 intro pins s σ H R I h;refine bA (hl pins s σ H _ I h) fun v s1 ⟨x,H1,I1,r1,q1⟩=>?_;obtain⟨a,e,⟨xs,hq⟩,q⟩:=q1;subst e;cases r1;obtain⟨its,rv,p,hz⟩:=I1.tuple hq;refine wpAny_pyIter_tuple (show s1.heap.IsTuple a its.toArray from p) ?_;refine⟨s1.heap.objs.size,[s1.heap.objs.size],_,_,H1,rfl,I1.kept (t':=s1.toks) fun b o e=>Heap.get?_push_of_some _ e,vH a _,⟨_,Heap.get?_push_size _ rfl,rfl,rfl⟩,fun b hb=>?_,q⟩
 have e:b=s1.heap.objs.size:=by simpa using hb
 subst e;exact I1.fpOk (Eh _) (I1.hok.fresh (Eh _))
theorem tZ {pins:List (Addr×Obj)}{σ:St}{H:Hp}{s:Shared}{R:It->Hp->Prop}{E:Value->Shared->Prop}{lo hi:Int}{t u v:Tok}{tk:Nat}(I:aw X pins σ H s)(h1 : -(2 ^ 62)<=lo)(h2:lo<2 ^ 62)(h3 : -(2 ^ 62)<=hi)(h4:hi<2 ^ 62)
  (q:R (AY lo (hi-lo).toNat) H):wpAny (model X.prog X.w) X.A (pyIter (.ref s.heap.objs.size)) (DJ X pins σ tg R) E { s with heap:=s.heap.push { cls:=.type "range",data:=.fields #[.int lo t,.int hi u,.int 1 v] },toks:=tk }:=by
 refine wpAny_pyIter_range (IsRange.new ..) (small_one h1 h2 h3 h4) ?_;have I1:aw X pins σ H { s with heap:=s.heap.push { cls:=.type "range",data:=.fields #[.int lo t,.int hi u,.int 1 v] },toks:=tk }:=I.kept fun b o e=>Heap.get?_push_of_some _ e
 refine⟨(s.heap.push { cls:=.type "range",data:=.fields #[.int lo t,.int hi u,.int 1 v] }).objs.size,[(s.heap.push { cls:=.type "range",data:=.fields #[.int lo t,.int hi u,.int 1 v] }).objs.size],_,_,H,rfl,
  I1.kept (t':=tk) fun b o e=>Heap.get?_push_of_some _ e,vG _ lo (hi-lo).toNat,?_,fun b hb=>?_,q⟩
 ·have e1:lo+((0:Nat):Int)*1=lo:=by simp
  have e2:(((hi-lo).toNat:Nat):Int)-((0:Nat):Int)=Builtin.Range.rangeSize lo hi 1:=by rw[rangeSize_one];split<;>omega
  show IsRangeIter _ _ (lo+((0:Nat):Int)*1) ((((hi-lo).toNat:Nat):Int)-((0:Nat):Int)) 1
  rw[e1,e2];exact Heap.get?_push_size _ rfl
 ·have e:b=(s.heap.push { cls:=.type "range",data:=.fields #[.int lo t,.int hi u,.int 1 v] }).objs.size:=by simpa using hb
  subst e;exact I1.fpOk (Eh _) (I1.hok.fresh (Eh _))
def Ck (ta:TA):TI:=fun σ H R=>ta σ H fun vs H1=>∃ j:Int,vs=[.int j]/\-(2 ^ 62)<=j/\j<2 ^ 62/\R (AY 0 j.toNat) H1
def Cm (ta:TA):TI:=fun σ H R=>ta σ H fun vs H1=>∃ i j:Int,vs=[.int i,.int j]/\(-(2 ^ 62)<=i/\i<2 ^ 62/\-(2 ^ 62)<=j/\j<2 ^ 62)/\R (AY i (j-i).toNat) H1
theorem lI {a:Expr}{ta:TA}{p pos:Pos}(hg:Gl X "range")(hm:X.mg "range" = none)(ha:PA X [a] ta)(hs:starEach [a] X.env=[(false,eval a X.env)]:=by rfl):PI X tg (.Call (.Name "range" p) [a] [] pos) (Ck ta):=by
 intro pins s σ H R I h;refine Call_ (jT I hg hm boot_range (FR (bA (ha pos pins s σ H _ I h) fun us s1 ⟨vs,H1,I1,r1,q1⟩=>?_) hs rfl));obtain⟨j,e,q1,q2,q⟩:=q1;subst e
 cases r1 with
 | cons r rr =>
  cases rr;obtain⟨t,rfl⟩:=r;exact call_range_1 (tZ I1 (by omega) (by omega) q1 q2 (by simpa using q))
theorem qw {a b:Expr}{ta:TA}{p pos:Pos}(hg:Gl X "range")(hm:X.mg "range" = none)(ha:PA X [a,b] ta)(hs:starEach [a,b] X.env=[(false,eval a X.env),(false,eval b X.env)]:=by rfl)(hs2:starEach [b] X.env=[(false,eval b X.env)]:=by rfl) :
  PI X tg (.Call (.Name "range" p) [a,b] [] pos) (Cm ta):=by
 intro pins s σ H R I h;refine Call_ (jT I hg hm boot_range (FR (bA (ha pos pins s σ H _ I h) fun us s1 ⟨vs,H1,I1,r1,q1⟩=>?_) (by rw[hs,hs2]) (by rw[hs2];rfl)));obtain⟨i,j,e,⟨q1,q2,q3,q4⟩,q⟩:=q1;subst e
 cases r1 with
 | cons r rr =>
  cases rr with
  | cons r' rr =>
   cases rr;obtain⟨t,rfl⟩:=r;obtain⟨t',rfl⟩:=r';exact call_range_2 (tZ I1 q1 q2 q3 q4 q)
def DA (wi:TI)(g:TG)(tb:TS):TS:=fun D σ H=>wi σ H fun J H1=>∃ W:Nat->Nat->St->Hp->Prop,(∃ m,W 0 m σ H1)/\∀ i m σ H,W i m σ H ->
 (J.stop i H/\D.nx σ H)\/(J.go i H/\∃ N:St->Hp->Prop,(∀ σ' H',N σ' H'->∃ m',m'<m/\W (i+1) m' σ' H')/\∀ x H',J.yld i H x H'->g x σ H' fun σ2 H2=>tb { D with nx:=N,ct:=N,bk:=D.nx } σ2 H2)
def lJ (fp:List Addr)(h:Heap):List (Addr×Obj):=fp.filterMap fun b=>(h.get? b).map fun o=>(b,o)
theorem eB {fp:List Addr}{h:Heap}{b:Addr}{o:Obj}(hb:b∈fp)(e:h.get? b=some o):(b,o)∈lJ fp h:=List.mem_filterMap.mpr ⟨b,hb,by rw[e];rfl⟩
theorem xJ {fp:List Addr}{h:Heap}{p:Addr×Obj}(hp:p∈lJ fp h):p.1∈fp/\h.get? p.1=some p.2:=by
 obtain⟨b,hb,e⟩:=List.mem_filterMap.mp hp
 cases q:h.get? b with
 | none=>rw[q]at e;cases e
 | some o =>
  rw[q]at e;have e':(b,o)=p:=Ei e;subst e';exact⟨hb,q⟩
theorem aw.pinned {pins:List (Addr×Obj)}{σ:St}{H:Hp}{s:Shared}{fp:List Addr}(I:aw X pins σ H s)(hf:∀ b∈fp,iP X pins H b)(ho:∀ b∈fp,∃ o,s.heap.get? b=some o/\∀ v,o.data≠.cell v):aw X (pins++lJ fp s.heap) σ H s :=
 I.pins_of fun p hp=>(EB.mp hp).elim (fun z=>I.pin p (ED _ z)) fun z=>by
  obtain⟨hb,e⟩:=xJ z;obtain⟨f0,f1,f2,_⟩:=hf p.1 hb;obtain⟨o,e',d⟩:=ho p.1 hb;rw[e]at e';cases e';exact⟨e,f0,f1,f2,d⟩
theorem aw.unpinned {pins pl:List (Addr×Obj)}{σ:St}{H:Hp}{s:Shared}(I:aw X (pins++pl) σ H s):aw X pins σ H s:=I.pins_of fun p hp=>I.pin p (ED _ (FE _ hp))
theorem d4 {bB:Expr}{body:List Stmt}{wi:TI}{g:TG}{tb:TS}{pos:Pos}(hp:PassesOwn (model X.prog X.w) X.A X.env X.xe)(hc:X.calm=true)(hi:PI X tg bB wi)(hg:PG X tg g)(hb:vO X body tb)
  (hs:∀ x,foldedSetIterable bB X.env x=pure x:=by intro _;rfl):PS X (.For tg bB body [] pos) (DA wi g tb):=by
 intro pins s σ H D I h;refine wpAny_For (bA (hi pins s σ H _ I h) fun v s1 h1=>bA h1 fun itv s2 h2=>?_) hs;obtain⟨it,fp,tn,J,H2,e,I2,T,st2,f2,W,⟨m0,w0⟩,turn⟩:=h2;subst e;have stat:∀ {H':Hp},(∀ b∈fp,H' b=none)->∀ b∈fp,iP X pins H' b:=fun hn b hb=>⟨hn b hb,(f2 b hb).2⟩;refine codeAny_forLoop_any (fun n s'=>∃ i σ' H',aw X pins σ' H' s'/\tn i s'.heap/\(∀ b∈fp,H' b=none)/\W i n σ' H') ?_ m0 ⟨0,σ,H2,I2,st2,fun b hb=>(f2 b hb).1,w0⟩;rintro n s3 ⟨i,σ3,H3,I3,st3,fr3,w3⟩;rcases turn i n σ3 H3 w3 with ⟨stop,qn⟩ | ⟨go,N,hN,step⟩
 ·refine wpAny_passesOwn hp (bA (T.done X rfl rfl rfl hc i pins s3 σ3 H3 X.xe I3 (stat fr3) st3 stop) fun r s4 ⟨hr,I4⟩=>?_)
  subst hr;exact wpAny_execs_nil ⟨σ3,H3,I4,qn⟩
 ·refine wpAny_passesOwn hp (bA (T.item X rfl rfl rfl hc i pins s3 σ3 H3 X.xe I3 (stat fr3) st3 go) fun r s4 ⟨u,hr,h4⟩=>?_)
  subst hr;refine wpAny_passesOwn hp (bA h4 fun _ s5 ⟨x,H5,I5,r5,y5,st5,fr5⟩=>?_);have I5':=I5.pinned (stat fr5) (T.obj _ _ st5);refine wpAny_passesOwn hp (bA (hg _ s5 σ3 H5 x u _ I5' r5 (step x H5 y5)) fun _ s6 ⟨σ6,H6,I6,q6⟩=>?_);refine wpAny_passesOwn hp (bA (hb _ s6 σ6 H6 _ I6 q6) fun f s7 q7=>?_)
  have again:∀ {σ7:St}{H7:Hp},aw X (pins++lJ fp s5.heap) σ7 H7 s7->N σ7 H7->∃ m,m<n/\∃ i σ' H',aw X pins σ' H' s7/\tn i s7.heap/\(∀ b∈fp,H' b=none)/\W i m σ' H':=fun {σ7 H7} I7 n7=>by
   obtain⟨m',hm,w7⟩:=hN σ7 H7 n7;refine⟨m',hm,i+1,σ7,H7,I7.unpinned,T.keep _ _ _ st5 fun b hb o e=>(I7.pin (b,o) (ED _ (ED _ (eB hb e)))).1,fun b hb=>?_,w7⟩;obtain⟨o,e,d⟩:=T.obj _ _ st5 b hb;exact (I7.pin (b,o) (ED _ (ED _ (eB hb e)))).2.1
  cases f with
  | next=>obtain⟨σ7,H7,I7,n7⟩:=q7;exact again I7 n7
  | cont=>obtain⟨σ7,H7,I7,n7⟩:=q7;exact again I7 n7
  | brk=>obtain⟨σ7,H7,I7,q7⟩:=q7;exact⟨σ7,H7,I7.unpinned,q7⟩
  | ret v=>obtain⟨x7,σ7,H7,I7,r7,q7⟩:=q7;exact⟨x7,σ7,H7,I7.unpinned,r7,q7⟩
end
theorem cY {K:PySem.W.Frag}{a:Addr}{xs:List V}{g:TG}{tb:TS}{D:k6}{σ:St}{H:Hp}(Pv:Nat->St->Hp->Prop)(h0:Pv 0 σ H)(hl:∀ i σ H,i<=xs.length->Pv i σ H->bz K H a xs)
  (hs:∀ i x σ H,xs[i]? = some x->Pv i σ H->g x σ H fun σ2 H2=>tb { D with nx:=Pv (i+1),ct:=Pv (i+1),bk:=D.nx } σ2 H2) (hd:∀ σ H,Pv xs.length σ H->D.nx σ H) :
  ∃ W:Nat->Nat->St->Hp->Prop,(∃ m,W 0 m σ H)/\∀ i m σ H,W i m σ H ->
   ((AX K a).stop i H/\D.nx σ H)\/((AX K a).go i H/\∃ N:St->Hp->Prop,(∀ σ' H',N σ' H'->∃ m',m'<m/\W (i+1) m' σ' H')/\∀ x H',(AX K a).yld i H x H'->g x σ H' fun σ2 H2=>tb { D with nx:=N,ct:=N,bk:=D.nx } σ2 H2):=by
 refine⟨fun i m σ H=>m=xs.length-i/\i<=xs.length/\Pv i σ H,⟨xs.length,by simp,EK _,h0⟩,?_⟩;rintro i m σ H ⟨rfl,hi,p⟩;have q:=hl i σ H hi p
 by_cases hlt:i<xs.length
 ·refine .inr ⟨⟨xs,xs[i],q,by simp[hlt]⟩,Pv (i+1),fun σ' H' p'=>⟨xs.length-(i+1),by omega,rfl,hlt,p'⟩,fun x H' y=>?_⟩
  obtain⟨e,y⟩:=y;subst e;exact hs i x σ _ (y xs q) p
 ·have e:i=xs.length:=by omega
  subst e;exact .inl ⟨⟨xs,q,Eh _⟩,hd σ H p⟩
theorem zT {K:PySem.W.Frag}{a:Addr}{xs:List V}{g:TG}{tb:TS}{D:k6}{σ:St}{H:Hp}(Pv:Nat->St->Hp->Prop)(h0:Pv 0 σ H)(hl:∀ i σ H,i<=xs.length->Pv i σ H->dv K H a xs)
  (hs:∀ i x σ H,xs[i]? = some x->Pv i σ H->g x σ H fun σ2 H2=>tb { D with nx:=Pv (i+1),ct:=Pv (i+1),bk:=D.nx } σ2 H2) (hd:∀ σ H,Pv xs.length σ H->D.nx σ H) :
  ∃ W:Nat->Nat->St->Hp->Prop,(∃ m,W 0 m σ H)/\∀ i m σ H,W i m σ H ->
   ((B6 K a).stop i H/\D.nx σ H)\/((B6 K a).go i H/\∃ N:St->Hp->Prop,(∀ σ' H',N σ' H'->∃ m',m'<m/\W (i+1) m' σ' H')/\∀ x H',(B6 K a).yld i H x H'->g x σ H' fun σ2 H2=>tb { D with nx:=N,ct:=N,bk:=D.nx } σ2 H2):=by
 refine⟨fun i m σ H=>m=xs.length-i/\i<=xs.length/\Pv i σ H,⟨xs.length,by simp,EK _,h0⟩,?_⟩;rintro i m σ H ⟨rfl,hi,p⟩;have q:=hl i σ H hi p
 by_cases hlt:i<xs.length
 ·refine .inr ⟨⟨xs,xs[i],q,by simp[hlt]⟩,Pv (i+1),fun σ' H' p'=>⟨xs.length-(i+1),by omega,rfl,hlt,p'⟩,fun x H' y=>?_⟩
  obtain⟨e,y⟩:=y;subst e;exact hs i x σ _ (y xs q) p
 ·have e:i=xs.length:=by omega
  subst e;exact .inl ⟨⟨xs,q,Eh _⟩,hd σ H p⟩
theorem gM {lo:Int}{n:Nat}{g:TG}{tb:TS}{D:k6}{σ:St}{H:Hp}(Pv:Nat->St->Hp->Prop)(h0:Pv 0 σ H)
  (hs:∀ i σ H,i<n->Pv i σ H->g (.int (lo+i)) σ H fun σ2 H2=>tb { D with nx:=Pv (i+1),ct:=Pv (i+1),bk:=D.nx } σ2 H2) (hd:∀ σ H,Pv n σ H->D.nx σ H) :
  ∃ W:Nat->Nat->St->Hp->Prop,(∃ m,W 0 m σ H)/\∀ i m σ H,W i m σ H ->
   ((AY lo n).stop i H/\D.nx σ H)\/((AY lo n).go i H/\∃ N:St->Hp->Prop,(∀ σ' H',N σ' H'->∃ m',m'<m/\W (i+1) m' σ' H')/\∀ x H',(AY lo n).yld i H x H'->g x σ H' fun σ2 H2=>tb { D with nx:=N,ct:=N,bk:=D.nx } σ2 H2):=by
 refine⟨fun i m σ H=>m=n-i/\i<=n/\Pv i σ H,⟨n,by simp,EK _,h0⟩,?_⟩;rintro i m σ H ⟨rfl,hi,p⟩
 by_cases hlt:i<n
 ·refine .inr ⟨hlt,Pv (i+1),fun σ' H' p'=>⟨n-(i+1),by omega,rfl,hlt,p'⟩,fun x H' y=>?_⟩
  obtain⟨e,y⟩:=y;subst e y;exact hs i σ _ hlt p
 ·have e:i=n:=by omega
  subst e;exact .inl ⟨Eh _,hd σ H p⟩
abbrev R2:=V->V->Hp->VK->Prop
def m5 (X:Cx)(f:Value->Value->Sem Value)(r:R2):Prop :=
 ∀ (pins:List (Addr×Obj))(s:Shared)(σ:St)(H:Hp)(x y:V)(v u:Value)(Q:VK),aw X pins σ H s->aT x v->aT y u->r x y H Q ->
  wpAny (model X.prog X.w) X.A (f v u) (EP X pins σ Q) X.xe s
def Dg (X:Cx)(f:Value->Sem Value)(r:V->Hp->VK->Prop):Prop :=
 ∀ (pins:List (Addr×Obj))(s:Shared)(σ:St)(H:Hp)(x:V)(v:Value)(Q:VK),aw X pins σ H s->aT x v->r x H Q ->
  wpAny (model X.prog X.w) X.A (f v) (EP X pins σ Q) X.xe s
def lR (X:Cx)(f:Value)(r:List V->Hp->VK->Prop):Prop :=
 ∀ (pins:List (Addr×Obj))(s:Shared)(σ:St)(H:Hp)(xs:List V)(us:List Value)(Q:VK),aw X pins σ H s->aU xs us->r xs H Q ->
  wpAny (model X.prog X.w) X.A (call f us) (EP X pins σ Q) X.xe s
def C0 (r:R2)(ta tb:TE):TE:=fun σ H Q=>ta σ H fun x H1=>tb σ H1 fun y H2=>r x y H2 Q
def D9 (r:V->Hp->VK->Prop)(ta:TE):TE:=fun σ H Q=>ta σ H fun x H1=>r x H1 Q
inductive RI (C:Int->Int->Prop) (g:Int->Int->V) (x y:V) (H:Hp) (Q:VK):Prop
 | mk (i j:Int) (e1:x=.int i) (e2:y=.int j) (c:C i j) (h:Q (g i j) H):RI C g x y H Q
def rI (C:Int->Int->Prop)(g:Int->Int->V):R2:=fun x y H Q=>RI C g x y H Q
inductive DL (g:Int->Int->V) (x y:V) (H:Hp) (Q:VK):Prop
 | mk (i j:Int) (e1:x=.int i) (e2:y=.int j) (h:Q (g i j) H):DL g x y H Q
def AD (g:Int->Int->V):R2:=fun x y H Q=>DL g x y H Q
def rU (g:Int->V):V->Hp->VK->Prop:=fun x H Q=>∃ i,x=.int i/\Q (g i) H
section
variable {X:Cx}{a b c:Expr}{ta tb tc:TE}{pos:Pos}
theorem A3 (ha:PE X a ta)(hb:PE X b tb){pins:List (Addr×Obj)}{s:Shared}{σ:St}{H:Hp}{R:V->V->Hp->Prop}(I:aw X pins σ H s)
  (h:ta σ H fun x H1=>tb σ H1 fun y H2=>R x y H2) {Q:Value->Shared->Prop} {f:Value->Value->Sem Value}
  (hf:∀ v u s2 x y H2,aw X pins σ H2 s2->aT x v->aT y u->R x y H2->wpAny (model X.prog X.w) X.A (f v u) Q X.xe s2) :
  wpAny (model X.prog X.w) X.A (eval a X.env) (fun v s₁=>wpAny (model X.prog X.w) X.A (eval b X.env) (fun u s₂=>wpAny (model X.prog X.w) X.A (f v u) Q X.xe s₂) X.xe s₁) X.xe s:=by
 refine bA (ha pins s σ H _ I h) fun v s1 ⟨x,H1,I1,r1,q1⟩=>?_;refine bA (hb pins s1 σ H1 _ I1 q1) fun u s2 ⟨y,H2,I2,r2,q2⟩=>?_;exact hf v u s2 x y H2 I2 r1 r2 q2
theorem aM {op:Operator}{r:R2}(ho:m5 X (binaryOp op) r)(ha:PE X a ta)(hb:PE X b tb):PE X (.BinOp a op b pos) (C0 r ta tb):=by
 intro pins s σ H Q I h;exact wpAny_BinOp (A3 ha hb I h fun v u s2 x y H2 I2 rx ry q=>ho pins s2 σ H2 x y v u Q I2 rx ry q)
theorem AC {op:UnaryOp}{r:V->Hp->VK->Prop}(ho:Dg X (unaryOp op) r)(ha:PE X a ta):PE X (.UnaryOp op a pos) (D9 r ta):=by
 intro pins s σ H Q I h;exact UnaryOp_ (bA (ha pins s σ H _ I h) fun v s1 ⟨x,H1,I1,r1,q1⟩=>ho pins s1 σ H1 x v Q I1 r1 q1)
theorem Cq {f:Value->Value->Sem Value}{C:Int->Int->Prop}{g:Int->Int->Int}
  (rule:∀ (i j:Int)(t u:Tok)(s:Shared)(Q:Value->Shared->Prop)(E:Value->Shared->Prop),C i j->Q (.int (g i j) s.toks) { s with toks:=s.toks+1 }->wpAny (model X.prog X.w) X.A (f (.int i t) (.int j u)) Q E s) :
  m5 X f (rI C fun i j=>.int (g i j)):=by
 intro pins s σ H x y v u Q I rx ry h;obtain⟨i,j,rfl,rfl,hc,q⟩:=h;obtain⟨t,rfl⟩:=rx;obtain⟨t',rfl⟩:=ry;exact rule i j t t' s _ _ hc ⟨.int (g i j),H,I.tok _,⟨_,rfl⟩,q⟩
theorem Cr {f:Value->Value->Sem Value}{g:Int->Int->Int}
  (rule:∀ (i j:Int)(t u:Tok)(s:Shared)(Q:Value->Shared->Prop)(E:Value->Shared->Prop),Q (.int (g i j) s.toks) { s with toks:=s.toks+1 }->wpAny (model X.prog X.w) X.A (f (.int i t) (.int j u)) Q E s) :
  m5 X f (AD fun i j=>.int (g i j)):=by
 intro pins s σ H x y v u Q I rx ry h;obtain⟨i,j,rfl,rfl,q⟩:=h;obtain⟨t,rfl⟩:=rx;obtain⟨t',rfl⟩:=ry;exact rule i j t t' s _ _ ⟨.int (g i j),H,I.tok _,⟨_,rfl⟩,q⟩
theorem Ae {f:Value->Value->Sem Value}{g:Int->Int->Bool}
  (rule:∀ (i j:Int)(t u:Tok)(s:Shared)(Q:Value->Shared->Prop)(E:Value->Shared->Prop),Q (.bool (g i j)) s->wpAny (model X.prog X.w) X.A (f (.int i t) (.int j u)) Q E s) :
  m5 X f (AD fun i j=>.bl (g i j)):=by
 intro pins s σ H x y v u Q I rx ry h;obtain⟨i,j,rfl,rfl,q⟩:=h;obtain⟨t,rfl⟩:=rx;obtain⟨t',rfl⟩:=ry;exact rule i j t t' s _ _ ⟨.bl (g i j),H,I,rfl,q⟩
def C6 (i j:Int):Prop:=0<j/\j<1073741824
def C7 (i j:Int):Prop:=0<=j/\j<=1000000/\i.natAbs<2 ^ 64
def AW (i j:Int):Prop:=(-(2 ^ 64)<i/\i<2 ^ 64)\/(-(2 ^ 64)<j/\j<2 ^ 64)
theorem AW.ok {i j:Int}(h:AW i j):IntMulOk i j:=by
 rcases h with ⟨h1,h2⟩ | ⟨h1,h2⟩
 ·exact .of_left (intBits_le_64 h1 h2)
 ·exact .of_right (intBits_le_64 h1 h2)
theorem e8:m5 X (binaryOp .Add) (AD fun i j=>.int (i+j)):=Cr fun _ _ _ _ _ _ _ q=>add_int q
theorem lG:m5 X (binaryOp .Sub) (AD fun i j=>.int (i-j)):=Cr fun _ _ _ _ _ _ _ q=>sub_int q
theorem oX:m5 X (binaryOp .Mult) (rI AW fun i j=>.int (i*j)):=Cq fun _ _ _ _ _ _ _ hc q=>mul_int q hc.ok
theorem f8:m5 X (binaryOp .FloorDiv) (rI C6 fun i j=>.int (i/j)):=Cq fun i j _ _ _ _ _ hc q=>by
 have h1:(0:Int)<j:=hc.1;have h2:j<1073741824:=hc.2;exact floordiv_int (by omega) (by rw[Int.fdiv_eq_ediv_of_nonneg i (by omega)];exact q) (.inl (PyProof.noPylong_small (by omega)))
theorem cC:m5 X (binaryOp .Mod) (rI (fun _ j=>0<j) fun i j=>.int (i%j)):=Cq fun i j _ _ _ _ _ hc q=>by
 have h1:(0:Int)<j:=hc;exact mod_int' (by omega) (by rw[Int.fmod_eq_emod_of_nonneg i (by omega)];exact q)
theorem yL:m5 X (binaryOp .Pow) (rI C7 fun i j=>.int (i ^ j.toNat)):=Cq fun _ _ _ _ _ _ _ hc q=>pow_int_small hc.1 hc.2.1 hc.2.2 q
theorem Ea {f:Value->Sem Value}{g:Int->Int}
  (rule:∀ (i:Int)(t:Tok)(s:Shared)(Q:Value->Shared->Prop)(E:Value->Shared->Prop),Q (.int (g i) s.toks) { s with toks:=s.toks+1 }->wpAny (model X.prog X.w) X.A (f (.int i t)) Q E s) :
  Dg X f (rU fun i=>.int (g i)):=by
 intro pins s σ H x v Q I rx h;obtain⟨i,rfl,q⟩:=h;obtain⟨t,rfl⟩:=rx;exact rule i t s _ _ ⟨.int (g i),H,I.tok _,⟨_,rfl⟩,q⟩
theorem zm:Dg X (unaryOp .USub) (rU fun i=>.int (-i)):=Ea fun _ _ _ _ _ q=>neg_int q
end
def CA:V->V->Bool
 | .non,.non=>true | .non,.int _=>true | .int _,.non=>true | .non,.bl _=>true | .bl _,.non=>true | .non,.str _=>true | .str _,.non=>true
 | .int _,.int _=>true | .bl _,.bl _=>true | .str _,.str _=>true | .byt _,.byt _=>true
 | .int _,.str _=>true | .str _,.int _=>true | .bl _,.str _=>true | .str _,.bl _=>true
 | _,_=>false
def D2:R2:=fun x y H Q=>CA x y=true/\Q (.bl (decide (x=y))) H
def D3:R2:=fun x y H Q=>CA x y=true/\Q (.bl (!decide (x=y))) H
theorem vY {i j:Int}:decide (V.int i=V.int j)=(i == j):=by
 rw[Bool.eq_iff_iff];simp
theorem yd {i j:Bool}:decide (V.bl i=V.bl j)=(i == j):=by
 rw[Bool.eq_iff_iff];simp
theorem vZ {i j:Str}:decide (V.str i=V.str j)=(i == j):=by
 rw[Bool.eq_iff_iff];simp
theorem vX {i j:Array UInt8}:decide (V.byt i=V.byt j)=(i.toList == j.toList):=by
 rw[Bool.eq_iff_iff];cases i;cases j;simp
section
variable {X:Cx}{a b c:Expr}{ta tb tc:TE}{pos:Pos}
theorem bo {pins:List (Addr×Obj)}{σ:St}{H:Hp}{s:Shared}{Q:VK}{k k':Bool}(I:aw X pins σ H s)(q:Q (.bl k) H)(e:k=k'):EP X pins σ Q (.bool k') s:=by
 subst e;exact⟨.bl k,H,I,rfl,q⟩
theorem dX:m5 X (compareOp .Eq) D2:=by
 intro pins s σ H x y v u Q I rx ry h;obtain⟨hs,q⟩:=h
 cases x with
 | non =>
  cases rx
  cases y with
  | non=>cases ry;exact PySem.EqNone.eq_none_none (bo I q (by simp))
  | bl j=>cases ry;exact PySem.EqNone.eq_none_bool (bo I q (by simp))
  | int j=>obtain⟨t',rfl⟩:=ry;exact PySem.EqNone.eq_none_int (bo I q (by simp))
  | str j=>obtain⟨t',rfl⟩:=ry;exact PySem.EqNone.eq_none_str (bo I q (by simp))
  | _=>exact absurd (show false=true from hs) Ej
 | bl i =>
  cases rx
  cases y with
  | non=>cases ry;exact PySem.EqNone.eq_bool_none (bo I q (by simp))
  | bl j=>cases ry;exact eq_bool (bo I q yd)
  | str j=>obtain⟨t',rfl⟩:=ry;exact PySem.EqMixed.eq_bool_str (bo I q (by simp))
  | _=>exact absurd (show false=true from hs) Ej
 | int i =>
  obtain⟨t,rfl⟩:=rx
  cases y with
  | non=>cases ry;exact PySem.EqNone.eq_int_none (bo I q (by simp))
  | int j=>obtain⟨t',rfl⟩:=ry;exact eq_int (bo I q vY)
  | str j=>obtain⟨t',rfl⟩:=ry;exact PySem.EqMixed.eq_int_str (bo I q (by simp))
  | _=>exact absurd (show false=true from hs) Ej
 | str i =>
  obtain⟨t,rfl⟩:=rx
  cases y with
  | non=>cases ry;exact PySem.EqNone.eq_str_none (bo I q (by simp))
  | bl j=>cases ry;exact PySem.EqMixed.eq_str_bool (bo I q (by simp))
  | int j=>obtain⟨t',rfl⟩:=ry;exact PySem.EqMixed.eq_str_int (bo I q (by simp))
  | str j=>obtain⟨t',rfl⟩:=ry;exact eq_str (bo I q vZ)
  | _=>exact absurd (show false=true from hs) Ej
 | byt i =>
  obtain⟨t,rfl⟩:=rx
  cases y with
  | byt j=>obtain⟨t',rfl⟩:=ry;exact PySem.W.eq_bytes (bo I q vX)
  | _=>exact absurd (show false=true from hs) Ej
 | _=>cases y<;>exact absurd (show false=true from hs) Ej
theorem qu:m5 X (compareOp .NotEq) D3:=by
 intro pins s σ H x y v u Q I rx ry h;obtain⟨hs,q⟩:=h
 cases x with
 | non =>
  cases rx
  cases y with
  | non=>cases ry;exact PySem.EqNone.ne_none_none (bo I q (by simp))
  | bl j=>cases ry;exact PySem.EqNone.ne_none_bool (bo I q (by simp))
  | int j=>obtain⟨t',rfl⟩:=ry;exact PySem.EqNone.ne_none_int (bo I q (by simp))
  | str j=>obtain⟨t',rfl⟩:=ry;exact PySem.EqNone.ne_none_str (bo I q (by simp))
  | _=>exact absurd (show false=true from hs) Ej
 | bl i =>
  cases rx
  cases y with
  | non=>cases ry;exact PySem.EqNone.ne_bool_none (bo I q (by simp))
  | bl j=>cases ry;exact ne_bool (bo I q (EM not yd))
  | str j=>obtain⟨t',rfl⟩:=ry;exact PySem.EqMixed.ne_bool_str (bo I q (by simp))
  | _=>exact absurd (show false=true from hs) Ej
 | int i =>
  obtain⟨t,rfl⟩:=rx
  cases y with
  | non=>cases ry;exact PySem.EqNone.ne_int_none (bo I q (by simp))
  | int j=>obtain⟨t',rfl⟩:=ry;exact ne_int (bo I q (EM not vY))
  | str j=>obtain⟨t',rfl⟩:=ry;exact PySem.EqMixed.ne_int_str (bo I q (by simp))
  | _=>exact absurd (show false=true from hs) Ej
 | str i =>
  obtain⟨t,rfl⟩:=rx
  cases y with
  | non=>cases ry;exact PySem.EqNone.ne_str_none (bo I q (by simp))
  | bl j=>cases ry;exact PySem.EqMixed.ne_str_bool (bo I q (by simp))
  | int j=>obtain⟨t',rfl⟩:=ry;exact PySem.EqMixed.ne_str_int (bo I q (by simp))
  | str j=>obtain⟨t',rfl⟩:=ry;exact ne_str (bo I q (EM not vZ))
  | _=>exact absurd (show false=true from hs) Ej
 | byt i =>
  obtain⟨t,rfl⟩:=rx
  cases y with
  | byt j=>obtain⟨t',rfl⟩:=ry;exact PySem.W.ne_bytes (bo I q (EM not vX))
  | _=>exact absurd (show false=true from hs) Ej
 | _=>cases y<;>exact absurd (show false=true from hs) Ej
theorem qt:m5 X (compareOp .Lt) (AD fun i j=>.bl (decide (i<j))):=Ae fun _ _ _ _ _ _ _ q=>lt_int q
theorem Ct:m5 X (compareOp .LtE) (AD fun i j=>.bl (decide (i<=j))):=Ae fun _ _ _ _ _ _ _ q=>le_int q
theorem Cs:m5 X (compareOp .Gt) (AD fun i j=>.bl (decide (j<i))):=Ae fun _ _ _ _ _ _ _ q=>gt_int q
theorem yK:m5 X (compareOp .GtE) (AD fun i j=>.bl (decide (j<=i))):=Ae fun _ _ _ _ _ _ _ q=>ge_int q
theorem aQ (b:Expr){op:CmpOp}(h:op≠.In:=by decide)(h2:op≠.NotIn:=by decide):behindInMarks op b=false:=by
 have e1:(op == CmpOp.In)=false:=by cases op<;>first | rfl | exact absurd rfl h
 have e2:(op == CmpOp.NotIn)=false:=by cases op<;>first | rfl | exact absurd rfl h2
 cases b<;>simp[behindInMarks,e1,e2]
theorem Ag {op:CmpOp}{r:R2}(ho:m5 X (compareOp op) r)(ha:PE X a ta)(hb:PE X b tb)(hm:behindInMarks op b=false):PE X (.Compare a [op] [b] pos) (C0 r ta tb):=by
 intro pins s σ H Q I h;exact wpAny_Compare1 (A3 ha hb I h fun v u s2 x y H2 I2 rx ry q=>ho pins s2 σ H2 x y v u Q I2 rx ry q) hm
def AH (t:TE):TT:=fun σ H Q=>t σ H fun x H'=>Df Q x H'
theorem aE {op:CmpOp}{r:R2}(ho:m5 X (compareOp op) r)(ha:PE X a ta)(hb:PE X b tb)(hm:behindInMarks op b=false):PT X (.Compare a [op] [b] pos) (AH (C0 r ta tb)):=by
 intro pins s σ H Q I h
 refine wpAny_isTrue_Compare1 (bA (ha pins s σ H _ I h) fun v s1 ⟨x,H1,I1,r1,q1⟩=>bA (hb pins s1 σ H1 _ I1 q1) fun u s2 ⟨y,H2,I2,r2,q2⟩ =>
  bA (ho pins s2 σ H2 x y v u _ I2 r1 r2 q2) fun c s3 ⟨z,H3,I3,r3,k,e,q3⟩=>?_) hm
 subst e;cases r3;exact Fu ⟨H3,I3,q3⟩
def Bx (r r':R2)(ta tb tc:TE):TE:=fun σ H Q=>ta σ H fun x H1=>tb σ H1 fun y H2=>r x y H2 fun z H3=>∃ k,z=.bl k /\
 (if k=true then tc σ H3 fun w' H4=>r' y w' H4 Q else Q (.bl false) H3)
theorem y0 {op op':CmpOp}{r r':R2}(ho:m5 X (compareOp op) r)(ho':m5 X (compareOp op') r')(ha:PE X a ta)(hb:PE X b tb)(hc:PE X c tc)
  (hm:lastMarks [op,op'] [b,c]=false:=by with_unfolding_all rfl):PT X (.Compare a [op,op'] [b,c] pos) (AH (Bx r r' ta tb tc)):=by
 intro pins s σ H Q I h
 refine isTrue_chain (bA (ha pins s σ H _ I h) fun v s1 ⟨x,H1,I1,r1,q1⟩=>test_link (bA (hb pins s1 σ H1 _ I1 q1) fun u s2 ⟨y,H2,I2,r2,q2⟩ =>
  bA (ho pins s2 σ H2 x y v u _ I2 r1 r2 q2) fun d s3 ⟨z,H3,I3,r3,k,e,q3⟩=>?_)) hm
 subst e;cases r3;refine Fu ?_
 cases k with
 | false =>
  obtain⟨k',e',q'⟩:=q3;cases e';exact ite_ff ⟨H3,I3,q'⟩
 | true =>
  refine ite_tt (test_last (bA (hc pins s3 σ H3 _ I3 q3) fun w' s4 ⟨z',H4,I4,r4,q4⟩=>bA (ho' pins s4 σ H4 y z' u w' _ I4 r2 r4 q4) fun d' s5 ⟨z2,H5,I5,r5,k2,e2,q5⟩=>?_));subst e2;cases r5;exact Fu ⟨H5,I5,q5⟩
theorem u0:(sizeLine:Nat)<2 ^ 63:=by rw[FD];decide
theorem mI {x:V}{us:List Value}(r:aU [x] us):∃ u,us=[u]/\aT x u:=by
 cases r with
 | cons r1 r2=>cases r2;exact⟨_,rfl,r1⟩
end
structure uA (h:Heap)(x dx C:Addr)(mA:Str->Option Value):Prop where
 obj:h.get? x=some (PySem.W.instObj C dx)
 ns:h.Ns1 dx mA
 ne:dx≠x
theorem xB {h:Heap}{dx:Addr}{mA:Str->Option Value}(n:h.Ns1 dx mA):∃ od,h.get? dx=some od/\∀ name,PySem.W.lookIn name od=some (mA name):=by
 obtain⟨o,es,ep,ho,hd,hk,_,hm⟩:=n;refine⟨o,ho,fun name=>?_⟩;have e:=hm name;unfold nsFind findBy at e;rw[<-Array.find?_toList]at e;unfold PySem.W.lookIn;rw[hd];dsimp only;split
 ·rename_i y q
  rw[q]at e;exact EM some e
 ·rename_i q
  rw[q]at e
  have a:es.toList.any (·.refKey)=false:=by
   rw[List.any_eq_false];intro y hy;obtain⟨z,t,hkey⟩:=hk y (F1.mp hy);simp[DictEntry.refKey,hkey]
  have a':¬ es.toList.any (·.refKey)=true:=by rw[a];exact Ej
  rw[Ed a'];exact EM some e
theorem uA.look {h:Heap}{x dx C:Addr}{mA:Str->Option Value}(I:uA h x dx C mA):∃ od,PySem.W.InstAt h x (PySem.W.instObj C dx) C (some od)/\∀ name,PySem.W.lookIn name od=some (mA name) :=
 let ⟨od,ho,hl⟩:=xB I.ns
 ⟨od,⟨I.obj,rfl,rfl,ho⟩,hl⟩
section
variable {prog:Program}{w:World}{A:Around}{E:Value->Shared->Prop}{s:Shared}{K:PySem.W.Frag}{x dx C f:Addr}{mA:Str->Option Value}{name:Str}{v:Value}
theorem zU {expr:Bool}{Q:Value->Shared->Prop}(X:K.In s.heap)(I:uA s.heap x dx C mA)(hg:PySem.W.plainGet K C name=true)(hh:PySem.W.hasDictIn K C=true)
  (ha:PySem.W.findIn K (.ref C) name=some none) (hv:mA name=some v) (hv':PySem.W.handedIn v=true) (h:Q v { s with toks:=s.toks+1 }) :
  wpAny (model prog w) A (getAttr (.ref x) name expr) Q E s:=by
 obtain⟨od,J,hl⟩:=I.look;exact PySem.W.get_value X J (PySem.W.plainGet_of hg).1 (PySem.W.findObj_own hh ha rfl (by rw[hl,hv])) hv' h
theorem yr {pl:Sem Bool}{Q:Value×List Value->Shared->Prop}(X:K.In s.heap)(I:uA s.heap x dx C mA)(hg:PySem.W.plainGet K C name=true)
  (hf:PySem.W.findIn K (.ref C) name=some (some (.ref f))) (ht:PySem.W.isFn K (.ref f)=true) (hv:mA name=none) (h:Q (.ref f,[.ref x]) s) :
  wpAny (model prog w) A (getMethod (.ref x) name pl) Q E s:=by
 obtain⟨od,J,hl⟩:=I.look;exact PySem.W.method_fn X J (PySem.W.plainGet_of hg).1 (PySem.W.plainGet_of hg).2 hf (FO.mp ht) (by show (PySem.W.lookIn name od).map (·.isSome)=some false;rw[hl,hv];rfl) h
theorem Ap {ns:List Str}{Q:Unit->Shared->Prop}(X:K.In s.heap)(I:uA s.heap x dx C mA)
  (hs:PySem.W.findIn K (.ref C) "__setattr__" = some (some (.builtin "object.__setattr__"))) (hp:PySem.W.plainOver K C=true) (ht:PySem.W.takerIn K C name=some none) (hh:PySem.W.hasDictIn K C=true)
  (hw:PySem.Within mA ns) (hsz:ns.length<=sizeLine)
  (h:∀ h',uA h' x dx C (fun y=>if y=name then some v else mA y)->Heap.SameBut dx s.heap h'->Q () { s with heap:=h',toks:=s.toks+2 }) :
  wpAny (model prog w) A (setAttr (.ref x) name v) Q E s:=by
 obtain⟨od,J,hl⟩:=I.look;refine PySem.W.set_plain X J hs (PySem.W.osa_open (s:={ s with toks:=s.toks+1 }) (r:=none) X J hp ht fun b=>?_);obtain⟨cd,hc,hd'⟩:=PySem.W.any_some hh;have hx:s.heap.get? x=some ⟨.ref C,some dx,.plain,#[]⟩:=I.obj;refine Ef (Et (Ef (Ef (wpAny_loadPart hx (Ef (PySem.W.Looks.here (s:={ s with toks:=s.toks+1 }) (PySem.W.looks_clsIn X hc) ?_))))));rw[hd'];refine Et (a:=some dx) (Ef (Et (Ef ?_)));refine wpAny_nsSet1 (s:={ s with toks:=s.toks+1 }) I.ns fun h' hn2 hs2=>?_;obtain⟨oD,esD,epD,hoD,hdD,hcD⟩:=hn2.count (PySem.Within.cons name v hw);refine Ef (wpAny_lookBehind hoD (by rw[hdD];exact pastItsLine_dict (EI hcD (by rw[EO];omega))) ?_);exact Et (h _ ⟨(hs2.2 _ (Ex I.ne)).trans I.obj,hn2,I.ne⟩ hs2)
theorem yE {R:Result->Shared->Prop}{vs:List Value}{kw:List (Str×Value)}(X:K.In s.heap)(hm:PySem.W.makesIn K C=true)
  (hi:PySem.W.findIn K (.ref C) "__init__" = some (some (.ref f))) (hf:PySem.W.typeIn K (.ref f)=some (.type "function"))
  (h:codeAny (model prog w) (A.under (.builtin "type.__call__" ⟨.ref C::vs,kw⟩)) (.call (.ref f) ⟨.ref (s.heap.objs.size+1)::vs,kw⟩) (PySem.W.InitBack (s.heap.objs.size+1) R)
   { s with heap:=(s.heap.push PySem.W.emptyDict).push (PySem.W.instObj C s.heap.objs.size) }) :
  codeAny (model prog w) A (.call (.ref C) ⟨vs,kw⟩) R s:=by
 obtain⟨hh,g,d,t,os⟩:=s;exact PySem.W.make_core (PySem.W.makes_of X hm) (PySem.W.looks_findIn X hi) (fun self=>PySem.W.bind_fn X self hf) (.inl rfl) h
end
def gS (f:Str)(v:V):List (Str×V)->List (Str×V)
 | []=>[(f,v)]
 | (g,x)::r=>if g=f then (g,v)::r else (g,x)::gS f v r
theorem aR (f g:Str)(v:V):∀ fs:List (Str×V),(gS f v fs).lookup g=if g=f then some v else fs.lookup g
 | []=>by
  show List.lookup g [(f,v)]=_
  by_cases h:g=f
  ·have hb:(g == f)=true:=FO.mpr h
   simp only[List.lookup,hb,Ee h]
  ·have hb:(g == f)=false:=Fo.mpr h
   simp only[List.lookup,hb,Ed h]
 | (k,x)::r=>by
  have ih:=aR f g v r;rw[show gS f v ((k,x)::r)=(if k=f then (k,v)::r else (k,x)::gS f v r) from rfl]
  by_cases hk:k=f
  ·rw[Ee hk]
   by_cases h:g=k
   ·have hb:(g == k)=true:=FO.mpr h
    simp only[List.lookup,hb,Ee (h.trans hk)]
   ·have hb:(g == k)=false:=Fo.mpr h
    simp only[List.lookup,hb,Ed (fun e:g=f=>h (e.trans hk.symm))]
  ·rw[Ed hk]
   by_cases h:g=k
   ·have hb:(g == k)=true:=FO.mpr h
    simp only[List.lookup,hb,Ed (fun e:g=f=>hk (h.symm.trans e))]
   ·have hb:(g == k)=false:=Fo.mpr h
    simp only[List.lookup,hb];exact ih
theorem lu (f:Str)(v:V):∀ fs:List (Str×V),f∈(gS f v fs).map (·.1)/\∀ g,g∈fs.map (·.1)->g∈(gS f v fs).map (·.1)
 | []=>⟨by simp[gS],fun g h=>by simp at h⟩
 | (k,x)::r=>by
  obtain⟨i1,i2⟩:=lu f v r;rw[show gS f v ((k,x)::r)=(if k=f then (k,v)::r else (k,x)::gS f v r) from rfl]
  by_cases hk:k=f
  ·rw[Ee hk]
   subst hk;exact⟨by simp,fun g h=>by simpa using h⟩
  ·rw[Ed hk]
   refine⟨?_,fun g h=>?_⟩
   ·rw[EF]
    exact Ek _ i1
   ·rw[EF]at h ⊢
    rcases En.mp h with e | e
    ·exact En.mpr (.inl e)
    ·exact Ek _ (i2 g e)
theorem my (f:Str)(v:V):∀ fs:List (Str×V),(gS f v fs).length<=fs.length+1
 | []=>by simp[gS]
 | (k,x)::r=>by
  have ih:=my f v r;rw[show gS f v ((k,x)::r)=(if k=f then (k,v)::r else (k,x)::gS f v r) from rfl]
  by_cases hk:k=f
  ·rw[Ee hk,EO,EO];omega
  ·rw[Ed hk,EO,EO];omega
theorem gK.some_of {v:V}{o:Option Value}(r:gK (some v) o):∃ u,o=some u/\aT v u:=by
 cases o with
 | none=>exact (show False from r).elim
 | some u=>exact⟨u,rfl,r⟩
theorem gK.none_of {o:Option Value}(r:gK none o):o=none:=by
 cases o with
 | none=>rfl
 | some u=>exact (show False from r).elim
theorem xo {v:V}{u:Value}(r:aT v u):PySem.W.handedIn u=true:=by
 cases v with
 | non=>cases (show u=Value.none from r);rfl
 | bl b=>cases (show u=Value.bool b from r);rfl
 | int i=>obtain⟨t,e⟩:=(show ∃ t,u=Value.int i t from r);cases e;rfl
 | str x=>obtain⟨t,e⟩:=(show ∃ t,u=Value.str x t from r);cases e;rfl
 | byt b=>obtain⟨t,e⟩:=(show ∃ t,u=Value.bytes b t from r);cases e;rfl
 | flt b=>obtain⟨t,e⟩:=(show ∃ t,u=Value.float b t from r);cases e;rfl
 | ref a=>cases (show u=Value.ref a from r);rfl
 | ty n=>cases (show u=Value.type n from r);rfl
section
variable {P:Program}{w:World}{H H':Hp}{h h':Heap}{a C dx:Addr}{fs fs':List (Str×V)}
theorem ng (hok:iJ P w H h)(e:H a=some (.ins C dx fs)):∃ mA,uA h a dx C mA/\(∀ f,gK (fs.lookup f) (mA f))/\PySem.Within mA (fs.map (·.1))/\fs.length<=1000/\H dx=some (.own a):=by
 obtain⟨d,z,ne,ob,mA,n,r,q⟩:=(show bD P w H h a (.ins C dx fs) from hok a _ e);exact⟨mA,⟨ob,n,ne⟩,r,q,z,d⟩
end
structure wY (K:PySem.W.Frag)(C:Addr):Prop where
 pg:PySem.W.plainGet K C Str.empty=true
 hd:PySem.W.hasDictIn K C=true
 po:PySem.W.plainOver K C=true
 sa:PySem.W.findIn K (.ref C) "__setattr__" = some (some (.builtin "object.__setattr__"))
theorem wY.get {K:PySem.W.Frag}{C:Addr}(c:wY K C)(f:Str):PySem.W.plainGet K C f=true:=c.pg
def gn (K:PySem.W.Frag)(C:Addr)(f:Str):Prop:=PySem.W.findIn K (.ref C) f=some none
theorem gn.taker {K:PySem.W.Frag}{C:Addr}{f:Str}(n:gn K C f):PySem.W.takerIn K C f=some none:=by
 unfold PySem.W.takerIn;rw[show PySem.W.findIn K (.ref C) f=some none from n];rfl
structure zD (K:PySem.W.Frag)(C:Addr)(m:Str)(f:Addr):Prop where
 at_:PySem.W.findIn K (.ref C) m=some (some (.ref f))
 fn:PySem.W.isFn K (.ref f)=true
 kp:PySem.W.keepIn K (.ref f)=true
section
variable {X:Cx}{pins:List (Addr×Obj)}{σ:St}{H:Hp}{s:Shared}{a C dx:Addr}{fs:List (Str×V)}{f:Str}{v:V}{A:Around}{E:Value->Shared->Prop}
theorem uM {b:Bool}{Q:Value->Shared->Prop}(I:aw X pins σ H s)(e:H a=some (.ins C dx fs))(c:wY X.K C)(n:gn X.K C f)(l:fs.lookup f=some v)
  (h:∀ u s',aw X pins σ H s'->aT v u->Q u s'):wpAny (model X.prog X.w) A (getAttr (.ref a) f b) Q E s:=by
 obtain⟨mA,O,r,_,_,_⟩:=ng I.hok e;obtain⟨u,hu,ru⟩:=gK.some_of (v:=v) (o:=mA f) (by rw[<-l];exact r f);exact zU I.kIn O (c.get f) c.hd n hu (xo ru) (h u _ (I.tok _) ru)
theorem oC {m:Str}{g:Addr}{pl:Sem Bool}{Q:Value×List Value->Shared->Prop}(I:aw X pins σ H s)(e:H a=some (.ins C dx fs))(c:wY X.K C)(k:zD X.K C m g)(l:fs.lookup m=none)
  (h:Q (.ref g,[.ref a]) s):wpAny (model X.prog X.w) A (getMethod (.ref a) m pl) Q E s:=by
 obtain⟨mA,O,r,_,_,_⟩:=ng I.hok e;have hn:mA m=none:=gK.none_of (by rw[<-l];exact r m);exact yr I.kIn O (c.get m) k.at_ k.fn hn h
theorem vD {y:V}{u:Value}{Q:Unit->Shared->Prop}(I:aw X pins σ H s)(e:H a=some (.ins C dx fs))(c:wY X.K C)(n:gn X.K C f)(hl:fs.length<1000)(ry:aT y u)
  (h:∀ s',aw X pins σ (upd H a (.ins C dx (gS f y fs))) s'->Q () s'):wpAny (model X.prog X.w) A (setAttr (.ref a) f u) Q E s:=by
 obtain⟨mA,O,r,wi,_,ho⟩:=ng I.hok e
 have hz:(fs.map (·.1)).length<=sizeLine:=by rw[Eg,FD];omega
 refine Ap I.kIn O c.sa c.po n.taker c.hd wi hz fun h' O' sb=>h _ ?_;have hd:∃ o,h'.get? dx=some o:=let ⟨o,_,_,e',_⟩:=O'.ns;⟨o,e'⟩;refine I.write (x:=a) (e:=dx) (by rw[e];exact True.intro) (.inr ho) (fun b q hb z=>(sb.2 b hb).trans z) hd ?_;refine⟨by rw[ae O.ne];exact ho,?_,O.ne,O'.obj,_,O'.ns,fun g=>?_,fun g hg=>?_⟩
 ·have:=my f y fs;omega
 ·show gK ((gS f y fs).lookup g) (if g=f then some u else mA g)
  rw[aR]
  by_cases q:g=f
  ·rw[Ee q,Ee q];exact ry
  ·rw[Ed q,Ed q];exact r g
 ·by_cases q:g=f
  ·rw[q];exact (lu f y fs).1
  ·refine (lu f y fs).2 g (wi g fun z=>hg ?_)
   show (if g=f then some u else mA g)=none
   rw[Ed q];exact z
theorem aw.made (I:aw X pins σ H s):aw X pins σ (upd (upd H s.heap.objs.size (.own (s.heap.objs.size+1))) (s.heap.objs.size+1) (.ins C s.heap.objs.size []))
  { s with heap:=(s.heap.push PySem.W.emptyDict).push (PySem.W.instObj C s.heap.objs.size) }:=by
 have e1:(s.heap.push PySem.W.emptyDict).get? s.heap.objs.size=some PySem.W.emptyDict:=Heap.get?_push_size s.heap rfl
 have e2:((s.heap.push PySem.W.emptyDict).push (PySem.W.instObj C s.heap.objs.size)).get? (s.heap.objs.size+1)=some (PySem.W.instObj C s.heap.objs.size):=by
  have:=Heap.get?_push_size (s.heap.push PySem.W.emptyDict) (o:=PySem.W.instObj C s.heap.objs.size) rfl
  rwa [Gf]at this
 have e3:(s.heap.push PySem.W.emptyDict).Ns s.heap.objs.size (fun _=>none):=⟨PySem.W.emptyDict,#[],_,e1,rfl,(fun e he=>absurd he (by simp)),fun _=>rfl⟩;have I1:=I.laid (a:=s.heap.objs.size) (o:=.own (s.heap.objs.size+1)) (h':=s.heap.push PySem.W.emptyDict) (t':=s.toks) (fun b u q=>Heap.get?_push_of_some _ q) (Eh _) ⟨_,e1⟩;refine I1.laid (a:=s.heap.objs.size+1) (o:=.ins C s.heap.objs.size []) (t':=s.toks) (fun b u q=>Heap.get?_push_of_some _ q) (Nat.le_of_eq (Gf _ _)) ?_;have ne:s.heap.objs.size≠s.heap.objs.size+1:=Eu (Nat.lt_succ_self _);refine⟨by rw[ae ne,ag],EK _,ne,e2,fun _=>none,(Heap.Ns1.of_empty e3).at fun o q=>Heap.get?_push_of_some _ q,fun _=>True.intro,fun y hy=>absurd rfl hy⟩
theorem zI {prog:Program}{w:World}{env:Env}{e:Expr}{f:Str}{pos:Pos}{s:Shared}{Q:Value->Shared->Prop}(hb:attributeBase e f env (eval e env)=eval e env)
  (h:wpAny (model prog w) A (eval e env) (fun o s₁=>wpAny (model prog w) A (getAttr o f true) Q E s₁) E s):wpAny (model prog w) A (eval (.Attribute e f pos) env) Q E s :=
 Attribute_any_ h (by rw[arm_eval_Attribute,hb])
end
inductive DQ (K:PySem.W.Frag) (f:Str) (Q:VK) (x:V) (H:Hp):Prop
 | mk (a C dx:Addr) (fs:List (Str×V)) (v:V) (e:x=.ref a) (o:H a=some (.ins C dx fs)) (c:wY K C) (n:gn K C f) (l:fs.lookup f=some v) (h:Q v H):DQ K f Q x H
def Dz (K:PySem.W.Frag)(ta:TE)(f:Str):TE:=fun σ H Q=>ta σ H fun x H1=>DQ K f Q x H1
def Dw (K:PySem.W.Frag)(ta tv:TE)(f:Str):TS:=fun D σ H=>tv σ H fun y H1=>ta σ H1 fun x H2=>∃ a C dx fs,x=.ref a/\H2 a=some (.ins C dx fs)/\wY K C/\gn K C f/\fs.length<1000 /\
 D.nx σ (upd H2 a (.ins C dx (gS f y fs)))
section
variable {X:Cx}{o e value:Expr}{f:Str}{pos pos' tpos:Pos}{ta tv:TE}
theorem c7 (he:PE X e ta)(hb:attributeBase e f X.env (eval e X.env)=eval e X.env):PE X (.Attribute e f pos) (Dz X.K ta f):=by
 intro pins s σ H Q I h;refine zI hb (bA (he pins s σ H _ I h) fun u s1 ⟨x,H1,I1,rx,a,C,dx,fs,v,ex,ea,c,n,l,q⟩=>?_);subst ex;obtain rfl:u=Value.ref a:=rx;exact uM I1 ea c n l fun u' s2 I2 ru=>⟨v,H1,I2,ru,q⟩
theorem rN (ha:PE X o ta)(hv:PE X value tv)(hs:swapsWith value (some (.Attribute o f pos')) pos.line X.env=pure false):PS X (.Assign [.Attribute o f pos'] value pos) (Dw X.K ta tv f):=by
 intro pins s σ H D I h;refine plainObj_wpAny_Assign_Attribute (bA (hv pins s σ H _ I h) fun u s1 ⟨y,H1,I1,ry,q⟩=>bA (ha pins s1 σ H1 _ I1 q) fun ov s2 ⟨x,H2,I2,rx,a,C,dx,fs,ex,ea,c,n,l,q2⟩=>?_) hs;subst ex;obtain rfl:ov=Value.ref a:=rx;exact vD I2 ea c n l ry fun s3 I3=>⟨σ,_,I3,q2⟩
end
section
variable {X:Cx}{pins:List (Addr×Obj)}{σ:St}{H:Hp}{s:Shared}{A:Around}{E:Value->Shared->Prop}{Q:Value->Shared->Prop}{c:Value}{b:Bool}
inductive iQ (K:PySem.W.Frag) (H:Hp):V->Value->Prop where
 | non:iQ K H .non (.type "NoneType")
 | bl (x:Bool):iQ K H (.bl x) (.type "bool")
 | int (i:Int):iQ K H (.int i) (.type "int")
 | str (x:Str):iQ K H (.str x) (.type "str")
 | flt (x:UInt64):iQ K H (.flt x) (.type "float")
 | lst {a:Addr} {xs:List V} (e:H a=some (.lst xs)):iQ K H (.ref a) (.type "list")
 | frz {a:Addr} {o:Obj} {xs:List V} (e:H a=some (.frz o (.lst xs))):iQ K H (.ref a) (.type "list")
 | tup {a:Addr} {xs:List V} (e:H a=some (.tup xs)):iQ K H (.ref a) (.type "tuple")
 | dK {a:Addr} {kvs:List (bR×V)} (e:H a=some (.dK kvs)):iQ K H (.ref a) (.type "dict")
 | dT {a:Addr} {kvs:List (List bR×V)} (e:H a=some (.dT kvs)):iQ K H (.ref a) (.type "dict")
 | ins {a C dx:Addr} {fs:List (Str×V)} (e:H a=some (.ins C dx fs)) (cl:wY K C) (ha:PySem.W.findIn K (.ref C) "__class__" = some (some (.builtin "object.__class__")))
   (hn:PySem.W.specialIn K (.builtin "object.__class__") "__get__" = some (some (.builtin "getset_descriptor.__get__"))) (htk:PySem.W.takesIn K (.builtin "object.__class__")=some true)
   (hm:PySem.W.mroIn K C (.type "object")=some true):iQ K H (.ref a) (.ref C)
theorem xu {x:V}{u t:Value}(I:aw X pins σ H s)(rx:aT x u)(ty:iQ X.K H x t)(e:PySem.W.kitOne X.K t c=some b)(h:∀ tk,Q (.bool b) { s with toks:=tk }) :
  wpAny (model X.prog X.w) A (call (.builtin "isinstance") [u,c]) Q E s:=by
 cases ty with
 | non=>cases (show u=Value.none from rx);exact Fk PySem.W.kitx_none I.kIn True.intro e (fun z=>nomatch z) h
 | bl y=>cases (show u=Value.bool y from rx);exact Fk PySem.W.kitx_bool I.kIn True.intro e (fun z=>nomatch z) h
 | int i=>obtain⟨t,q⟩:=(show ∃ t,u=Value.int i t from rx);cases q;exact Fk PySem.W.kitx_int I.kIn True.intro e (fun z=>nomatch z) h
 | str y=>obtain⟨t,q⟩:=(show ∃ t,u=Value.str y t from rx);cases q;exact Fk PySem.W.kitx_str I.kIn True.intro e (fun z=>nomatch z) h
 | flt y=>obtain⟨t,q⟩:=(show ∃ t,u=Value.float y t from rx);cases q;exact Fk PySem.W.kitx_float I.kIn True.intro e (fun z=>nomatch z) h
 | @lst a xs ea =>
  cases (show u=Value.ref a from rx);obtain⟨_,_,n,_,h1⟩:=(show bD X.prog X.w H s.heap a (.lst xs) from I.hok a _ ea);exact Fk PySem.W.kitx_list I.kIn ⟨_,h1,rfl⟩ e (fun z=>nomatch z) h
 | @frz a ob xs ea =>
  cases (show u=Value.ref a from rx);obtain⟨_,_,_,n,_,h1⟩:=(show bD X.prog X.w H s.heap a (.frz ob (.lst xs)) from I.hok a _ ea);exact Fk PySem.W.kitx_list I.kIn ⟨_,h1,rfl⟩ e (fun z=>nomatch z) h
 | @tup a xs ea =>
  cases (show u=Value.ref a from rx);obtain⟨_,_,_,p⟩:=(show bD X.prog X.w H s.heap a (.tup xs) from I.hok a _ ea);obtain⟨o,h1,h2,_⟩:=p;exact Fk PySem.W.kitx_tuple I.kIn ⟨o,h1,h2⟩ e (fun z=>nomatch z) h
 | @dK a kvs ea =>
  cases (show u=Value.ref a from rx);obtain⟨_,_,vs,_,p⟩:=(show bD X.prog X.w H s.heap a (.dK kvs) from I.hok a _ ea);obtain⟨o,es,ep,h1,h2,_⟩:=p;exact Fk PySem.W.kitx_dict I.kIn ⟨o,h1,h2.1⟩ e (fun z=>nomatch z) h
 | @dT a kvs ea =>
  cases (show u=Value.ref a from rx);obtain⟨_,_,xs,_,o,es,ep,h1,h2,_⟩:=(show bD X.prog X.w H s.heap a (.dT kvs) from I.hok a _ ea);exact Fk PySem.W.kitx_dict I.kIn ⟨o,h1,h2.1⟩ e (fun z=>nomatch z) h
 | @ins a C dx fs ea cl ha hn htk hm =>
  cases (show u=Value.ref a from rx);obtain⟨mA,O,_⟩:=ng I.hok ea;obtain⟨od,J,_⟩:=O.look;exact Fk (PySem.W.kitx_own (cl.get _) cl.hd ha hn htk hm) I.kIn J e (fun z=>nomatch z) h
end
structure b8 (k:Nat)(A:Around):Prop where
 hd:A.handled=none
 dp:A.depth+3*k+5<recursionLimit
 un:A.units+16*k+200<cLine
theorem b8.mono {j k:Nat}{A:Around}(r:b8 k A)(h:j<=k):b8 j A:=⟨r.hd,by have:=r.dp;omega,by have:=r.un;omega⟩
theorem b8.deeper {k:Nat}{A:Around}(r:b8 (k+1) A)(env:Env):b8 k (A.deeper env) :=
 ⟨r.hd,by have:=r.dp;show A.depth+1+3*k+5<_;omega,by have:=r.un;show A.units+3+16*k+200<_;omega⟩
theorem u6 {A:Around}{C:Addr}{us:List Value}{kw:List (Str×Value)}:(A.under (.builtin "type.__call__" ⟨.ref C::us,kw⟩)).depth=A.depth+1:=by
 first | rfl | simp[Around.under,Code.weight,Code.isCreation,Code.isGuard,Code.isCaller,Code.frames,Code.isFrame,guardIds]
theorem u7 {A:Around}{C:Addr}{us:List Value}{kw:List (Str×Value)}:(A.under (.builtin "type.__call__" ⟨.ref C::us,kw⟩)).units=A.units+1:=by
 first | rfl | simp[Around.under,Code.cUnits,Code.frames,Code.isFrame]
theorem b8.make {k:Nat}{A:Around}(r:b8 (k+1) A)(C:Addr)(us:List Value)(kw:List (Str×Value)):b8 k (A.under (.builtin "type.__call__" ⟨.ref C::us,kw⟩)) :=
 ⟨r.hd,by have:=r.dp;rw[u6];omega,by have:=r.un;rw[u7];omega⟩
theorem b8.depth {k:Nat}{A:Around}(r:b8 k A):A.depth<recursionLimit:=by have:=r.dp;omega
theorem b8.units {k:Nat}{A:Around}(r:b8 k A):A.units+64<cLine:=by have:=r.un;omega
def pX:TA:=fun _ H Q=>Q [] H
def mH (ta:TE)(tr:TA):TA:=fun σ H Q=>ta σ H fun x H1=>tr σ H1 fun xs H2=>Q (x::xs) H2
section
variable {X:Cx}{e:Expr}{es:List Expr}{te:TE}{t:TA}{pos:Pos}
theorem ax:PA X [] pX:=fun _ _ _ _ H Q I h=>Fv ⟨[],H,I,.nil,h⟩
theorem ar (ha:PE X e te)(hr:PA X es t)(hs:starEach (e::es) X.env=(false,eval e X.env)::starEach es X.env:=by rfl):PA X (e::es) (mH te t):=by
 intro pos pins s σ H Q I h;rw[hs]
 show wpAny _ _ (spliced ((false,eval e X.env)::backTo pos (starEach es X.env))) _ _ s
 refine EZ (bA (ha pins s σ H _ I h) fun u s1 ⟨x,H1,I1,r1,q1⟩=>?_);exact bA (hr pos pins s1 σ H1 _ I1 q1) fun us s2 ⟨xs,H2,I2,r2,q2⟩=>⟨x::xs,H2,I2,.cons r1 r2,q2⟩
def DG (t:TA):TE:=fun σ H Q=>t σ H fun xs H1=>xs.length<=sizeLine/\∀ p,H1 p=none->Q (.ref p) (upd H1 p (.tup xs))
def DC (t:TA):TE:=fun σ H Q=>t σ H fun xs H1=>xs.length<=sizeLine/\∀ p,H1 p=none->Q (.ref p) (upd H1 p (.lst xs))
theorem bx {x1}(h:PA X es t):PE X (.Tuple es x1 pos) (DG t):=by
 intro pins s σ H Q I hq;refine wpAny_Tuple_spliced (bA (h pos pins s σ H _ I hq) fun us s1 ⟨xs,H1,I1,r,z,q⟩=>⟨by rw[<-r.length];exact z,?_⟩);have hf:H1 s1.heap.objs.size=none:=I1.hok.fresh (Eh _);refine⟨.ref s1.heap.objs.size,upd H1 s1.heap.objs.size (.tup xs),I1.laid (t':=s1.toks) (fun b u e=>Heap.get?_push_of_some _ e) (Eh _) ?_,rfl,q _ hf⟩;exact⟨z,us,r,⟨_,Heap.get?_push_size _ rfl,rfl,_,rfl⟩⟩
theorem e9 (h:PA X es t):PE X (.List es pos) (DC t):=by
 intro pins s σ H Q I hq;refine wpAny_List_spliced (bA (h pos pins s σ H _ I hq) fun us s1 ⟨xs,H1,I1,r,z,q⟩=>⟨by rw[<-r.length];exact z,?_⟩);have hf:H1 s1.heap.objs.size=none:=I1.hok.fresh (Eh _);refine⟨.ref s1.heap.objs.size,upd H1 s1.heap.objs.size (.lst xs),I1.laid (t':=s1.toks) (fun b u e=>Heap.get?_push_of_some _ e) (Eh _) ?_,rfl,q _ hf⟩;exact⟨z,us,0,r,Heap.get?_push_size _ rfl⟩
end
abbrev Sp:=List V->Hp->VK->XK->Prop
abbrev qG:=List Env->Hp->Shared->XK->Value->Shared->Prop
structure qI (P:Program)(w:World)(K:PySem.W.Frag)(mg:Str->Option Value)(base:Heap)(A:Around)(outer:List Env)(s:Shared)(H:Hp):Prop where
 frames:A.frames=some outer
 mod:Mod K mg base
 bs:∀ b o,base.get? b=some o->s.heap.get? b=some o/\H b=none
 bsz:base.objs.size<=s.heap.objs.size
 funs:s.heap.FunFrames base outer
 frf:∀ b∈iR outer,H b=none
 hok:iJ P w H s.heap
 bare:AllBare s.gens
def CE (outer:List Env)(P:Program)(w:World)(H:Hp)(s:Shared)(Q:VK)(u:Value)(s':Shared):Prop :=
 ∃ v H',s'.os=s.os/\AllBare s'.gens/\Un (iR outer) [] H H' s.heap s'.heap/\iJ P w H' s'.heap/\aT v u/\Q v H'
def CR (CX:qG)(outer:List Env)(P:Program)(w:World)(H:Hp)(s:Shared)(Q:VK)(E:XK)(r:Result)(s':Shared):Prop :=
 match r with
 | .ok (.ret u)=>CE outer P w H s Q u s'
 | .ok _=>False
 | .error e=>CX outer H s E e s'
structure aW (P:Program)(w:World)(K:PySem.W.Frag)(mg:Str->Option Value)(base:Heap)(CX:qG)(k:Nat)(f:Addr)(fd:FuncData)(ps:List Str)(sp:Sp):Prop where
 len:∀ vs H Q E,sp vs H Q E->vs.length=ps.length
 run:∀ (A:Around)(outer:List Env)(s:Shared)(H:Hp)(args:Args)(us:List Value)(vs:List V)(Q:VK)(E:XK),b8 k A->qI P w K mg base A outer s H->BindsTo s fd args (ps.zip us)->aU vs us->sp vs H Q E ->
  codeAny (model P w) A (.call (.ref f) args) (CR CX outer P w H s Q E) s
theorem qI.make {P:Program}{w:World}{K:PySem.W.Frag}{mg:Str->Option Value}{base:Heap}{A:Around}{outer:List Env}{s:Shared}{H:Hp}(e:qI P w K mg base A outer s H)(C:Addr)(us:List Value)(kw:List (Str×Value)) :
  qI P w K mg base (A.under (.builtin "type.__call__" ⟨.ref C::us,kw⟩)) outer s H:=⟨by first | exact e.frames | (simpa [Around.under,Code.envs,Code.isFrame,pushEnvs] using e.frames),e.mod,e.bs,e.bsz,e.funs,e.frf,e.hok,e.bare⟩
section
variable {X:Cx}{pins:List (Addr×Obj)}{σ:St}{H:Hp}{s s':Shared}
theorem aw.env0 (I:aw X pins σ H s):qI X.prog X.w X.K X.mg X.base X.A X.stack s H :=
 ⟨I.ok.frames,I.ok.mod,I.bs,EI I.ok.bsz I.sz,I.stack,I.stkFree,I.hok,I.bare⟩
theorem aw.after {Q:VK}{u:Value}(I:aw X pins σ H s)(h:CE X.stack X.prog X.w H s Q u s'):EP X pins σ Q u s':=by
 obtain⟨v,H',os,bare,un,hok,r,q⟩:=h;obtain⟨hh,g,d,t,os'⟩:=s';obtain rfl:os'=s.os:=os;exact⟨v,H',I.call (h':=hh) (g':=g) (d':=d) (t':=t) (ch:=[]) un hok bare (fun b z=>absurd z (by simp)),r,q⟩
end
def zi (sp:Sp)(dvs:List V)(E:XK)(t:TA):TE:=fun σ H Q=>t σ H fun vs H1=>sp (vs++dvs) H1 Q E
inductive DR (C:Addr) (m:Str) (sp:Sp) (dvs:List V) (E:XK) (t:TA) (σ:St) (Q:VK) (x:V) (H:Hp):Prop
 | mk (a dx:Addr) (fs:List (Str×V)) (e:x=.ref a) (o:H a=some (.ins C dx fs)) (l:fs.lookup m=none) (h:t σ H fun vs H2=>sp (x::(vs++dvs)) H2 Q E):DR C m sp dvs E t σ Q x H
def wN (C:Addr)(m:Str)(sp:Sp)(dvs:List V)(E:XK)(ta:TE)(t:TA):TE:=fun σ H Q=>ta σ H fun x H1=>DR C m sp dvs E t σ Q x H1
def AG (C:Addr)(sp:Sp)(dvs:List V)(E:XK)(t:TA):TE:=fun σ H Q=>t σ H fun vs H1=>∀ x dx,H1 x=none->H1 dx=none->dx≠x ->
 sp (.ref x::(vs++dvs)) (upd (upd H1 dx (.own x)) x (.ins C dx [])) (fun v H2=>v=.non/\Q (.ref x) H2) E
def d8 (K:PySem.W.Frag)(fd:FuncData)(ps:List Str)(ds:List Value):Prop :=
 ∀ (s:Shared)(us:List Value),K.In s.heap->(us++ds).length=ps.length->BindsTo s fd ⟨us,[]⟩ (ps.zip (us++ds))
theorem d8.all {K:PySem.W.Frag}{fd:FuncData}{ps:List Str}(h:∀ us:List Value,us.length=ps.length->bindArgs fd ⟨us,[]⟩=pure (ps.zip us)):d8 K fd ps []:=fun s us _ hl=>by
 rw[List.append_nil]at hl ⊢;exact .of_eq (h us hl)
def dU (CX:qG)(X:Cx)(E:XK):Prop:=∀ (pins:List (Addr×Obj))(σ:St)(H:Hp)(s:Shared)(e:Value)(s':Shared),aw X pins σ H s->CX X.stack H s E e s'->X.xe e s'
section
variable {X:Cx}{CX:qG}{k:Nat}{f C:Addr}{fd:FuncData}{ps:List Str}{sp:Sp}{dvs:List V}{ds:List Value}{E:XK}{x m:Str}{p pos apos:Pos}{e o:Expr}{es:List Expr}{ta:TE}{t:TA}
theorem vx {pins:List (Addr×Obj)}{σ:St}{H:Hp}{s:Shared}{Q:VK}{us:List Value}{vs:List V}(F:aW X.prog X.w X.K X.mg X.base CX k f fd ps sp)(hr:b8 k X.A)(hb:d8 X.K fd ps ds)(hd:aU dvs ds)(hx:dU CX X E)
  (I:aw X pins σ H s) (r:aU vs us) (h:sp (vs++dvs) H Q E):wpAny (model X.prog X.w) X.A (call (.ref f) us) (EP X pins σ Q) X.xe s:=by
 have r2:aU (vs++dvs) (us++ds):=r.append hd
 have hl:(us++ds).length=ps.length:=by rw[<-r2.length];exact F.len _ _ _ _ h
 refine Gh (FS (F.run X.A X.stack s H ⟨us,[]⟩ (us++ds) (vs++dvs) Q E hr I.env0 (hb s us I.kIn hl) r2 h) fun r s' hq=>?_)
 cases r with
 | error e=>exact hx pins σ H s e s' I hq
 | ok fl =>
  cases fl with
  | ret u=>exact I.after hq
  | next=>exact False.elim hq
  | brk=>exact False.elim hq
  | cont=>exact False.elim hq
theorem wD (F:aW X.prog X.w X.K X.mg X.base CX k f fd ps sp)(hr:b8 k X.A)(hg:Gl X x)(hm:X.mg x=some (.ref f))(hk:PySem.W.keepIn X.K (.ref f)=true)(hb:d8 X.K fd ps ds)(hd:aU dvs ds)(hx:dU CX X E)
  (ha:PA X (e::es) t) (hdb:(x == ("__debug__" : Str))=false:=by decide) (he:starEach (e::es) X.env=(false,eval e X.env)::starEach es X.env:=by rfl) (hpl:(backTo pos (starEach es X.env)).any (·.1)=false:=by rfl) :
  PE X (.Call (.Name x p) (e::es) [] pos) (zi sp dvs E t):=by
 intro pins s σ H Q I h;refine Ft (jq I hg hm ?_ hdb);refine PySem.W.callWith_K (h₀:=X.base) I.ok.mod.kin hk (bA (ha pos pins s σ H _ I h) fun us s1 ⟨vs,H1,I1,r,q⟩=>⟨I1.kIn,?_⟩) he hpl;exact vx F hr hb hd hx I1 r q
theorem Ah {pl:Sem Bool}(he:PE X o ta)(c:wY X.K C)(hm:zD X.K C m f)(F:aW X.prog X.w X.K X.mg X.base CX k f fd ps sp)(hr:b8 k X.A)(hb:d8 X.K fd ps ds)(hd:aU dvs ds)(hx:dU CX X E)(ha:PA X (e::es) t)
  (hst:starEach (e::es) X.env=(false,eval e X.env)::starEach es X.env:=by rfl) (hpl:(backTo pos (starEach es X.env)).any (·.1)=false:=by rfl)
  (ht:eval (.Call (.Attribute o m apos) (e::es) [] pos) X.env=(do
   let ov <-eval o X.env
   standAt apos.atName
   let (f,first) <-holding [ov] (getMethod ov m pl)
   callWith pos f first (backTo pos (starEach (e::es) X.env)) (backToKw pos (keywordEach [] X.env))):=by rfl) :
  PE X (.Call (.Attribute o m apos) (e::es) [] pos) (wN C m sp dvs E ta t):=by
 intro pins s σ H Q I h;refine PySem.W.methodCall_KW (pl:=pl) (bA (he pins s σ H _ I h) fun u s1 ⟨x,H1,I1,rx,a,dx,fs,ex,ea,l,q⟩=>?_) ht;subst ex;obtain rfl:u=Value.ref a:=rx;refine oC I1 ea c hm l ?_;refine PySem.W.callWith_K (first:=[.ref a]) (h₀:=X.base) I.ok.mod.kin hm.kp (bA (ha pos pins s1 σ H1 _ I1 q) fun us s2 ⟨vs,H2,I2,r,q2⟩=>⟨I2.kIn,?_⟩) hst hpl;exact vx (us:=.ref a::us) (vs:=.ref a::vs) F hr hb hd hx I2 (.cons rfl r) q2
theorem yU {pl:Sem Bool}(he:PE X o ta)(c:wY X.K C)(hm:zD X.K C m f)(F:aW X.prog X.w X.K X.mg X.base CX k f fd ps sp)(hr:b8 k X.A)(hb:d8 X.K fd ps ds)(hd:aU dvs ds)(hx:dU CX X E)
  (ht:eval (.Call (.Attribute o m apos) [] [] pos) X.env=(do
   let ov <-eval o X.env
   standAt apos.atName
   let (f,first) <-holding [ov] (getMethod ov m pl)
   callWith pos f first (backTo pos (starEach [] X.env)) (backToKw pos (keywordEach [] X.env))):=by rfl) :
  PE X (.Call (.Attribute o m apos) [] [] pos) (wN C m sp dvs E ta pX):=by
 intro pins s σ H Q I h;refine PySem.W.methodCall_KW (pl:=pl) (bA (he pins s σ H _ I h) fun u s1 ⟨x,H1,I1,rx,a,dx,fs,ex,ea,l,q⟩=>?_) ht;subst ex;obtain rfl:u=Value.ref a:=rx;refine oC I1 ea c hm l ?_;exact PySem.W.callWith_K0 (first:=[.ref a]) I1.kIn hm.kp (vx (us:=[.ref a]) (vs:=[.ref a]) F hr hb hd hx I1 (.cons rfl .nil) q)
structure Mk (K:PySem.W.Frag)(C f:Addr):Prop where
 makes:PySem.W.makesIn K C=true
 init:PySem.W.findIn K (.ref C) "__init__" = some (some (.ref f))
 fn:PySem.W.isFn K (.ref f)=true
 kp:PySem.W.keepIn K (.ref C)=true
theorem zf {pins:List (Addr×Obj)}{σ:St}{H:Hp}{s:Shared}{Q:VK}{us:List Value}{vs:List V}(M:Mk X.K C f)(F:aW X.prog X.w X.K X.mg X.base CX k f fd ps sp)(hr:b8 (k+1) X.A)(hb:d8 X.K fd ps ds)(hd:aU dvs ds)
  (hx:dU CX X E) (I:aw X pins σ H s) (r:aU vs us)
  (h:∀ x dx,H x=none->H dx=none->dx≠x->sp (.ref x::(vs++dvs)) (upd (upd H dx (.own x)) x (.ins C dx [])) (fun v H2=>v=.non/\Q (.ref x) H2) E) :
  wpAny (model X.prog X.w) X.A (call (.ref C) us) (EP X pins σ Q) X.xe s:=by
 have hq:=h (s.heap.objs.size+1) s.heap.objs.size (I.hok.fresh (F9 _)) (I.hok.fresh (Eh _)) (Eu (Nat.lt_succ_self _));have I2:=aw.made (C:=C) I;have r2:aU (V.ref (s.heap.objs.size+1)::(vs++dvs)) (Value.ref (s.heap.objs.size+1)::(us++ds)):=.cons rfl (r.append hd)
 have hl:(Value.ref (s.heap.objs.size+1)::us++ds).length=ps.length:=by
  have e:=r2.length;rw[F.len _ _ _ _ hq]at e;exact e.symm
 refine Gh (yE (f:=f) I.kIn M.makes M.init (FO.mp M.fn) (FS (F.run _ X.stack _ _ ⟨Value.ref (s.heap.objs.size+1)::us,[]⟩ (Value.ref (s.heap.objs.size+1)::(us++ds)) _ _ E (hr.make C us [])
  (I2.env0.make C us []) (hb _ (Value.ref (s.heap.objs.size+1)::us) I2.kIn hl) r2 hq) fun r s' hq'=>?_))
 cases r with
 | error e=>exact hx pins σ _ _ e s' I2 hq'
 | ok fl =>
  cases fl with
  | ret u =>
   obtain⟨v,H',I3,rv,ev,q3⟩:=I2.after hq';subst ev;exact⟨rv,⟨V.ref (s.heap.objs.size+1),H',I3,rfl,q3⟩⟩
  | next=>exact False.elim hq'
  | brk=>exact False.elim hq'
  | cont=>exact False.elim hq'
theorem yT (M:Mk X.K C f)(F:aW X.prog X.w X.K X.mg X.base CX k f fd ps sp)(hr:b8 (k+1) X.A)(hg:Gl X x)(hm:X.mg x=some (.ref C))(hb:d8 X.K fd ps ds)(hd:aU dvs ds)(hx:dU CX X E)
  (hdb:(x == ("__debug__" : Str))=false:=by decide):PE X (.Call (.Name x p) [] [] pos) (AG C sp dvs E pX):=by
 intro pins s σ H Q I h;refine Ft (jq I hg hm ?_ hdb);exact PySem.W.callWith_K0 I.kIn M.kp (zf (us:=[]) M F hr hb hd hx I .nil h)
end
def PK (X:Cx)(kws:List Keyword)(t:TA):Prop :=
 ∀ (pos:Pos)(pins:List (Addr×Obj))(s:Shared)(σ:St)(H:Hp)(Q:List V->Hp->Prop),aw X pins σ H s->t σ H Q->wpAny (model X.prog X.w) X.A (evalAll ((backToKw pos (keywordEach kws X.env)).map (·.2))) (AP X pins σ Q) X.xe s
section
variable {X:Cx}{CX:qG}{k:Nat}{f C:Addr}{fd:FuncData}{ps ks:List Str}{sp:Sp}{E:XK}{x m:Str}{p pos apos kpos:Pos}{e o:Expr}{es:List Expr}{kws:List Keyword}{te ta:TE}{t tk:TA}{nm:Option Str}
theorem Bm:PK X [] pX:=fun _ _ _ _ H Q I h=>wpAny_evalAll_nil ⟨[],H,I,.nil,h⟩
theorem Aj (ha:PE X e te)(hr:PK X kws t):PK X (⟨nm,e,kpos⟩::kws) (mH te t):=by
 intro pos pins s σ H Q I h
 show wpAny _ _ (evalAll ((do let v <-eval e X.env;standAt pos;pure v)::(backToKw pos (keywordEach kws X.env)).map (·.2))) _ _ s
 refine wpAny_evalAll_cons (Ef (bA (ha pins s σ H _ I h) fun u s1 ⟨x,H1,I1,r1,q1⟩=>Ef (F7 (Et ?_))));exact bA (hr pos pins s1 σ H1 _ I1 q1) fun us s2 ⟨xs,H2,I2,r2,q2⟩=>⟨x::xs,H2,I2,.cons r1 r2,q2⟩
variable {g:List Value->List Value->List Value}{gV:List V->List V->List V}
end
structure az (N P:List Str)(sc:Scope):Prop where
 kind:sc.kind=.function
 co:sc.isCoroutine=false
 gen:sc.isGenerator=false
 nd:N.Nodup
 pre:N.take P.length=P
 par:∀ x∈P,sc.names.lookup x=some .local\/sc.names.lookup x=some .cell
 nofree:∀ y∈sc.names,y.2≠.free
theorem qc {kindOf:Str->Option NameKind}{x:Str}:∀ {binds:List (Str×Value)}{m:Str->Option Value},(∀ v,(x,v)∉binds)->bindL kindOf binds m x=m x
 | [],_,_=>rfl
 | (n,v)::r,m,h=>by
  unfold bindL;rw[qc fun w hw=>h w (Ek _ hw)];split
  ·have:x≠n:=by rintro rfl;exact h v Ep
   simp[this]
  ·rfl
theorem qa {kindOf:Str->Option NameKind}{x:Str}:∀ {binds:List (Str×Value)}{m:Str->Option Value},(∀ v,(x,v)∉binds)->bindC kindOf binds m x=m x
 | [],_,_=>rfl
 | (n,v)::r,m,h=>by
  unfold bindC;rw[qa fun w hw=>h w (Ek _ hw)];split
  ·rfl
  ·have:x≠n:=by rintro rfl;exact h v Ep
   simp[this]
theorem qb {kindOf:Str->Option NameKind}{x:Str}{v:Value}:∀ {P:List Str}{vs:List Value}{i:Nat}{m:Str->Option Value},P.Nodup->P[i]? = some x->vs[i]? = some v->kindOf x=some .local ->
  bindL kindOf (P.zip vs) m x=some v
 | [],_,_,_,_,h,_,_=>by simp at h
 | _::_,[],_,_,_,_,h,_=>by simp at h
 | p::P,w::vs,0,m,nd,h1,h2,hk=>by
  simp at h1 h2;subst h1;subst h2
  show bindL kindOf ((p,w)::P.zip vs) m p=_
  unfold bindL;rw[qc fun v hv=>(EQ.mp nd).1 (List.of_mem_zip hv).1,Ee hk];simp
 | p::P,w::vs,i+1,m,nd,h1,h2,hk=>by
  show bindL kindOf ((p,w)::P.zip vs) m x=_
  unfold bindL;exact qb (i:=i) (EQ.mp nd).2 (by simpa using h1) (by simpa using h2) hk
theorem p9 {kindOf:Str->Option NameKind}{x:Str}{v:Value}:∀ {P:List Str}{vs:List Value}{i:Nat}{m:Str->Option Value},P.Nodup->P[i]? = some x->vs[i]? = some v->kindOf x≠some .local ->
  bindC kindOf (P.zip vs) m x=some v
 | [],_,_,_,_,h,_,_=>by simp at h
 | _::_,[],_,_,_,_,h,_=>by simp at h
 | p::P,w::vs,0,m,nd,h1,h2,hk=>by
  simp at h1 h2;subst h1;subst h2
  show bindC kindOf ((p,w)::P.zip vs) m p=_
  unfold bindC;rw[qa fun v hv=>(EQ.mp nd).1 (List.of_mem_zip hv).1,Ed hk];simp
 | p::P,w::vs,i+1,m,nd,h1,h2,hk=>by
  show bindC kindOf ((p,w)::P.zip vs) m x=_
  unfold bindC;exact p9 (i:=i) (EQ.mp nd).2 (by simpa using h1) (by simpa using h2) hk
def jL (N:List Str)(vs:List V):St:=vs.map some++List.replicate (N.length-vs.length) none
def mQ (CX:qG)(P:Program)(w:World)(K:PySem.W.Frag)(mg:Str->Option Value)(base:Heap)(N:List Str)(qual:Str)(scope:Scope)(f:Addr)(cd:Value)(A:Around)(outer:List Env)(s:Shared)(H:Hp)(E:XK):Cx where
 prog:=P
 w:=w
 K:=K
 mg:=mg
 base:=base
 A:=A.deeper (envOfC qual scope s.heap.objs.size f cd)
 N:=N
 s₀:=s
 H₀:=H
 env:=envOfC qual scope s.heap.objs.size f cd
 outer:=outer
 stack:=envOfC qual scope s.heap.objs.size f cd::outer
 ex:=[]
 calm:=true
 fn:=fun _=>true
 pn:=[]
 xe:=fun e s'=>wpAny (model P w) (A.deeper (envOfC qual scope s.heap.objs.size f cd)) (leaving (envOfC qual scope s.heap.objs.size f cd) e) (fun _ s''=>CX outer H s E e s'') (fun e' s''=>CX outer H s E e' s'') s'
theorem sG {sc:Scope}{n:Nat}{x:Str}(h:sc.names.lookup x=some .cell):∃ c,(cellsFrom n sc.names []).lookup x=some c:=by
 have q:=PySem.W.cellsFrom_some sc.names n [] (.inl h);exact EL.mp q
theorem xt {CX:qG}{P:Program}{w:World}{K:PySem.W.Frag}{mg:Str->Option Value}{base:Heap}{N ps:List Str}{qual:Str}{scope:Scope}{f:Addr}{cd:Value}{A:Around}{outer:List Env}{s s1:Shared}{H:Hp}{E:XK}{us:List Value}{vs:List V}
  (S:az N ps scope) (hd:A.handled=none) (e0:qI P w K mg base A outer s H) (hl:vs.length=ps.length) (r:aU vs us)
  (x:InCallC s s.heap.objs.size (bindL (envOfC qual scope s.heap.objs.size f cd).kindOf (ps.zip us) fun _=>none) (cellsFrom (s.heap.objs.size+1) scope.names []) (bindC (envOfC qual scope s.heap.objs.size f cd).kindOf (ps.zip us) fun _=>none) s1) :
  aw (mQ CX P w K mg base N qual scope f cd A outer s H E) [] (jL N vs) H s1:=by
 have hpl:ps.length<=N.length:=by have:=EM List.length S.pre;rw[E8]at this;omega
 obtain⟨h1,tk,rfl,hk⟩:=x.done;have noA:∀ b:Addr,b∉(mQ CX P w K mg base N qual scope f cd A outer s H E).ex:=fun b z=>absurd (show b∈([]:List Addr) from z) (by simp)
 refine⟨⟨e0.mod,S.kind,rfl,rfl,Eh _,fun y z c h1 h2=>?_,fun y hy=>?_,fun y c _ h=>?_,fun _=>hd,Around.frames_deeper e0.frames,.inr ⟨rfl,rfl⟩,fun b z=>absurd z (noA b),e0.bs,e0.bsz,fun b _ _=>noA b,fun b z=>absurd z (noA b),e0.funs,e0.frf⟩,
  rfl,e0.bare,Un.kept hk,⟨_,x.toInCall.ns,fun i y v h1 h2 h3=>?_⟩,fun y c h=>⟨_,x.cell y c h⟩,e0.hok.fresh (Eh _),fun y c h=>?_,fun p hp=>absurd (show p∈([]:List (Addr×Obj)) from hp) (by simp),e0.hok.kept hk,?_⟩
 ·exact name_of_addr x.apart (Ff h1) (Ff h2)
 ·have hy:scope.names.lookup y=some .cell\/scope.names.lookup y=some .free:=hy
  rcases hy with hy | hy
  ·exact sG hy
  ·exact absurd rfl (S.nofree _ (Ff hy))
 ·exact Nat.le_of_lt (x.above y c (Ff h))
 ·have hi:i<vs.length:=by
   unfold jL at h2
   by_cases hi:i<vs.length
   ·exact hi
   ·rw[List.getElem?_append_right (by simpa using hi)]at h2
    rw[List.getElem?_replicate]at h2;split at h2<;>cases h2
  have ha:vs[i]? = some v:=by
   unfold jL at h2;rw[List.getElem?_append_left (by simpa using hi),List.getElem?_map]at h2
   cases e:vs[i]? with
   | none=>rw[e]at h2;cases h2
   | some a=>rw[e]at h2;cases h2;rfl
  obtain⟨u,hu,rv⟩:=r.get ha
  have hp:ps[i]? = some y:=by
   rw[<-S.pre,List.getElem?_take_of_lt (by omega)];exact h1
  have ndP:ps.Nodup:=by rw[<-S.pre];exact S.nd.sublist (List.take_sublist _ _)
  refine⟨u,rv,?_⟩;rcases S.par y (EN hp) with k | k
  ·exact .inl ⟨k,qb ndP hp hu k⟩
  ·obtain⟨c,e⟩:=sG (n:=s.heap.objs.size+1) k
   refine .inr ⟨.inl k,c,e,?_⟩;have q:=x.cell y c e;rw[p9 ndP hp hu (by show scope.names.lookup y≠_;rw[k];decide)]at q;exact q
 ·exact e0.hok.fresh (Nat.le_of_lt (x.above y c (Ff h)))
 ·unfold jL
  show _=N.length
  rw[Ew,Eg,List.length_replicate];omega
theorem yo {CX:qG}{P:Program}{w:World}{K:PySem.W.Frag}{mg:Str->Option Value}{base:Heap}{k:Nat}{f:Addr}{name qual:Str}{params:Arguments}{body:List Stmt}{scope:Scope}{dV kV doc pm cdv ct oc:Value}{an od:Option Addr}
  {osl:Array (Option Value)} {N ps:List Str} {sp:Sp} (lk:K.lookup f=some ⟨oc,od,.func (PySem.W.fnOf name qual params body scope dV kV doc pm an cdv ct),osl⟩) (hcd:PySem.W.codeIn K cdv qual=true) (S:az N ps scope)
  (len:∀ vs H Q E,sp vs H Q E->vs.length=ps.length)
  (hbody:∀ (A:Around)(outer:List Env)(s:Shared)(H:Hp)(vs:List V)(Q:VK)(E:XK),b8 k (A.deeper (envOfC qual scope s.heap.objs.size f cdv))->sp vs H Q E ->
   ∃ t,vO (mQ CX P w K mg base N qual scope f cdv A outer s H E) body t/\t { nx:=fun _ H'=>Q .non H',rt:=Q } (jL N vs) H) :
  aW P w K mg base CX (k+1) f (PySem.W.fnOf name qual params body scope dV kV doc pm an cdv ct) ps sp:=by
 refine⟨len,fun A outer s H args us vs Q E hr e0 hb r hsp=>?_⟩;have hl:=len _ _ _ _ hsp;have KX:K.In s.heap:=e0.mod.kin.keeps fun b o e=>(e0.bs b o e).1;have lim:s.heap.NoLimit:=e0.mod.nolimit.keeps fun b o e=>(e0.bs b o e).1
 have hkind:∀ y∈ps.zip us,scope.names.lookup y.1=some .local\/(scope.names.lookup y.1=some .cell/\((cellsFrom (s.heap.objs.size+1) scope.names []).lookup y.1).isSome=true):=fun ⟨n,v⟩ hy=>by
  rcases S.par n (List.of_mem_zip hy).1 with q | q
  ·exact .inl q
  ·exact .inr ⟨q,PySem.W.cellsFrom_some _ _ _ (.inl q)⟩
 refine codeAny_call_function hr.depth (KX _ _ lk) rfl S.co S.gen rfl (PySem.W.codeRec_of KX hcd) (hb _ _ _ _ ?_);refine wpAny_newFunctionEnv_cells S.kind hkind fun env he s1 x=>?_;subst he;refine⟨lim.keeps x.toInCall.keep,codeAny_func ?_⟩;obtain⟨t,ht,hq⟩:=hbody A outer s H vs Q E (hr.deeper _) hsp;have I:aw (mQ CX P w K mg base N qual scope f cdv A outer s H E) [] (jL N vs) H s1:=xt S hr.hd e0 hl r x;refine E4 (ht [] s1 (jL N vs) H _ I hq) (fun fl s' hs=>?_) fun e s' hs=>hs
 have fin:∀ {σ':St}{H':Hp}{v:V}{u:Value},aw (mQ CX P w K mg base N qual scope f cdv A outer s H E) [] σ' H' s'->aT v u->Q v H'->CE outer P w H s Q u s' :=
  fun {σ' H' v u} J rv q=>⟨v,H',J.os,J.bare,J.base,J.hok,rv,q⟩
 cases fl with
 | ret u =>
  obtain⟨v,σ',H',J,rv,q⟩:=hs;exact fin J rv q
 | next =>
  obtain⟨σ',H',J,q⟩:=hs;exact fin (v:=V.non) (u:=Value.none) J rfl q
 | brk =>
  obtain⟨_,_,_,q⟩:=hs;exact False.elim q
 | cont =>
  obtain⟨_,_,_,q⟩:=hs;exact False.elim q
section
variable {X:Cx}{x:Str}{p pos:Pos}{e:Expr}{es:List Expr}{t:TA}{id T:String}{r:List V->Hp->VK->Prop}
def DU (r:List V->Hp->VK->Prop)(t:TA):TE:=fun σ H Q=>t σ H fun vs H1=>r vs H1 Q
theorem bQ (hc:lR X (.builtin id) r)(hg:Gl X x)(hm:X.mg x=none)(hv:bootBuiltins x=some (.builtin id))(ha:PA X (e::es) t)(hn:x≠"__name__":=by decide)(hdb:(x == ("__debug__" : Str))=false:=by decide)
  (he:starEach (e::es) X.env=(false,eval e X.env)::starEach es X.env:=by rfl) (hpl:(backTo pos (starEach es X.env)).any (·.1)=false:=by rfl):PE X (.Call (.Name x p) (e::es) [] pos) (DU r t):=by
 intro pins s σ H Q I h;refine Ft (jT I hg hm hv ?_ hn hdb);exact PyProof.Rows.callWith_builtin1 (bA (ha pos pins s σ H _ I h) fun us s1 ⟨vs,H1,I1,r1,q1⟩=>hc pins s1 σ H1 vs us Q I1 r1 q1) he hpl
theorem xN (hc:lR X (.type T) r)(hg:Gl X x)(hm:X.mg x=none)(hv:bootBuiltins x=some (.type T))(ha:PA X (e::es) t)(hn:x≠"__name__":=by decide)(hdb:(x == ("__debug__" : Str))=false:=by decide)
  (he:starEach (e::es) X.env=(false,eval e X.env)::starEach es X.env:=by rfl) (hpl:(backTo pos (starEach es X.env)).any (·.1)=false:=by rfl):PE X (.Call (.Name x p) (e::es) [] pos) (DU r t):=by
 intro pins s σ H Q I h;refine Ft (jT I hg hm hv ?_ hn hdb);exact FR (bA (ha pos pins s σ H _ I h) fun us s1 ⟨vs,H1,I1,r1,q1⟩=>hc pins s1 σ H1 vs us Q I1 r1 q1) he hpl
end
end L2
namespace HT
open PySem PyProof.Rows
section
variable {prog:Program}{w:World}{A:Around}{E:Value->Shared->Prop}{s:Shared}
def sIx (n d:Nat):Option Int->Nat
 | none=>d
 | some v=>if v<0 then (v+(n:Int)).toNat else min v.toNat n
theorem Bq (n d:Nat)(hd:d<=n)(o:Option Int):sIx n d o<=n:=by
 cases o with
 | none=>exact hd
 | some v =>
  show (if v<0 then (v+(n:Int)).toNat else min v.toNat n)<=n
  by_cases hv:v<0
  ·rw[Ee hv];omega
  ·rw[Ed hv];exact Nat.min_le_right _ _
theorem vU (v:Int)(n d:Nat):(if v<0 then max (v+(n:Int)) 0 else min v (n:Int))=((sIx n d (some v):Nat):Int):=by
 show (if v<0 then max (v+(n:Int)) 0 else min v (n:Int))=(((if v<0 then (v+(n:Int)).toNat else min v.toNat n):Nat):Int)
 by_cases hv:v<0
 ·simp only[Ee hv];omega
 ·simp only[Ed hv];omega
theorem uC (lo hi:Option Int)(n:Nat):Builtin.Slice.sliceAdjust lo hi 1 (n:Int)=(((sIx n 0 lo:Nat):Int),((sIx n n hi:Nat):Int)):=by
 have h1:¬ ((1:Int)<0):=by omega
 unfold Builtin.Slice.sliceAdjust;simp only[h1,if_false];refine FZ ?_ ?_
 ·cases lo with
  | none=>rfl
  | some v=>exact vU v n 0
 ·cases hi with
  | none=>rfl
  | some v=>exact vU v n n
theorem vp (i j:Nat):Builtin.Slice.slicePlaces (i:Int) (j:Int) 1=j-i:=by
 unfold Builtin.Slice.slicePlaces
 have h1:(1:Int)>0:=by omega
 simp only[h1,if_true,Int.ediv_one];split<;>omega
theorem py {v:Value}{o:Option Int}{Q:Option Int->Shared->Prop}(p:IsPart v o)(h:Q o s):wpAny (model prog w) A (Builtin.Slice.slicePartIndex v) Q E s:=by
 cases p with
 | none=>exact slicePart_none h
 | int i t=>exact slicePart_int h
theorem lK {sl:Addr}{vl vu:Value}{lo hi:Option Int}{n:Nat}{Q:Int×Int×Nat->Shared->Prop}(hs:s.heap.IsSliceOf sl vl vu .none)(pl:IsPart vl lo)(pu:IsPart vu hi)
  (h:Q (((sIx n 0 lo:Nat):Int),1,sIx n n hi-sIx n 0 lo) s):wpAny (model prog w) A (Builtin.Slice.sliceApplied (.ref sl) (pure (n:Int))) Q E s:=by
 obtain⟨os,hos,hcs,hds⟩:=id hs;unfold Builtin.Slice.sliceApplied Builtin.Slice.sliceFields;refine Ef (Ef (Ga hos hds (x:=vl) rfl (Ef (Ga hos hds (x:=vu) rfl (Ef (Ga hos hds (x:=.none) rfl (Et ?_)))))));refine Ef (slicePart_none ?_)
 show wpAny _ _ (if ((1:Int) == 0)=true then _ else _) _ _ s
 rw[Ed (by decide)];refine Ef (py pl (Ef (py pu (Ef (Et ?_)))))
 show wpAny _ _ (match Builtin.Slice.sliceAdjust lo hi 1 (n:Int) with | (lo,hi)=>pure (lo,(1:Int),Builtin.Slice.slicePlaces lo hi 1)) _ _ s
 rw[uC lo hi n]
 show wpAny _ _ (pure (((sIx n 0 lo:Nat):Int),(1:Int),Builtin.Slice.slicePlaces ((sIx n 0 lo:Nat):Int) ((sIx n n hi:Nat):Int) 1)) _ _ s
 rw[vp];exact Et h
theorem yY (xs:Array Value)(i k:Nat):((List.range k).filterMap fun (m:Nat)=>xs[((i:Int)+(m:Int)*1).toNat]?).toArray=((xs.toList.drop i).take k).toArray:=by
 have e:(fun (m:Nat)=>xs[((i:Int)+(m:Int)*1).toNat]?)=fun m=>xs[i+m]?:=by
  funext m
  have:((i:Int)+(m:Int)*1).toNat=i+m:=by omega
  rw[this]
 rw[e];have:=pick_run xs i k;rw[List.filterMap_map]at this;have e2:((fun x=>xs[x]?) ∘ fun x=>i+x)=fun m=>xs[i+m]?:=rfl;rw[e2]at this;rw[this]
theorem getItem_tuple_cut {t sl:Addr}{items:Array Value}{vl vu:Value}{lo hi:Option Int}{Q:Value->Shared->Prop}(ht:IsTup s.heap t items)(hs:s.heap.IsSliceOf sl vl vu .none)(pl:IsPart vl lo)(pu:IsPart vu hi)
  (hw:¬ (sIx items.size 0 lo=0/\sIx items.size items.size hi=items.size))
  (h:Q (.ref s.heap.objs.size) { s with heap:=s.heap.push { cls:=.type "tuple",data:=.seq ((items.toList.drop (sIx items.size 0 lo)).take (sIx items.size items.size hi-sIx items.size 0 lo)).toArray } })
  (hsz:items.size<=sizeLine):wpAny (model prog w) A (getItem (.ref t) (.ref sl)) Q E s:=by
 have htake:sizeOk (.seq ((items.toList.drop (sIx items.size 0 lo)).take (sIx items.size items.size hi-sIx items.size 0 lo)).toArray):=by
  show ((items.toList.drop (sIx items.size 0 lo)).take (sIx items.size items.size hi-sIx items.size 0 lo)).toArray.size<=sizeLine
  rw[Ey,E8,List.length_drop,EJ];omega
 have hj:sIx items.size items.size hi<=items.size:=Bq _ _ (Eh _) hi;obtain⟨os,hos,hcs,hds⟩:=id hs;have hTs:s.TypeIs (.ref sl) "slice":=⟨os,hos,hcs⟩;unfold getItem
 try with_reducible refine FK ?_
 first | refine Ef (Et ?_) | skip
 refine Ef (wpAny_sequenceKey ht.typeIs (by decide) ?_)
 refine Ef (wpAny_callSpecial?_slot (name:=Str.ofString "__getitem__") ht.typeIs PyProof.Rows.slot_tuple_getitem
  (wpAny_call_entry PyProof.Rows.slot_tuple_getitem ht.typeIs entry_tuple_getitem ?_ (args_tuple_getitem _ _)))
 show wpAny _ _ (Builtin.Tuple.tupleItemsOf (.ref t) >>= _) _ _ s
 refine Ef (tupleItemsOf_ ht ?_);refine Ef (wpAny_typeOf hTs ?_);rw[Ee (by decide)];refine Ef (lK hs pl pu ?_)
 have hno:¬ ((((sIx items.size 0 lo:Nat):Int) == 0&&(1:Int) == 1&&(sIx items.size items.size hi-sIx items.size 0 lo) == items.size)=true):=by
  intro q;rw[Fy,Fy]at q;have q1:((sIx items.size 0 lo:Nat):Int)=0:=eq_of_beq q.1.1;have q2:sIx items.size items.size hi-sIx items.size 0 lo=items.size:=eq_of_beq q.2;exact hw ⟨by omega,by omega⟩
 show wpAny _ _ (if (((sIx items.size 0 lo:Nat):Int) == 0&&(1:Int) == 1&&(sIx items.size items.size hi-sIx items.size 0 lo) == items.size)=true then _ else _) _ _ s
 rw[Ed hno,yY]
 first
  | exact Ef (m:=Builtin.Tuple.tupleExact _) (Fw (Et ⟨_,rfl,Et h⟩) htake)
  | exact Ef (m:=Builtin.Tuple.tupleExact _) (Fw (Ef (Et (Et ⟨_,rfl,Et h⟩))) htake)
  | exact Ef (Ef (m:=Builtin.Tuple.tupleExact _) (Fw (Et (Et ⟨_,rfl,Et h⟩)) htake))
  | exact Ef (Ef (m:=Builtin.Tuple.tupleExact _) (Fw (Et ⟨_,rfl,Et h⟩) htake))
end
end HT
namespace L2
open PySem PySem.Spec PyProof.Rows
abbrev TO:=St->Hp->(Option Int->Hp->Prop)->Prop
def PO (X:Cx)(e:Option Expr)(t:TO):Prop :=
 ∀ (pins:List (Addr×Obj))(s:Shared)(σ:St)(H:Hp)(Q:Option Int->Hp->Prop),aw X pins σ H s->t σ H Q ->
  wpAny (model X.prog X.w) X.A (evalPart e X.env) (fun u s'=>∃ o H',aw X pins σ H' s'/\IsPart u o/\Q o H') X.xe s
def Au:TO:=fun _ H Q=>Q none H
def CM (t:TE):TO:=fun σ H Q=>t σ H fun x H1=>∃ i,x=.int i/\Q (some i) H1
section
variable {X:Cx}{e:Expr}{te:TE}{lo hi:Option Expr}{tl th:TO}{pos p2:Pos}
theorem Ak:PO X none Au:=by
 intro pins s σ H Q I h;rw[evalPart_none];exact Et ⟨none,H,I,.none,h⟩
theorem rL (h:PE X e te):PO X (some e) (CM te):=by
 intro pins s σ H Q I hw;rw[evalPart_some];refine bA (h pins s σ H _ I hw) fun u s1 ⟨x,H1,I1,r1,q1⟩=>?_;obtain⟨i,rfl,q⟩:=q1;obtain⟨t,rfl⟩:=r1;exact⟨some i,H1,I1,.int i t,q⟩
def Dc (X:Cx)(r:V->Option Int->Option Int->Hp->VK->Prop):Prop :=
 ∀ (pins:List (Addr×Obj))(s:Shared)(σ:St)(H:Hp)(x:V)(v vl vu:Value)(lo hi:Option Int)(sl:Addr)(Q:VK),aw X pins σ H s->aT x v->s.heap.IsSliceOf sl vl vu .none->IsPart vl lo->IsPart vu hi->r x lo hi H Q ->
  ∃ T id,typeLookup (.type T) "__getitem__" = pure (some (.builtin id))/\s.TypeIs v T/\wpAny (model X.prog X.w) X.A (getItem v (.ref sl)) (EP X pins σ Q) X.xe s
def D8 (r:V->Option Int->Option Int->Hp->VK->Prop)(te:TE)(tl th:TO):TE:=fun σ H Q=>te σ H fun x H1=>tl σ H1 fun l H2=>th σ H2 fun u H3=>r x l u H3 Q
theorem tX {r:V->Option Int->Option Int->Hp->VK->Prop}(hr:Dc X r)(he:PE X e te)(hl:PO X lo tl)(hu:PO X hi th):PE X (.Subscript e (.Slice lo hi none p2) pos) (D8 r te tl th):=by
 intro pins s σ H Q I h;refine Subscript_ (bA (he pins s σ H _ I h) fun v s1 ⟨x,H1,I1,r1,q1⟩=>?_);refine wpAny_Slice (bA (hl pins s1 σ H1 _ I1 q1) fun vl s2 ⟨l,H2,I2,pl,q2⟩=>bA (hu pins s2 σ H2 _ I2 q2) fun vu s3 ⟨u,H3,I3,pu,q3⟩=>?_);rw[evalPart_none];refine Et ?_;have I4:aw X pins σ H3 { s3 with heap:=s3.heap.push { cls:=.type "slice",data:=.fields #[vl,vu,.none] } }:=I3.kept (t':=s3.toks) fun b ob q=>Heap.get?_push_of_some _ q;obtain⟨T,id,hT,ht,hg⟩:=hr pins { s3 with heap:=s3.heap.push { cls:=.type "slice",data:=.fields #[vl,vu,.none] } } σ H3 x v vl vu l u s3.heap.objs.size Q I4 r1 (Heap.IsSliceOf.new ..) pl pu q3
 show wpAny (model X.prog X.w) X.A (subscriptTail e (.Slice lo hi none p2) v (.ref s3.heap.objs.size)) (EP X pins σ Q) X.xe { s3 with heap:=s3.heap.push { cls:=.type "slice",data:=.fields #[vl,vu,.none] } }
 exact tail_any (ops:=[.ref s3.heap.objs.size,v]) ht hT hg (by with_unfolding_all rfl)
def mP (xs:List V)(lo hi:Option Int):List V:=(xs.drop (HT.sIx xs.length 0 lo)).take (HT.sIx xs.length xs.length hi-HT.sIx xs.length 0 lo)
theorem mj (xs:List V)(lo hi:Option Int):(mP xs lo hi).length<=xs.length:=by
 unfold mP;rw[E8,List.length_drop];omega
def Dv (K:PySem.W.Frag):V->Option Int->Option Int->Hp->VK->Prop:=fun x lo hi H Q=>∃ a xs,x=.ref a/\dv K H a xs /\
 ¬ (HT.sIx xs.length 0 lo=0/\HT.sIx xs.length xs.length hi=xs.length)/\∀ p,H p=none->Q (.ref p) (upd H p (.tup (mP xs lo hi)))
theorem Bu:Dc X (Dv X.K):=by
 intro pins s σ H x v vl vu lo hi sl Q I rx hs pl pu h;obtain⟨a,xs,rfl,hx,hw,q⟩:=h;cases rx;obtain⟨its,r,ht,hz⟩:=I.tuple hx
 have hlen:its.toArray.size=xs.length:=by rw[Ey];exact r.length.symm
 refine⟨"tuple",_,PyProof.Rows.slot_tuple_getitem.lookup,ht.typeIs,?_⟩;refine HT.getItem_tuple_cut ht hs pl pu (by rw[hlen];exact hw) ?_ (by rw[hlen];exact hz);rw[hlen];refine⟨.ref s.heap.objs.size,_,I.laid (t':=s.toks) (o:=.tup (mP xs lo hi)) (fun b ob q=>Heap.get?_push_of_some _ q) (Eh _) ?_,rfl,q _ (I.hok.fresh (Eh _))⟩;exact⟨EI (mj xs lo hi) hz,_,(r.drop (HT.sIx xs.length 0 lo)).take (HT.sIx xs.length xs.length hi-HT.sIx xs.length 0 lo),IsTup.new _ _⟩
end
def Az (n:Nat)(i:Int):Option Nat:=if 0<=i then (if i<n then some i.toNat else none) else if -(n:Int)<=i then some (i+n).toNat else none
def vP {α:Type}(xs:List α)(i:Int):Option α:=(Az xs.length i).bind fun j=>xs[j]?
theorem zX {n:Nat}{i:Int}{j:Nat}(h:Az n i=some j):seqIndex? i n=some j/\j<n/\-(n:Int)<=i/\i<n:=by
 unfold Az at h
 by_cases h0:0<=i
 ·rw[Ee h0]at h
  by_cases h1:i<n
  ·rw[Ee h1]at h
   have e:i.toNat=j:=Ei h;exact⟨by rw[seqIndex_of h0 h1,e],by omega,by omega,h1⟩
  ·rw[Ed h1]at h;cases h
 ·rw[Ed h0]at h
  by_cases h1 : -(n:Int)<=i
  ·rw[Ee h1]at h
   have e:(i+n).toNat=j:=Ei h;exact⟨by rw[seqIndex_neg (by omega) h1,e],by omega,h1,by omega⟩
  ·rw[Ed h1]at h;cases h
theorem vQ {α:Type}{xs:List α}{i:Int}{v:α}(h:vP xs i=some v):∃ j,seqIndex? i xs.length=some j/\xs[j]? = some v/\j<xs.length/\-(xs.length:Int)<=i/\i<xs.length:=by
 unfold vP at h
 cases e:Az xs.length i with
 | none=>rw[e]at h;cases h
 | some j =>
  rw[e]at h;obtain⟨h1,h2,h3,h4⟩:=zX e;exact⟨j,h1,h,h2,h3,h4⟩
theorem dJ {α:Type}{xs:List α}{j:Nat}{v:α}(h:xs[j]? = some v):vP xs (j:Int)=some v:=by
 have hj:j<xs.length:=(List.getElem?_eq_some_iff.mp h).1
 have e:Az xs.length (j:Int)=some j:=by
  unfold Az;rw[Ee (by omega),Ee (by omega)];simp
 unfold vP;rw[e];exact h
theorem x6 {α:Type}(xs:List α)(v:α):vP (xs++[v]) (-1)=some v:=by
 have hl:(xs++[v]).length=xs.length+1:=by simp
 have e:Az (xs++[v]).length (-1)=some xs.length:=by
  unfold Az;rw[hl,Ed (by decide),Ee (by omega)]
  congr 1
  omega
 unfold vP;rw[e]
 show (xs++[v])[xs.length]? = some v
 simp
def zE (b:Expr):Prop:=∀ o i,subscripted b false o i=operate [o,i] (getItem o i)
def C9 (X:Cx)(r:R2):Prop :=
 ∀ (value slice:Expr)(pins:List (Addr×Obj))(s:Shared)(σ:St)(H:Hp)(x y:V)(v u:Value)(Q:VK),aw X pins σ H s->aT x v->aT y u->r x y H Q ->
  subscripted slice false v u=operate [v,u] (getItem v u)->wpAny (model X.prog X.w) X.A (subscriptTail value slice v u) (EP X pins σ Q) X.xe s
def DX (X:Cx)(id:String)(r:V->List V->Hp->VK->Prop):Prop :=
 ∀ (pins:List (Addr×Obj))(s:Shared)(σ:St)(H:Hp)(x:V)(xs:List V)(v:Value)(us:List Value)(Q:VK),aw X pins σ H s->aT x v->aU xs us->r x xs H Q ->
  wpAny (model X.prog X.w) X.A (call (.builtin id) (v::us)) (EP X pins σ Q) X.xe s
section
variable {X:Cx}{a b:Expr}{ta tb:TE}{pos:Pos}
theorem aI {r:R2}(hr:C9 X r)(ha:PE X a ta)(hb:PE X b tb)(hs:zE b):PE X (.Subscript a b pos) (C0 r ta tb):=by
 intro pins s σ H Q I h;exact Subscript_ (A3 ha hb I h fun v u s2 x y H2 I2 rx ry q=>hr a b pins s2 σ H2 x y v u Q I2 rx ry q (hs _ _))
inductive DM (K:PySem.W.Frag) (x y:V) (H:Hp) (Q:VK):Prop
 | mk (p:Addr) (xs:List V) (i:Int) (v:V) (e1:x=.ref p) (e2:y=.int i) (q:bz K H p xs) (a:vP xs i=some v) (h:Q v H):DM K x y H Q
def Ds (K:PySem.W.Frag):R2:=fun x y H Q=>DM K x y H Q
inductive DN (K:PySem.W.Frag) (x y:V) (H:Hp) (Q:VK):Prop
 | mk (p:Addr) (xs:List V) (i:Int) (v:V) (e1:x=.ref p) (e2:y=.int i) (q:dv K H p xs) (a:vP xs i=some v) (h:Q v H):DN K x y H Q
def Du (K:PySem.W.Frag):R2:=fun x y H Q=>DN K x y H Q
theorem dh:C9 X (Ds X.K):=by
 intro value slice pins s σ H x y v u Q I rx ry h hs;obtain⟨p,xs,i,z,rfl,rfl,hq,he,q⟩:=h;cases rx;obtain⟨t,rfl⟩:=ry;obtain⟨its,r,pl,hz⟩:=I.list hq;obtain⟨j,h1,h2,h3,h4,h5⟩:=vQ he;obtain⟨w,ew,rw'⟩:=r.get h2;have hl:=r.length;have hn:=u0;have fin:EP X pins σ Q w s:=⟨z,H,I,rw',q⟩
 by_cases h0:0<=i
 ·have hj:i.toNat=j:=by
   rw[seqIndex_of h0 h5]at h1;exact Ei h1
  exact item_listR pl.isList h0 (by omega) (by rw[hj];simpa using ew) fin hs
 ·have hj:(i+(its.toArray.size:Int)).toNat=j:=by
   rw[seqIndex_neg (by omega) h4]at h1;rw[Ey,<-hl];exact Ei h1
  exact subscriptTail_builtinR (x:=w) pl.isList.typeIs slot_list_getitem.lookup
   (wpAny_getItem_list_neg (Q:=fun r s'=>r=w/\EP X pins σ Q r s') pl.isList (by omega) (by rw[Ey]<;>omega) (by omega) (by rw[hj];simpa using ew) ⟨rfl,fin⟩) hs
theorem aG:C9 X (Du X.K):=by
 intro value slice pins s σ H x y v u Q I rx ry h hs;obtain⟨p,xs,i,z,rfl,rfl,hq,he,q⟩:=h;cases rx;obtain⟨t,rfl⟩:=ry;obtain⟨its,r,pl,hz⟩:=I.tuple hq;obtain⟨j,h1,h2,h3,h4,h5⟩:=vQ he;obtain⟨w,ew,rw'⟩:=r.get h2;have hl:=r.length;have hn:=u0;have fin:EP X pins σ Q w s:=⟨z,H,I,rw',q⟩
 exact subscriptTail_builtinR (x:=w) pl.typeIs slot_tuple_getitem.lookup
  (getItem_tuple (j:=j) (Q:=fun r s'=>r=w/\EP X pins σ Q r s') pl (by omega) (by omega) (by rw[Ey,<-hl];exact h1) (by simpa using ew) ⟨rfl,fin⟩) hs
theorem rX (lo hi:Option Int)(n:Nat):(sliceBounds lo hi none n).1=((HT.sIx n 0 lo:Nat):Int)/\(sliceBounds lo hi none n).2.1=((HT.sIx n n hi:Nat):Int)/\(sliceBounds lo hi none n).2.2=1:=by
 refine⟨?_,?_,rfl⟩
 ·cases lo with
  | none=>simp[sliceBounds,HT.sIx]
  | some i =>
   simp only[sliceBounds,HT.sIx,Option.getD_none,show (1:Int)>0 by decide,if_true]
   by_cases h:i<0
   ·simp only[h,if_true]<;>omega
   ·simp only[h,if_false]<;>omega
 ·cases hi with
  | none=>simp[sliceBounds,HT.sIx]
  | some i =>
   simp only[sliceBounds,HT.sIx,Option.getD_none,show (1:Int)>0 by decide,if_true]
   by_cases h:i<0
   ·simp only[h,if_true]<;>omega
   ·simp only[h,if_false]<;>omega
theorem pV (its:List Value)(lo hi:Option Int):slicePick its.toArray lo hi none=((its.drop (HT.sIx its.length 0 lo)).take (HT.sIx its.length its.length hi-HT.sIx its.length 0 lo)).toArray:=by
 obtain⟨h1,h2,h3⟩:=rX lo hi its.toArray.size;unfold slicePick;rw[h1,h2,h3];simp only[sliceRange_one,pick_run,Ey]<;>rfl
inductive Cy (K:PySem.W.Frag) (x:V) (lo:Option Int) (hi:Option Int) (H:Hp) (Q:VK):Prop
 | mk (a:Addr) (xs:List V) (h_0:x=.ref a) (h_1:bz K H a xs) (h_2:∀ p,H p=none->Q (.ref p) (upd H p (.lst (mP xs lo hi)))):Cy K x lo hi H Q
theorem Aq:Dc X (Cy X.K):=by
 intro pins s σ H x v vl vu lo hi sl Q I rx hs pl pu h;obtain⟨a,xs,rfl,hx,q⟩:=h;cases rx;obtain⟨its,r,ht,hz⟩:=I.list hx;have hlen:=r.length;refine⟨"list",_,slot_list_getitem.lookup,ht.isList.typeIs,?_⟩;refine wpAny_getItem_list_slice ht.isList hs pl pu .none (by simp) ?_ (by rw[Ey]<;>omega);rw[pV,<-hlen];refine⟨.ref s.heap.objs.size,_,I.laid (t':=s.toks) (o:=.lst (mP xs lo hi)) (fun b ob q=>Heap.get?_push_of_some _ q) (Eh _) ?_,rfl,q _ (I.hok.fresh (Eh _))⟩;exact⟨EI (mj xs lo hi) hz,_,0,(r.drop (HT.sIx xs.length 0 lo)).take (HT.sIx xs.length xs.length hi-HT.sIx xs.length 0 lo),Heap.get?_push_size _ rfl⟩
def yn:V->Bool
 | .non=>true
 | .bl _=>true
 | .int _=>true
 | .str _=>true
 | _=>false
def CY:V->V->Bool
 | .non,.non=>true
 | .bl a,.bl b=>a == b
 | .bl a,.int b=>(if a then 1 else 0) == b
 | .int a,.bl b=>a == (if b then 1 else 0)
 | .int a,.int b=>a == b
 | .str a,.str b=>a == b
 | _,_=>false
theorem A6 {A:Around}{s:Shared}{y x:V}{u v:Value}(ry:aT y u)(rx:aT x v)(fy:yn y=true)(fx:yn x=true):SeqAt.EqAt A s u v (CY y x):=by
 cases y with
 | non =>
  cases ry
  cases x with
  | non=>cases rx;exact SeqAt.EqAt.same _
  | bl b=>cases rx;exact SeqAt.EqAt.none_bool b
  | int b=>obtain⟨t,rfl⟩:=rx;exact SeqAt.EqAt.none_int b t
  | str b=>obtain⟨t,rfl⟩:=rx;exact SeqAt.EqAt.none_str b t
  | _=>exact absurd (show false=true from fx) Ej
 | bl a =>
  cases ry
  cases x with
  | non=>cases rx;exact SeqAt.EqAt.bool_none a
  | bl b=>cases rx;exact SeqAt.EqAt.bool_bool a b
  | int b=>obtain⟨t,rfl⟩:=rx;exact SeqAt.EqAt.bool_int a b t
  | str b=>obtain⟨t,rfl⟩:=rx;exact SeqAt.EqAt.bool_str a b t
  | _=>exact absurd (show false=true from fx) Ej
 | int a =>
  obtain⟨t',rfl⟩:=ry
  cases x with
  | non=>cases rx;exact SeqAt.EqAt.int_none a t'
  | bl b=>cases rx;exact SeqAt.EqAt.int_bool a t' b
  | int b=>obtain⟨t,rfl⟩:=rx;exact SeqAt.EqAt.int_int a t' b t
  | str b=>obtain⟨t,rfl⟩:=rx;exact SeqAt.EqAt.int_str a t' b t
  | _=>exact absurd (show false=true from fx) Ej
 | str a =>
  obtain⟨t',rfl⟩:=ry
  cases x with
  | non=>cases rx;exact SeqAt.EqAt.str_none a t'
  | bl b=>cases rx;exact SeqAt.EqAt.str_bool a t' b
  | int b=>obtain⟨t,rfl⟩:=rx;exact SeqAt.EqAt.str_int a t' b t
  | str b=>obtain⟨t,rfl⟩:=rx;exact SeqAt.EqAt.str_str a t' b t
  | _=>exact absurd (show false=true from fx) Ej
 | _=>exact absurd (show false=true from fy) Ej
theorem cB:lR X (.builtin "len") (fun xs H Q=>∃ p ys,xs=[.ref p]/\(bz X.K H p ys\/dv X.K H p ys)/\Q (.int ys.length) H):=by
 intro pins s σ H xs us Q I r h;obtain⟨p,ys,rfl,hq,q⟩:=h;obtain⟨u,rfl,rx⟩:=mI r;cases rx;have hn:=u0;rcases hq with hq | hq
 ·obtain⟨its,r',pl,hz⟩:=I.list hq
  have hlen:=r'.length;exact Calls.call_len_list pl.isList (by simp only[Ey]<;>omega) ⟨.int ys.length,H,I.tok _,⟨s.toks+1,by rw[Ey,hlen]⟩,q⟩
 ·obtain⟨its,r',pl,hz⟩:=I.tuple hq
  have hlen:=r'.length;exact len_tuple pl (by simp only[Ey]<;>omega) ⟨.int ys.length,H,I.tok _,⟨s.toks+1,by rw[Ey,hlen]⟩,q⟩
theorem qQ:lR X (.type "list") (fun xs H Q=>∃ p ys,xs=[.ref p]/\(bz X.K H p ys\/dv X.K H p ys)/\∀ l,H l=none->Q (.ref l) (upd H l (.lst ys))):=by
 intro pins s σ H xs us Q I r h;obtain⟨p,ys,rfl,hq,q⟩:=h;obtain⟨u,rfl,rx⟩:=mI r;cases rx
 have fin:∀ (its:List Value),aU ys its->ys.length<=sizeLine->∀ (h':Heap)(c':Nat),(∀ b o',s.heap.get? b=some o'->h'.get? b=some o') ->
   h'.get? s.heap.objs.size=some { cls:=.type "list",dict:=none,data:=.seq its.toArray c',slots:=#[] }->EP X pins σ Q (.ref s.heap.objs.size) { s with heap:=h' }:=fun its r' hz h' c' kp e =>
  ⟨.ref s.heap.objs.size,_,I.laid (t':=s.toks) kp (Eh _) (show bD X.prog X.w _ h' _ (.lst ys) from ⟨hz,its,c',r',e⟩),rfl,q _ (I.hok.fresh (Eh _))⟩
 rcases hq with hq | hq
 ·obtain⟨its,r',pl,hz⟩:=I.list hq
  have hlen:=r'.length;obtain⟨o,ho,hc,n,hd⟩:=pl.isList;exact call_list_seq p (.inl rfl) ho hc hd (fun h' c' kp e=>fin its r' hz h' c' kp e) (by simp only[Ey]<;>omega)
 ·obtain⟨its,r',pl,hz⟩:=I.tuple hq
  have hlen:=r'.length;obtain⟨o,ho,hc,n,hd⟩:=pl;exact call_list_seq p (.inr rfl) ho hc hd (fun h' c' kp e=>fin its r' hz h' c' kp e) (by simp only[Ey]<;>omega)
def DV (K:PySem.W.Frag)(T:String)(x:V)(H:Hp):Prop:=match x with
 | .str _=>T="str"
 | .int _=>T="int"
 | .ref p=>(T="list"/\∃ xs,bz K H p xs)\/(T="tuple"/\∃ o,K.lookup p=some o/\o.cls=.type "tuple"/\o.dict=none) \/
   (T="dict"/\((∃ kvs,H p=some (.dK kvs))\/∃ kvs,H p=some (.dT kvs)))\/(T="set"/\∃ S n,H p=some (.set S n))
 | _=>False
theorem BJ {pins:List (Addr×Obj)}{σ:St}{H:Hp}{s:Shared}{T:String}{x:V}{v:Value}(I:aw X pins σ H s)(r:aT x v)(ty:DV X.K T x H) :
  s.TypeIs v T/\∀ a,v=.ref a->∃ ob,s.heap.get? a=some ob/\ob.dict=none:=by
 cases x with
 | str z =>
  obtain⟨t,rfl⟩:=r;cases (show T="str" from ty);exact⟨typeIs_str s z t,fun _ e=>nomatch e⟩
 | int i =>
  obtain⟨t,rfl⟩:=r;cases (show T="int" from ty);exact⟨typeIs_int s i t,fun _ e=>nomatch e⟩
 | ref p =>
  cases r;rcases ty with ⟨rfl,xs,hq⟩ | ⟨rfl,o,hk,hc,hd⟩ | ⟨rfl,hk⟩ | ⟨rfl,S,n,hk⟩
  ·obtain⟨its,_,pl,_⟩:=I.list hq
   refine⟨pl.isList.typeIs,fun a e=>?_⟩;cases e;obtain⟨o,n,e,c,hd,_⟩:=pl;exact⟨o,e,hd⟩
  ·refine⟨⟨o,I.kIn p o hk,hc⟩,fun a e=>?_⟩
   cases e;exact⟨o,I.kIn _ o hk,hd⟩
  ·have z:∃ o,s.heap.get? p=some o/\o.ExactDict:=by
    rcases hk with ⟨kvs,hk⟩ | ⟨kvs,hk⟩
    ·obtain⟨_,_,_,_,o,_,_,e,ex,_⟩:=I.hok p _ hk
     exact⟨o,e,ex⟩
    ·obtain⟨_,_,_,_,o,_,_,e,ex,_⟩:=I.hok p _ hk
     exact⟨o,e,ex⟩
   obtain⟨o,e,ex⟩:=z;refine⟨⟨o,e,ex.1⟩,fun a e2=>?_⟩;cases e2;exact⟨o,e,ex.2.1⟩
  ·obtain⟨o,_,_,_,e,ex,_⟩:=I.hok p _ hk
   refine⟨⟨o,e,ex.1⟩,fun a e2=>?_⟩;cases e2;exact⟨o,e,ex.2.1⟩
 | _=>exact False.elim ty
def D4 (K:PySem.W.Frag)(T:String)(r:V->List V->Hp->VK->Prop)(to:TE)(t:TA):TE:=fun σ H Q=>to σ H fun x H1=>DV K T x H1/\t σ H1 fun xs H2=>r x xs H2 Q
variable {o e:Expr}{es:List Expr}{to:TE}{t:TA}{name:Str}{apos cpos:Pos}{T id:String}{r:V->List V->Hp->VK->Prop}
theorem jJ (pa:PlainAttrs T)(slot:Slot T name id)(hty:typeOf (.builtin id)=pure (.type "method_descriptor"))(hm:DX X id r)(ho:PE X o to)(ha:PA X (e::es) t)
  (hbase:attributeBase o name X.env (eval o X.env)=eval o X.env:=by rfl)
  (hfew:((backTo cpos (starEach (e::es) X.env)).all (fun x=>!x.1)&&(backToKw cpos (keywordEach [] X.env)).all (fun x=>x.1.isSome)
   && decide ((e::es).length+([]:List Keyword).length+(if ([]:List Keyword).isEmpty then 0 else 1)<30))=true:=by rfl)
  (hline:(apos.endLine == cpos.line)=true:=by rfl) (hs:starEach (e::es) X.env=(false,eval e X.env)::starEach es X.env:=by rfl) (hplain:(backTo cpos (starEach es X.env)).any (·.1)=false:=by rfl) :
  PE X (.Call (.Attribute o name apos) (e::es) [] cpos) (D4 X.K T r to t):=by
 intro pins s σ H Q I h;refine wpAny_Call_method_late hbase hfew hline rfl (bA (ho pins s σ H _ I h) fun v s1 ⟨x,H1,I1,r1,ty,q1⟩=>?_);obtain⟨h1,h2⟩:=BJ I1 r1 ty;refine⟨T,id,pa,slot,hty,h1,h2,?_⟩;have hA:=ha cpos pins s1 σ H1 _ I1 q1;rw[hs]at hA ⊢;refine FP (by show (false||(backTo cpos (starEach es X.env)).any (·.1))=false;rw[hplain]<;>rfl) (Fl ?_);exact bA hA fun us s2 ⟨vs,H2,I2,r2,q2⟩=>hm pins s2 σ H2 x vs v us Q I2 r1 r2 q2
end
def DW (X:Cx)(id:String)(r:V->List V->Hp->VK->Prop):Prop :=
 ∀ (pins:List (Addr×Obj))(s:Shared)(σ:St)(H:Hp)(x:V)(xs:List V)(v:Value)(us:List Value)(Q:VK),aw X pins σ H s->aT x v->aU xs us->r x xs H Q ->
  wpAny (model X.prog X.w) X.A (call (.builtin id) (v::us)) (EP X pins σ Q) X.xe s
theorem aU.one:∀ {x:V}{us:List Value},aU [x] us->∃ u,us=[u]/\aT x u
 | _,_,.cons r .nil=>⟨_,rfl,r⟩
theorem aU.two:∀ {x y:V}{us:List Value},aU [x,y] us->∃ u v,us=[u,v]/\aT x u/\aT y v
 | _,_,_,.cons r (.cons q .nil)=>⟨_,_,rfl,r,q⟩
section
variable {X:Cx}{pins:List (Addr×Obj)}{σ:St}{H:Hp}{s:Shared}{l b:Addr}{xs ys zs:List V}
theorem aw.lset {its its':List Value}{n:Nat}{f:Array Value->Array Value}{t':Nat}(I:aw X pins σ H s)(hH:H l=some (.lst xs))
  (e:s.heap.get? l=some { cls:=.type "list",data:=.seq its.toArray n }) (hf:f its.toArray=its'.toArray) (hv:aU ys its') (hz:ys.length<=sizeLine) :
  aw X pins σ (upd H l (.lst ys)) { s with heap:=s.heap.update l (Obj.mapSeq f),toks:=t' }:=by
 have q:=PySem.IsL.update e f;rw[hf]at q;refine I.write (x:=l) (e:=l) (by rw[hH];exact trivial) (.inl rfl) (fun b' u hb hu=>(Heap.get?_update_other s.heap (Obj.mapSeq f) (Ex hb)).trans hu) ⟨_,q⟩ ?_;exact⟨hz,its',_,hv,q⟩
theorem aw.lnew {its:List Value}{t':Nat}(I:aw X pins σ H s)(hv:aU ys its)(hz:ys.length<=sizeLine) :
  aw X pins σ (upd H s.heap.objs.size (.lst ys)) { s with heap:=s.heap.push { cls:=.type "list",data:=.seq its.toArray },toks:=t' } :=
 I.laid (fun _ _ q=>Heap.get?_push_of_some _ q) (Eh _) ⟨hz,its,0,hv,Heap.get?_push_size _ rfl⟩
theorem aw.fresh (I:aw X pins σ H s):H s.heap.objs.size=none:=I.hok.fresh (Eh _)
theorem aw.lstM (I:aw X pins σ H s)(hH:H l=some (.lst xs)):xs.length<=sizeLine/\∃ (its:List Value)(n:Nat),aU xs its/\xs.length=its.length/\s.heap.get? l=some { cls:=.type "list",data:=.seq its.toArray n }:=by
 obtain⟨z,its,n,r,e⟩:=I.hok l _ hH;exact⟨z,its,n,r,r.length,e⟩
end
section
variable {X:Cx}
inductive wF (x:V) (vs:List V) (H:Hp) (Q:VK):Prop
 | mk (l:Addr) (xs:List V) (y:V) (h_0:x=.ref l) (h_1:vs=[y]) (h_2:H l=some (.lst xs)) (h_3:xs.length<sizeLine) (h_4:Q .non (upd H l (.lst (xs++[y])))):wF x vs H Q
theorem cF:DW X "list.append" wF:=by
 intro pins s σ H x vs v us Q I rx rv h;obtain⟨l,xs,y,rfl,rfl,hH,hz,q⟩:=h;cases rx;obtain⟨u,rfl,ru⟩:=rv.one;obtain⟨z,its,n,r,hl,e⟩:=I.lstM hH;refine call_meets F.slot_list_append ⟨_,e,rfl⟩ F.entry_list_append (F.args_list_append_2 _ _) (PySem.list_append l its.toArray n u (by rw[Ey];omega)) ⟨e,?_⟩;refine⟨.non,_,I.lset (its':=its++[u]) hH e (by simp) (r.append (.cons ru .nil)) ?_,rfl,q⟩;rw[Ew,Fh];omega
inductive Bp (x:V) (y:V) (H:Hp) (Q:VK):Prop
 | mk (l b:Addr) (xs zs:List V) (h_0:x=.ref l) (h_1:y=.ref b) (h_2:H l=some (.lst xs)) (h_3:H b=some (.lst zs)) (h_4:xs.length+zs.length<=sizeLine) (h_5:∀ p,H p=none->Q (.ref p) (upd H p (.lst (xs++zs)))):Bp x y H Q
theorem vn:m5 X (binaryOp .Add) Bp:=by
 intro pins s σ H x y v u Q I rx ry h;obtain⟨l,b,xs,zs,rfl,rfl,hH,hB,hz,q⟩:=h;cases rx;cases ry;obtain⟨z,its,n,r,hl,e⟩:=I.lstM hH;obtain⟨z2,its2,n2,r2,hl2,e2⟩:=I.lstM hB;refine PySem.P.add_list e e2 ?_ (by rw[Ey,Ey];omega)
 have ea:its.toArray++its2.toArray=(its++its2).toArray:=by simp
 rw[ea];exact⟨.ref _,_,I.lnew (t':=s.toks) (r.append r2) (by rw[Ew];omega),rfl,q _ I.fresh⟩
end
section
variable {κ:Type} [DecidableEq κ]
def db (kvs:List (κ×V))(k:κ):Option V:=(kvs.find? fun kv=>decide (kv.1=k)).map (·.2)
def fb (kvs:List (κ×V))(k:κ)(v:V):List (κ×V) :=
 if (kvs.any fun kv=>decide (kv.1=k))=true then kvs.map (fun kv=>if kv.1=k then (kv.1,v) else kv) else kvs++[(k,v)]
def ou (kvs:List (κ×V))(k:κ):List (κ×V):=kvs.filter fun kv=>decide (kv.1≠k)
theorem ji {p:κ×V}{r:List (κ×V)}{k:κ}(e:p.1=k):db (p::r) k=some p.2:=by simp[db,List.find?_cons,e]
theorem jh {p:κ×V}{r:List (κ×V)}{k:κ}(e:¬ p.1=k):db (p::r) k=db r k:=by simp[db,List.find?_cons,e]
theorem jg (k:κ):∀ kvs:List (κ×V),(kvs.any fun kv=>decide (kv.1=k))=(db kvs k).isSome
 | []=>rfl
 | p::r=>by
  rw[F8]
  by_cases e:p.1=k
  ·simp only[ji e,EC e,Bool.true_or,Option.isSome_some]
  ·rw[jh e,EA e,Bool.false_or];exact jg k r
theorem iS (kvs:List (κ×V))(k:κ)(v:V):(fb kvs k v).length<=kvs.length+1:=by
 unfold fb;split
 ·rw[Eg];omega
 ·rw[Ew,EO,List.length_nil];omega
theorem y3 {kvs:List (κ×V)}{k:κ}(v:V)(h:db kvs k=none):fb kvs k v=kvs++[(k,v)]:=by
 unfold fb;rw[jg,h];exact Ed (by decide)
theorem gK.isSome_eq {o:Option V}{u:Option Value}(r:gK o u):o.isSome=u.isSome:=by
 cases o with
 | none=>cases u with
  | none=>rfl
  | some _=>exact (show False from r).elim
 | some _=>cases u with
  | none=>exact (show False from r).elim
  | some _=>rfl
theorem gK.getD {o:Option V}{u:Option Value}{d:V}{d':Value}(r:gK o u)(rd:aT d d'):aT (o.getD d) (u.getD d'):=by
 cases o with
 | none=>cases u with
  | none=>exact rd
  | some _=>exact (show False from r).elim
 | some _=>cases u with
  | none=>exact (show False from r).elim
  | some _=>exact r
theorem KV.val {kvs:List (κ×V)}{vs:List (κ×Value)}(r:KV kvs vs)(k:κ):gK (db kvs k) (valueAt vs k):=by
 unfold KV at r
 induction r with
 | nil=>exact True.intro
 | @cons p q ps qs h t ih =>
  obtain⟨h1,h2⟩:=h
  by_cases e:p.1=k
  ·have e':q.1=k:=h1.symm.trans e
   have b:valueAt (q::qs) k=some q.2:=by simp[valueAt,List.find?_cons,e']
   rw[ji e,b];exact h2
  ·have e':¬ q.1=k:=fun z=>e (h1.trans z)
   have b:valueAt (q::qs) k=valueAt qs k:=by simp[valueAt,List.find?_cons,e']
   rw[jh e,b];exact ih
theorem KV.any {kvs:List (κ×V)}{vs:List (κ×Value)}(r:KV kvs vs)(k:κ):(kvs.any fun kv=>decide (kv.1=k))=vs.any fun kv=>decide (kv.1=k):=by
 unfold KV at r
 induction r with
 | nil=>rfl
 | cons h t ih=>rw[F8,F8,ih,h.1]
theorem KV.repl {kvs:List (κ×V)}{vs:List (κ×Value)}(r:KV kvs vs)(k:κ){y:V}{u:Value}(ry:aT y u) :
  KV (kvs.map fun kv=>if kv.1=k then (kv.1,y) else kv) (vs.map fun kv=>if kv.1=k then (kv.1,u) else kv):=by
 unfold KV at r ⊢
 induction r with
 | nil=>exact .nil
 | @cons p q ps qs h t ih =>
  rw[EF,EF];refine .cons ?_ ih;obtain⟨h1,h2⟩:=h
  by_cases e:p.1=k
  ·rw[Ee e,Ee (h1.symm.trans e)];exact⟨h1,ry⟩
  ·rw[Ed e,Ed (fun z=>e (h1.trans z))];exact⟨h1,h2⟩
theorem KV.put {kvs:List (κ×V)}{vs:List (κ×Value)}(r:KV kvs vs)(k:κ){y:V}{u:Value}(ry:aT y u):KV (fb kvs k y) (stored vs k u):=by
 unfold fb stored;rw[r.any k]
 by_cases e:(vs.any fun kv=>decide (kv.1=k))=true
 ·rw[Ee e,Ee e];exact r.repl k ry
 ·rw[Ed e,Ed e];exact Paired.snoc r ⟨rfl,ry⟩
theorem KV.drop {kvs:List (κ×V)}{vs:List (κ×Value)}(r:KV kvs vs)(k:κ):KV (ou kvs k) (without vs k):=by
 unfold KV at r ⊢;unfold ou without
 induction r with
 | nil=>exact .nil
 | @cons p q ps qs h t ih =>
  obtain⟨h1,h2⟩:=h;rw[List.filter_cons,List.filter_cons]
  by_cases e:p.1=k
  ·have a:¬ decide (p.1≠k)=true:=by simp[e]
   have b:¬ decide (q.1≠k)=true:=by simp[h1.symm.trans e]
   rw[Ed a,Ed b];exact ih
  ·have e':¬ q.1=k:=fun z=>e (h1.trans z)
   have a:decide (p.1≠k)=true:=by simp[e]
   have b:decide (q.1≠k)=true:=by simp[e']
   rw[Ee a,Ee b];exact .cons ⟨h1,h2⟩ ih
theorem KV.keys {kvs:List (κ×V)}{vs:List (κ×Value)}(r:KV kvs vs):kvs.map (·.1)=vs.map (·.1):=by
 unfold KV at r
 induction r with
 | nil=>rfl
 | cons h t ih=>rw[EF,EF,ih,h.1]
theorem KV.length {kvs:List (κ×V)}{vs:List (κ×Value)}(r:KV kvs vs):kvs.length=vs.length:=Er r
theorem yh (kvs:List (κ×V))(k:κ):(ou kvs k).length<=kvs.length:=Fz _ _
end
theorem kC {P:Program}{w:World}{k:bR}{u:Value}(r:aT (kV k) u):(bH P w).is k u=true:=by
 cases k with
 | inl i=>obtain⟨t,e⟩:=(show ∃ t,u=Value.int i t from r);subst e;exact tu P w i t
 | inr x=>obtain⟨t,e⟩:=(show ∃ t,u=Value.str x t from r);subst e;exact tw P w x t
theorem qi {P:Program}{w:World}:∀ {ks:List bR}{us:List Value},aU (ks.map kV) us->ItemsAre (bH P w) ks us
 | [],_,r=>by rw[List.map_nil]at r;cases r;exact .nil
 | k::ks,_,r=>by
  rw[EF]at r
  cases r with
  | cons h t=>exact .cons (kC h) (qi t)
abbrev KT (H:Hp):List (List bR×V)->List (List bR×Addr×Value)->Prop:=Paired fun p q=>p.1=q.1/\H q.2.1=some (.tup (p.1.map kV))/\aT p.2 q.2.2
theorem KT.val {H:Hp}{kvs:List (List bR×V)}{xs:List (List bR×Addr×Value)}(r:KT H kvs xs)(k:List bR):gK (db kvs k) ((atKey xs k).map (·.2)):=by
 induction r with
 | nil=>exact True.intro
 | @cons p q ps qs h t ih =>
  obtain⟨h1,_,h2⟩:=h
  by_cases e:p.1=k
  ·have e':q.1=k:=h1.symm.trans e
   have b:atKey (q::qs) k=some q.2:=by simp[atKey,List.find?_cons,e']
   rw[ji e,b];exact h2
  ·have e':¬ q.1=k:=fun z=>e (h1.trans z)
   have b:atKey (q::qs) k=atKey qs k:=by simp[atKey,List.find?_cons,e']
   rw[jh e,b];exact ih
theorem KT.repl {H:Hp}{kvs:List (List bR×V)}{xs:List (List bR×Addr×Value)}(r:KT H kvs xs)(k:List bR){y:V}{u:Value}(ry:aT y u) :
  KT H (kvs.map fun kv=>if kv.1=k then (kv.1,y) else kv) (xs.map (putAt k u)):=by
 induction r with
 | nil=>exact .nil
 | @cons p q ps qs h t ih =>
  rw[EF,EF];refine .cons ?_ ih;obtain⟨h1,h2,h3⟩:=h;unfold putAt
  by_cases e:p.1=k
  ·rw[Ee e,Ee (h1.symm.trans e)];exact⟨h1,h2,ry⟩
  ·rw[Ed e,Ed (fun z=>e (h1.trans z))];exact⟨h1,h2,h3⟩
theorem KT.put {H:Hp}{kvs:List (List bR×V)}{xs:List (List bR×Addr×Value)}(r:KT H kvs xs)(k:List bR){b:Addr}{y:V}{u:Value}(hb:H b=some (.tup (k.map kV)))(ry:aT y u) :
  KT H (fb kvs k y) (storedH xs k b u):=by
 have e:(kvs.any fun kv=>decide (kv.1=k))=(atKey xs k).isSome:=by
  rw[jg,(r.val k).isSome_eq,Option.isSome_map]
 unfold fb storedH;rw[e]
 by_cases q:(atKey xs k).isSome=true
 ·rw[Ee q,Ee q];exact r.repl k ry
 ·rw[Ed q,Ed q];exact Paired.snoc r ⟨rfl,hb,ry⟩
theorem KT.keeps {H H':Hp}{kvs:List (List bR×V)}{xs:List (List bR×Addr×Value)}(r:KT H kvs xs)(ht:∀ b ys,H b=some (.tup ys)->H' b=some (.tup ys)):KT H' kvs xs :=
 Paired.mapP r fun _ _ z=>⟨z.1,ht _ _ z.2.1,z.2.2⟩
section
variable {P:Program}{w:World}{H:Hp}{h:Heap}{a:Addr}
theorem AE {u:HO}(ok:iJ P w H h)(e:Rd H a u):bD P w H h a u:=e.ok ok
theorem mn {kvs:List (bR×V)}(ok:iJ P w H h)(e:Rd H a (.dK kvs)):kvs.length<=sizeLine/\(a == sysModules)=false/\∃ vs,KV kvs vs/\h.DictOf (bH P w) a vs :=
 show bD P w H h a (.dK kvs) from AE ok e
theorem yf {kvs:List (bR×V)}(ok:iJ P w H h)(e:H a=some (.dK kvs)):kvs.length<=sizeLine/\(a == sysModules)=false/\∃ vs,KV kvs vs/\h.DictOf (bH P w) a vs:=mn ok (.inl e)
theorem jS {ks:List bR}(ok:iJ P w H h)(e:H a=some (.tup (ks.map kV))):(tupleKind (bH P w)).is h ks a:=by
 obtain⟨_,its,r,o,h1,h2,n,h3⟩:=(show bD P w H h a (.tup (ks.map kV)) from ok a _ e);exact⟨o,its.toArray,n,h1,h2,h3,by simpa using qi r⟩
theorem mw {kvs:List (List bR×V)}(ok:iJ P w H h)(e:Rd H a (.dT kvs)):kvs.length<=sizeLine/\(a == sysModules)=false /\
  ∃ xs,KT H kvs xs/\h.DictOfH (tupleKind (bH P w)) a xs:=by
 obtain⟨z,y,xs,r,o,es,ep,h1,h2,h3,h4,h5⟩:=(show bD P w H h a (.dT kvs) from AE ok e);refine⟨z,y,xs,r,o,es,ep,h1,h2,h3,h4,fun x hx=>?_,h5⟩
 have all:∀ {l:List (List bR×V)}{m:List (List bR×Addr×Value)},KT H l m->∀ x∈m,(tupleKind (bH P w)).is h x.1 x.2.1:=by
  intro l m q
  induction q with
  | nil=>intro x hx;exact nomatch hx
  | @cons p q ps qs hq t ih =>
   intro x hx;rcases En.mp hx with e | hx
   ·subst e
    exact jS ok (by rw[<-hq.1];exact hq.2.1)
   ·exact ih x hx
 exact all r x hx
theorem Cd {kvs:List (List bR×V)}(ok:iJ P w H h)(e:H a=some (.dT kvs)):kvs.length<=sizeLine/\(a == sysModules)=false /\
  ∃ xs,KT H kvs xs/\h.DictOfH (tupleKind (bH P w)) a xs:=mw ok (.inl e)
end
def cI (H:Hp)(a:Addr)(y:V)(r:Option V):Prop :=
 (∃ kvs k,Rd H a (.dK kvs)/\y=kV k/\r=db kvs k)\/∃ kvs k b,Rd H a (.dT kvs)/\y=.ref b/\H b=some (.tup (k.map kV))/\r=db kvs k
def jx (H:Hp)(a:Addr)(y v:V)(H':Hp):Prop :=
 (∃ kvs k,H a=some (.dK kvs)/\y=kV k/\kvs.length<sizeLine/\H'=upd H a (.dK (fb kvs k v))) \/
 ∃ kvs k b,H a=some (.dT kvs)/\y=.ref b/\H b=some (.tup (k.map kV))/\kvs.length<sizeLine/\H'=upd H a (.dT (fb kvs k v))
theorem cI.k {H:Hp}{a:Addr}{kvs:List (bR×V)}{k:bR}(e:H a=some (.dK kvs)):cI H a (kV k) (db kvs k):=.inl ⟨kvs,k,.inl e,rfl,rfl⟩
theorem cI.t {H:Hp}{a b:Addr}{kvs:List (List bR×V)}{k:List bR}(e:H a=some (.dT kvs))(eb:H b=some (.tup (k.map kV))):cI H a (.ref b) (db kvs k):=.inr ⟨kvs,k,b,.inl e,rfl,eb,rfl⟩
theorem jx.k {H:Hp}{a:Addr}{kvs:List (bR×V)}{k:bR}{v:V}(e:H a=some (.dK kvs))(hl:kvs.length<sizeLine):jx H a (kV k) v (upd H a (.dK (fb kvs k v))):=.inl ⟨kvs,k,e,rfl,hl,rfl⟩
theorem jx.t {H:Hp}{a b:Addr}{kvs:List (List bR×V)}{k:List bR}{v:V}(e:H a=some (.dT kvs))(eb:H b=some (.tup (k.map kV)))(hl:kvs.length<sizeLine) :
  jx H a (.ref b) v (upd H a (.dT (fb kvs k v))):=.inr ⟨kvs,k,b,e,rfl,eb,hl,rfl⟩
section
variable {X:Cx}{pins:List (Addr×Obj)}{σ:St}{H:Hp}{s:Shared}{a:Addr}{y v:V}{u r:Value}{o:Option V}{A:Around}{E:Value->Shared->Prop}
theorem aw.big (I:aw X pins σ H s):sysModules<s.heap.objs.size:=by
 have h:mainGlobals<s.heap.objs.size:=(I.mod.glob.keeps I.bk).lt;exact Nat.lt_trans (by decide) h
theorem xf {Q:Value->Shared->Prop}(hu:A.units+1<cLine)(I:aw X pins σ H s)(g:cI H a y (some v))(ry:aT y u)(h:∀ w' s',aw X pins σ H s'->aT v w'->Q w' s') :
  wpAny (model X.prog X.w) A (getItem (.ref a) u) Q E s:=by
 rcases g with ⟨kvs,k,e,ey,l⟩ | ⟨kvs,k,b,e,ey,eb,l⟩
 ·subst ey
  obtain⟨z,hd,vs,rel,dd⟩:=mn I.hok e;obtain⟨w',hw,rw'⟩:=gK.some_of (v:=v) (o:=valueAt vs k) (by rw[l];exact rel.val k);exact wpAny_getItem_of (kC ry) dd.mapOf hw (h w' _ (I.tok _) rw')
 ·subst ey
  cases (show u=Value.ref b from ry);obtain⟨z,hd,xs,rel,dd⟩:=mw I.hok e;obtain⟨w',hw,rw'⟩:=gK.some_of (v:=v) (o:=(atKey xs k).map (·.2)) (by rw[l];exact rel.val k);obtain⟨p,hp,hp2⟩:=Option.map_eq_some_iff.mp hw;refine wpAny_getItem_heap (FT hu) (jS I.hok eb) dd hp ?_;rw[hp2];exact h w' _ (I.tok _) rw'
theorem Dj {Q:Value->Shared->Prop}(hu:A.units+1<cLine)(I:aw X pins σ H s)(g:cI H a y o)(ry:aT y u)(h:∀ s',aw X pins σ H s'->Q (.bool o.isSome) s') :
  wpAny (model X.prog X.w) A (compareOp .In u (.ref a)) Q E s:=by
 rcases g with ⟨kvs,k,e,ey,l⟩ | ⟨kvs,k,b,e,ey,eb,l⟩
 ·subst ey
  obtain⟨z,hd,vs,rel,dd⟩:=mn I.hok e;refine wpAny_in_of (kC ry) hd dd.mapOf ?_;rw[<-(rel.val k).isSome_eq,<-l];exact h _ (I.tok _)
 ·subst ey
  cases (show u=Value.ref b from ry);obtain⟨z,hd,xs,rel,dd⟩:=mw I.hok e;refine wpAny_in_heap (FT hu) (jS I.hok eb) hd dd ?_;have q:=(rel.val k).isSome_eq;rw[Option.isSome_map]at q;rw[<-q,<-l];exact h _ (I.tok _)
theorem zL {Q:Value->Shared->Prop}(hu:A.units+1<cLine)(I:aw X pins σ H s)(g:cI H a y o)(ry:aT y u)(h:∀ s',aw X pins σ H s'->Q (.bool (!o.isSome)) s') :
  wpAny (model X.prog X.w) A (compareOp .NotIn u (.ref a)) Q E s:=by
 rcases g with ⟨kvs,k,e,ey,l⟩ | ⟨kvs,k,b,e,ey,eb,l⟩
 ·subst ey
  obtain⟨z,hd,vs,rel,dd⟩:=mn I.hok e;refine wpAny_notIn_of (kC ry) hd dd.mapOf ?_;rw[<-(rel.val k).isSome_eq,<-l];exact h _ (I.tok _)
 ·subst ey
  cases (show u=Value.ref b from ry);obtain⟨z,hd,xs,rel,dd⟩:=mw I.hok e;refine wpAny_notIn_heap (FT hu) (jS I.hok eb) hd dd ?_;have q:=(rel.val k).isSome_eq;rw[Option.isSome_map]at q;rw[<-q,<-l];exact h _ (I.tok _)
theorem m8 {h':Heap}{t':Nat}{ob:HO}(I:aw X pins σ H s)(mu:B7 (H a))(hs:Heap.SameBut a s.heap h')(he:∃ q,h'.get? a=some q)(new:bD X.prog X.w (upd H a ob) h' a ob) :
  aw X pins σ (upd H a ob) { s with heap:=h',toks:=t' } :=
 I.write (x:=a) (e:=a) mu (.inl rfl) (fun b q hb z=>(hs.2 b hb).trans z) he new
theorem uH {P:Program}{w:World}{H':Hp}{h':Heap}{kvs:List (bR×V)}{vs:List (bR×Value)}(z:kvs.length<=sizeLine)(hd:(a == sysModules)=false)(rel:KV kvs vs)(dd:h'.DictOf (bH P w) a vs) :
  bD P w H' h' a (.dK kvs):=⟨z,hd,vs,rel,dd⟩
theorem xg {H':Hp}{Q:Unit->Shared->Prop}(hu:A.units+1<cLine)(I:aw X pins σ H s)(g:jx H a y v H')(ry:aT y u)(rv:aT v r)(h:∀ s',aw X pins σ H' s'->Q () s') :
  wpAny (model X.prog X.w) A (setItem (.ref a) u r) Q E s:=by
 rcases g with ⟨kvs,k,e,ey,l,eH⟩ | ⟨kvs,k,b,e,ey,eb,l,eH⟩
 ·subst ey eH
  obtain⟨z,hd,vs,rel,dd⟩:=yf I.hok e
  have hz:vs.length<=sizeLine:=by rw[<-rel.length];exact z
  have hl:(fb kvs k v).length<=sizeLine:=by have:=iS kvs k v;omega
  refine wpAny_setItem_pairs (hsz:=hz) (kC ry) dd fun h' dd' hs=>h _ ?_;have he:∃ q,h'.get? a=some q:=let ⟨q,_,_,hq,_⟩:=dd';⟨q,hq⟩;exact m8 I (by rw[e];exact True.intro) hs he (uH hl hd (rel.put k rv) dd')
 ·subst ey eH
  cases (show u=Value.ref b from ry);obtain⟨z,hd,xs,rel,dd⟩:=Cd I.hok e
  have hz:xs.length<=sizeLine:=by rw[<-Er rel];exact z
  have hl:(fb kvs k v).length<=sizeLine:=by have:=iS kvs k v;omega
  refine wpAny_setItem_heap (hsz:=hz) (FT hu) (jS I.hok eb) dd fun h' dd' hs=>h _ ?_;obtain⟨q,es,ep,hq,h2,h3,h4,_,h5⟩:=dd';refine m8 I (by rw[e];exact True.intro) hs ⟨q,hq⟩ ⟨hl,hd,_,(rel.put k eb rv).keeps fun c ys ec=>?_,q,es,ep,hq,h2,h3,h4,h5⟩;rw[ae (cQ ec e (fun z=>nomatch z))];exact ec
end
section
variable {X:Cx}{pins:List (Addr×Obj)}{σ:St}{H:Hp}{s:Shared}{a:Addr}{kvs:List (bR×V)}{k:bR}{u:Value}{A:Around}{E:Value->Shared->Prop}
theorem Cc {v:V}{more:List Value}{Q:Value->Shared->Prop}(I:aw X pins σ H s)(e:H a=some (.dK kvs))(ry:aT (kV k) u)(l:db kvs k=some v)(hm:more=[]\/∃ x,more=[x])
  (h:∀ w' s',aw X pins σ (upd H a (.dK (ou kvs k))) s'->aT v w'->Q w' s'):wpAny (model X.prog X.w) A (call (.builtin "dict.pop") (.ref a::u::more)) Q E s:=by
 obtain⟨z,hd,vs,rel,dd⟩:=yf I.hok e;obtain⟨w',hw,rw'⟩:=gK.some_of (v:=v) (o:=valueAt vs k) (by rw[<-l];exact rel.val k)
 have hp:(keyPart u).isSome=true:=by
  cases k with
  | inl i=>obtain⟨t,q⟩:=(show ∃ t,u=Value.int i t from ry);subst q;rfl
  | inr x=>obtain⟨t,q⟩:=(show ∃ t,u=Value.str x t from ry);subst q;rfl
 have ha:argsOk "dict.pop" ⟨.ref a::u::more,[]⟩:=by
  rcases hm with q | ⟨x,q⟩
  ·subst q;exact PySem.F.args_dict_pop_2 _ _
  ·subst q;exact PySem.F.args_dict_pop_3 _ _ _
 refine call_meetsIn PySem.F.slot_dict_pop dd.typeIs PySem.F.entry_dict_pop ha (meets_dict_pop_there (bH X.prog X.w) a (kC ry) more hm hp)
  ⟨vs,w',dd,by rw[<-rel.length];exact z,hw,fun h' dd' hs=>h w' _ ?_ rw'⟩
 have he:∃ q,h'.get? a=some q:=let ⟨q,_,_,hq,_⟩:=dd';⟨q,hq⟩;exact m8 I (by rw[e];exact True.intro) hs he (uH (EI (yh kvs k) z) hd (rel.drop k) dd')
end
def B8 (i:Expr):Prop:=∀ ov iv,subscripted i false ov iv=operate [ov,iv] (getItem ov iv)
theorem As {prog:Program}{w:World}{A:Around}{E:Value->Shared->Prop}{s:Shared}{env:Env}{value slice:Expr}{pos:Pos}{T id:String}{Q:Value->Shared->Prop}
  (hl:typeLookup (.type T) "__getitem__" = pure (some (.builtin id))) (hs:B8 slice)
  (h:wpAny (model prog w) A (eval value env) (fun o s₁=>wpAny (model prog w) A (eval slice env) (fun i s₂=>s₂.TypeIs o T/\wpAny (model prog w) A (getItem o i) Q E s₂) E s₁) E s) :
  wpAny (model prog w) A (eval (.Subscript value slice pos) env) Q E s:=by
 refine Subscript_ (E4 h (fun o s₁ h₁=>E4 h₁ (fun i s₂ h₂=>?_) fun _ _ x=>x) fun _ _ x=>x);obtain⟨hT,h₂⟩:=h₂;unfold subscriptTail;refine Ef ?_;rw[getitemInPython_of_ne hT.not_modules];refine Ef (wpAny_specialOf hT hl ?_)
 have fin:wpAny (model prog w) A (subscripted slice false o i) (fun r s₃=>wpAny (model prog w) A (letTemporaryGo value o r >>= fun _=>pure r) Q E s₃) E s₂:=by
  rw[hs o i];exact wpAny_operating (E4 h₂ (fun r s₃ h₃=>Ef (wpAny_letTemporaryGo (Et h₃))) fun _ _ x=>x)
 first
  | exact Et (Ef fin)
  | exact Ef (Et (Ef fin))
  | exact Ef fin
theorem sJ {X:Cx}{pins:List (Addr×Obj)}{σ:St}{H:Hp}{s:Shared}{a:Addr}{y:V}{o:Option V}(I:aw X pins σ H s)(g:cI H a y o):s.TypeIs (.ref a) "dict":=by
 rcases g with ⟨kvs,k,e,_,_⟩ | ⟨kvs,k,b,e,_,_,_⟩
 ·obtain⟨_,_,vs,_,dd⟩:=mn I.hok e
  exact dd.typeIs
 ·obtain⟨_,_,xs,_,dd⟩:=mw I.hok e
  exact dd.typeIs
inductive DP (x y:V) (Q:VK) (H:Hp):Prop
 | mk (a:Addr) (v:V) (e:x=.ref a) (g:cI H a y (some v)) (h:Q v H):DP x y Q H
def CG (td ty:TE):TE:=fun σ H Q=>td σ H fun x H1=>ty σ H1 fun y H2=>DP x y Q H2
def Dy (ty td:TE):TE:=fun σ H Q=>ty σ H fun y H1=>td σ H1 fun x H2=>∃ a o,x=.ref a/\cI H2 a y o/\Q (.bl o.isSome) H2
def At (ty td:TE):TE:=fun σ H Q=>ty σ H fun y H1=>td σ H1 fun x H2=>∃ a o,x=.ref a/\cI H2 a y o/\Q (.bl (!o.isSome)) H2
def Cz (td ty tv:TE):TS:=fun D σ H=>tv σ H fun v H1=>td σ H1 fun x H2=>ty σ H2 fun y H3=>∃ a H4,x=.ref a/\jx H3 a y v H4/\D.nx σ H4
section
variable {X:Cx}{o i e value:Expr}{pos pos' tpos:Pos}{td ty tv:TE}
theorem ig (hu:X.A.units+1<cLine)(ho:PE X o td)(hi:PE X i ty)(hs:B8 i):PE X (.Subscript o i pos) (CG td ty):=by
 intro pins s σ H Q I h;refine As PySem.F.slot_dict_getitem.lookup hs (bA (ho pins s σ H _ I h) fun u s1 ⟨x,H1,I1,rx,q1⟩=>bA (hi pins s1 σ H1 _ I1 q1) fun iv s2 ⟨y,H2,I2,ry,a,v,ex,g,q2⟩=>?_);subst ex;obtain rfl:u=Value.ref a:=rx;exact⟨sJ I2 g,xf hu I2 g ry fun w' s3 I3 rw'=>⟨v,H2,I3,rw',q2⟩⟩
theorem iY (hu:X.A.units+1<cLine)(hi:PE X i ty)(ho:PE X o td):PC X .In i o (Dy ty td):=by
 intro pins s σ H Q I h;refine bA (hi pins s σ H _ I h) fun iv s1 ⟨y,H1,I1,ry,q1⟩=>bA (ho pins s1 σ H1 _ I1 q1) fun u s2 ⟨x,H2,I2,rx,a,ov,ex,g,q2⟩=>?_;subst ex;obtain rfl:u=Value.ref a:=rx;exact Dj hu I2 g ry fun s3 I3=>⟨.bl ov.isSome,H2,I3,rfl,q2⟩
theorem lH (hu:X.A.units+1<cLine)(hi:PE X i ty)(ho:PE X o td):PC X .NotIn i o (At ty td):=by
 intro pins s σ H Q I h;refine bA (hi pins s σ H _ I h) fun iv s1 ⟨y,H1,I1,ry,q1⟩=>bA (ho pins s1 σ H1 _ I1 q1) fun u s2 ⟨x,H2,I2,rx,a,ov,ex,g,q2⟩=>?_;subst ex;obtain rfl:u=Value.ref a:=rx;exact zL hu I2 g ry fun s3 I3=>⟨.bl (!ov.isSome),H2,I3,rfl,q2⟩
theorem fu (hu:X.A.units+1<cLine)(ho:PE X o td)(hi:PE X i ty)(hv:PE X value tv)(hs:swapsWith value (some (.Subscript o i pos')) pos.line X.env=pure false) :
  PS X (.Assign [.Subscript o i pos'] value pos) (Cz td ty tv):=by
 intro pins s σ H D I h;refine wpAny_Assign_Subscript (bA (hv pins s σ H _ I h) fun r s1 ⟨v,H1,I1,rv,q1⟩=>bA (ho pins s1 σ H1 _ I1 q1) fun u s2 ⟨x,H2,I2,rx,q2⟩=>bA (hi pins s2 σ H2 _ I2 q2) fun iv s3 ⟨y,H3,I3,ry,a,H4,ex,g,q3⟩=>?_) hs;subst ex;obtain rfl:u=Value.ref a:=rx;exact xg hu I3 g ry rv fun s4 I4=>⟨σ,H4,I4,q3⟩
end
theorem ye {P:Program}{w:World}{H:Hp}(h:Heap)(hb:sysModules<h.objs.size):bD P w H (h.push { cls:=.type "dict",data:=.dict #[] }) h.objs.size (.dK []) :=
 ⟨EK _,Fo.mpr (Ex (Eu hb)),[],.nil,Heap.DictOf.new h⟩
theorem yi {P:Program}{w:World}{H:Hp}(h:Heap)(hb:sysModules<h.objs.size):bD P w H (h.push { cls:=.type "dict",data:=.dict #[] }) h.objs.size (.dT []) :=
 ⟨EK _,Fo.mpr (Ex (Eu hb)),[],.nil,_,#[],0,Heap.get?_push_size _ rfl,⟨rfl,rfl,rfl⟩,rfl,rfl,Gg⟩
def BB:TE:=fun _ H Q=>∀ p,H p=none->Q (.ref p) (upd H p (.dK []))
def BC:TE:=fun _ H Q=>∀ p,H p=none->Q (.ref p) (upd H p (.dT []))
section
variable {X:Cx}{pos:Pos}
theorem fO:PE X (.Dict [] [] pos) BB:=fun pins s σ H Q I h =>
 wpAny_Dict_empty ⟨.ref s.heap.objs.size,_,I.laid (a:=s.heap.objs.size) (o:=.dK []) (t':=s.toks) (fun _ _ q=>Heap.get?_push_of_some _ q) (Eh _) (ye s.heap I.big),rfl,h _ (I.hok.fresh (Eh _))⟩
theorem tW:PE X (.Dict [] [] pos) BC:=fun pins s σ H Q I h =>
 wpAny_Dict_empty ⟨.ref s.heap.objs.size,_,I.laid (a:=s.heap.objs.size) (o:=.dT []) (t':=s.toks) (fun _ _ q=>Heap.get?_push_of_some _ q) (Eh _) (yi s.heap I.big),rfl,h _ (I.hok.fresh (Eh _))⟩
end
structure M1 (X:Cx)(o:Expr)(m:Str)(apos:Pos)(e:Expr)(cpos:Pos):Prop where
 base:attributeBase o m X.env (eval o X.env)=eval o X.env
 few:((backTo cpos (starEach [e] X.env)).all (fun x=>!x.1)&&(backToKw cpos (keywordEach [] X.env)).all (fun x=>x.1.isSome)
  && decide (([e]:List Expr).length+([]:List Keyword).length+(if ([]:List Keyword).isEmpty then 0 else 1)<30))=true
 line:(apos.endLine == cpos.line)=true
 trees:backTo cpos (starEach [e] X.env)=[(false,eval e X.env)]
structure M2 (X:Cx)(o:Expr)(m:Str)(apos:Pos)(e f:Expr)(cpos:Pos):Prop where
 base:attributeBase o m X.env (eval o X.env)=eval o X.env
 few:((backTo cpos (starEach [e,f] X.env)).all (fun x=>!x.1)&&(backToKw cpos (keywordEach [] X.env)).all (fun x=>x.1.isSome)
  && decide (([e,f]:List Expr).length+([]:List Keyword).length+(if ([]:List Keyword).isEmpty then 0 else 1)<30))=true
 line:(apos.endLine == cpos.line)=true
 trees:backTo cpos (starEach [e,f] X.env)=[(false,eval e X.env),(false,eval f X.env)]
def BX (H:Hp)(a:Addr):Prop:=(∃ kvs,Rd H a (.dK kvs))\/∃ kvs,Rd H a (.dT kvs)
theorem rc {X:Cx}{pins:List (Addr×Obj)}{σ:St}{H:Hp}{s:Shared}{a:Addr}(I:aw X pins σ H s)(d:BX H a) :
  s.TypeIs (.ref a) "dict"/\(∀ b,Value.ref a=.ref b->∃ ob,s.heap.get? b=some ob/\ob.dict=none)/\(a == sysModules)=false:=by
 rcases d with ⟨kvs,e⟩ | ⟨kvs,e⟩
 ·obtain⟨_,hd,vs,_,dd⟩:=mn I.hok e
  refine⟨dd.typeIs,fun b q=>?_,hd⟩;cases q;obtain⟨ob,_,_,h1,h2,_⟩:=dd;exact⟨ob,h1,h2.2.1⟩
 ·obtain⟨_,hd,xs,_,dd⟩:=mw I.hok e
  refine⟨dd.typeIs,fun b q=>?_,hd⟩;cases q;obtain⟨ob,_,_,h1,h2,_⟩:=dd;exact⟨ob,h1,h2.2.1⟩
section
variable {X:Cx}{pins:List (Addr×Obj)}{σ:St}{H:Hp}{s:Shared}{a:Addr}{y d:V}{u r:Value}{o:Option V}{A:Around}{E:Value->Shared->Prop}
theorem A4 {Q:Value->Shared->Prop}(hu:A.units+1<cLine)(I:aw X pins σ H s)(g:cI H a y o)(ry:aT y u)(h:∀ w' s',aw X pins σ H s'->aT (o.getD .non) w'->Q w' s') :
  wpAny (model X.prog X.w) A (call (.builtin "dict.get") [.ref a,u]) Q E s:=by
 rcases g with ⟨kvs,k,e,ey,l⟩ | ⟨kvs,k,b,e,ey,eb,l⟩
 ·subst ey
  obtain⟨z,hd,vs,rel,dd⟩:=mn I.hok e;refine call_meetsIn FA dd.typeIs PySem.F.entry_dict_get (PySem.F.args_dict_get_2 _ _) (meets_dict_get (bH X.prog X.w) a (kC ry) hd) ⟨_,dd.mapOf,h _ _ (I.tok _) ?_⟩;rw[l];exact (rel.val k).getD rfl
 ·subst ey
  cases (show u=Value.ref b from ry);obtain⟨z,hd,xs,rel,dd⟩:=mw I.hok e;refine call_meetsIn FA dd.typeIs PySem.F.entry_dict_get (PySem.F.args_dict_get_2 _ _) (meetsH_dict_get (tupleKind (bH X.prog X.w)) a b hd) ⟨FT hu,k,xs,jS I.hok eb,dd,h _ _ (I.tok _) ?_⟩;rw[l];exact (rel.val k).getD rfl
theorem A5 {Q:Value->Shared->Prop}(hu:A.units+1<cLine)(I:aw X pins σ H s)(g:cI H a y o)(ry:aT y u)(rd:aT d r)(h:∀ w' s',aw X pins σ H s'->aT (o.getD d) w'->Q w' s') :
  wpAny (model X.prog X.w) A (call (.builtin "dict.get") [.ref a,u,r]) Q E s:=by
 rcases g with ⟨kvs,k,e,ey,l⟩ | ⟨kvs,k,b,e,ey,eb,l⟩
 ·subst ey
  obtain⟨z,hd,vs,rel,dd⟩:=mn I.hok e;refine call_meetsIn FA dd.typeIs PySem.F.entry_dict_get (PySem.F.args_dict_get_3 _ _ _) (meets_dict_get_default (bH X.prog X.w) a (kC ry) hd r) ⟨_,dd.mapOf,h _ _ (I.tok _) ?_⟩;rw[l];exact (rel.val k).getD rd
 ·subst ey
  cases (show u=Value.ref b from ry);obtain⟨z,hd,xs,rel,dd⟩:=mw I.hok e;refine call_meetsIn FA dd.typeIs PySem.F.entry_dict_get (PySem.F.args_dict_get_3 _ _ _) (meetsH_dict_get_default (tupleKind (bH X.prog X.w)) a b hd r) ⟨FT hu,k,xs,jS I.hok eb,dd,h _ _ (I.tok _) ?_⟩;rw[l];exact (rel.val k).getD rd
end
def Bz (td ty:TE):TE:=fun σ H Q=>td σ H fun x H1=>∃ a,x=.ref a/\BX H1 a/\ty σ H1 fun y H2=>∃ o,cI H2 a y o/\Q (o.getD .non) H2
def BA (td ty tx:TE):TE:=fun σ H Q=>td σ H fun x H1=>∃ a,x=.ref a/\BX H1 a/\ty σ H1 fun y H2=>tx σ H2 fun z H3=>∃ o,cI H3 a y o/\Q (o.getD z) H3
def BD (td ty:TE):TE:=fun σ H Q=>td σ H fun x H1=>∃ a,x=.ref a/\BX H1 a/\ty σ H1 fun y H2=>∃ kvs k v,H2 a=some (.dK kvs)/\y=kV k/\db kvs k=some v/\Q v (upd H2 a (.dK (ou kvs k)))
section
variable {X:Cx}{o e f:Expr}{apos cpos:Pos}{td ty tx:TE}
theorem yQ (hu:X.A.units+1<cLine)(ho:PE X o td)(he:PE X e ty)(m:M1 X o "get" apos e cpos):PE X (.Call (.Attribute o "get" apos) [e] [] cpos) (Bz td ty):=by
 intro pins s σ H Q I h;refine wpAny_Call_method m.base m.few m.line PySem.F.plainAttrs_dict FA PySem.F.type_dict_get (bA (ho pins s σ H _ I h) fun u s1 ⟨x,H1,I1,rx,a,ex,d,q1⟩=>?_);subst ex;obtain rfl:u=Value.ref a:=rx;obtain⟨t1,t2,_⟩:=rc I1 d;refine⟨t1,t2,?_⟩;rw[m.trees];refine FP rfl (Fl (EZ (bA (he pins s1 σ H1 _ I1 q1) fun iv s2 ⟨y,H2,I2,ry,ov,g,q2⟩=>Fv ?_)));exact A4 hu I2 g ry fun w' s3 I3 rw'=>⟨_,H2,I3,rw',q2⟩
theorem yR (hu:X.A.units+1<cLine)(ho:PE X o td)(he:PE X e ty)(hf:PE X f tx)(m:M2 X o "get" apos e f cpos):PE X (.Call (.Attribute o "get" apos) [e,f] [] cpos) (BA td ty tx):=by
 intro pins s σ H Q I h;refine wpAny_Call_method m.base m.few m.line PySem.F.plainAttrs_dict FA PySem.F.type_dict_get (bA (ho pins s σ H _ I h) fun u s1 ⟨x,H1,I1,rx,a,ex,d,q1⟩=>?_);subst ex;obtain rfl:u=Value.ref a:=rx;obtain⟨t1,t2,_⟩:=rc I1 d;refine⟨t1,t2,?_⟩;rw[m.trees]
 refine FP rfl (Fl (EZ (bA (he pins s1 σ H1 _ I1 q1) fun iv s2 ⟨y,H2,I2,ry,q2⟩ =>
  EZ (bA (hf pins s2 σ H2 _ I2 q2) fun fv s3 ⟨z,H3,I3,rz,ov,g,q3⟩=>Fv ?_))))
 exact A5 hu I3 g ry rz fun w' s4 I4 rw'=>⟨_,H3,I4,rw',q3⟩
theorem o0 (ho:PE X o td)(he:PE X e ty)(m:M1 X o "pop" apos e cpos):PE X (.Call (.Attribute o "pop" apos) [e] [] cpos) (BD td ty):=by
 intro pins s σ H Q I h;refine wpAny_Call_method m.base m.few m.line PySem.F.plainAttrs_dict PySem.F.slot_dict_pop PySem.F.type_dict_pop (bA (ho pins s σ H _ I h) fun u s1 ⟨x,H1,I1,rx,a,ex,d,q1⟩=>?_);subst ex;obtain rfl:u=Value.ref a:=rx;obtain⟨t1,t2,_⟩:=rc I1 d;refine⟨t1,t2,?_⟩;rw[m.trees];refine FP rfl (Fl (EZ (bA (he pins s1 σ H1 _ I1 q1) fun iv s2 ⟨y,H2,I2,ry,kvs,k,v,ea,ey,l,q2⟩=>Fv ?_)));subst ey;exact Cc I2 ea ry l (.inl rfl) fun w' s3 I3 rw'=>⟨v,_,I3,rw',q2⟩
end
end L2
namespace Att
open PySem PySem.W PySem.Calls PyProof.Rows
theorem mR {P:Params}{h:Heap}:∀ (ns:List Int)(vs:List Value),WellAll P h vs (ns.map WData.int)->IntsAre vs ns:=by
 intro ns
 induction ns with
 | nil =>
  intro vs w;rw[List.map_nil]at w;cases w;exact .nil
 | cons n ns ih =>
  intro vs w;rw[EF]at w
  cases w with
  | cons a b =>
   cases a;exact .cons _ _ (ih _ b)
theorem xV {l:OpenLaw}{n:Nat}(hn:l.most=some n){P:Params}{h:Heap}{args:List WData}{vals:List Value}
  (hpre:l.row.toRowW.claim.pre args=true) (hwl:WellAll P h vals args) :
  ∃ a vs ns,vals=[Value.ref a]/\args=[WData.list (ns.map WData.int)]/\h.get? a=some { cls:=.type "list",data:=.seq vs.toArray }/\IntsAre vs ns/\ns.length<=n:=by
 have hsh:WShape.hasAll [] args [.list .int]=true:=(pre_splitW hpre).1;have hc:l.pre.holds [] { args:=args }=true:=(pre_splitW hpre).2;obtain⟨d,r,rfl,h1,h2⟩:=hasAllW_cons hsh;obtain rfl:=hasAllW_nil h2;obtain⟨xs,rfl,h3⟩:=hasW_list h1;obtain⟨ns,rfl⟩:=items_int h3
 have hlen:ns.length<=n:=by
  unfold OpenLaw.pre at hc
  have h4:(WTm.not (.lt (.lit (.int (n:Int))) (.len (.arg 0)))).holds [] { args:=[.list (ns.map .int)] }=true:=by
   have h4:=(holds_andW hc).1;rw[hn]at h4;exact h4
  have h5:=condW_of h4 (w_not (w_lt w_lit (w_len_list (w_arg rfl))));rw[Eg]at h5;refine Nat.le_of_not_lt fun q=>?_
  have q':(n:Int)<((ns.length:Nat):Int):=by omega
  first
   | (rw[EC q']at h5;exact absurd h5 (by decide))
   | (simp at h5;omega)
 cases hwl with
 | cons w1 w2 =>
  cases w2
  cases w1 with
  | list ho hall=>exact⟨_,_,ns,rfl,rfl,ho,mR ns _ hall,hlen⟩
theorem xP (l:OpenLaw)(args:List WData):l.row.toRowW.claim.post args (.bool true) args=true :=
 postW_of (r:=l.row.toRowW) (X:=(true == true))
  (show WShape.has [] (.bool true) .bool=true by first | rfl | decide | simp[WShape.has,WShape.arms,WShape.armsAll])
  (show (WTm.eq .res (.lit (.bool true))).value [] { args:=args,res:=some (.bool true),after:=args }=some (.bool (true == true)) from w_eq_bool (w_res rfl) w_lit) rfl
theorem attach_call {l:OpenLaw}{n:Nat}{q:Program}{loose:List Str}{XP:(Str->Option Value)->Heap->Prop}{YP:World->Heap->Prop}{d:DefRec}
  (hn:l.most=some n) (hdf:d.params.defaults=[])
  (call:∀ (w:World)(s₀ s₁:Shared)(mg mb:Str->Option Value)(fa:Addr)(o:Obj)(pm cd doc:Value)(a:Addr)(vs:List Value)(ns:List Int),
   Ground q loose [] XP w s₀ mg mb s₁.heap->YP w s₁.heap ->
   s₁.heap.get? fa=some o->o.data=.func (docDef d.name d.params d.body d.scope pm cd doc)->s₁.heap.CodeRec cd d.name->mg d.name=some (.ref fa) ->
   s₁.heap.get? a=some { cls:=.type "list",data:=.seq vs.toArray }->IntsAre vs ns->ns.length<=n->s₁.gens = #[] ->
   codeAny (model l.prog w) callerA (.call (.ref fa) ⟨[.ref a],[]⟩) (fun r s'=>r=.ok (.ret (.bool true))/\OldK s₁.heap s'.heap/\s'.os=s₁.os/\AllBare s'.gens) s₁) :
  WalkO q loose XP YP l.row.toRowW d [] (fun f vs=>PySem.call f vs):=by
 intro w s₀ s₁ mg mb G Y fa o pm cd doc dV kV ho hd hcd hD hmg hg args vals as hpre hlay hrd hwl hlo;obtain rfl:dV=.none:=Dflts.none hD hdf;obtain rfl:kV=.none:=Dflts.noKw hD;obtain⟨a,vs,ns,rfl,rfl,hobj,hints,hlen⟩:=xV hn hpre hwl;refine enter_call (FS (call w s₀ s₁ mg mb fa o pm cd doc a vs ns G Y ho (fd_plain hd) hcd hmg hobj hints hlen hg) fun r s' hq=>?_);obtain⟨rfl,h2,h3,h4⟩:=hq;exact⟨.inl ⟨.bool true,.bool true,[],rfl,fun _=>rfl,.bool true,xP l _,fun _=>⟨List.Pairwise.nil,fun _ hm=>(nomatch hm)⟩⟩,h2,h3,h4⟩
section
variable {prog:Program}{w:World}{A:Around}{E:Value->Shared->Prop}{s:Shared}{K:Frag}
def Dp (h:Heap):Heap:={ h with objs:=#[] }
def Do (h:Heap)(L d:Addr):List (Addr×Obj):=(List.range h.objs.size).filterMap fun a=>if a=L\/a=d then none else (h.get? a).map fun o=>(a,o)
end
end Att
namespace L2
open PySem PySem.Spec PyProof.Rows
theorem qD:∀ {vs:List Value}{ns:List Int},IntsAre vs ns->aU (ns.map V.int) vs
 | _,_,.nil=>.nil
 | _,_,.cons n t h=>.cons ⟨t,rfl⟩ (qD h)
def dg (s:Stmt)(j:Nat):Stmt:=match s with
 | .ClassDef _ _ _ body _ _ _ _ _ _ _=>body.getD j (.Pass ⟨0,0,0,0⟩)
 | _=>.Pass ⟨0,0,0,0⟩
def fo (s:Stmt):Arguments:=match s with
 | .FunctionDef _ a _ _ _ _ _ _ _ _=>a
 | _=>{ posonlyargs:=[],args:=[],vararg:=none,kwonlyargs:=[],kw_defaults:=[],kwarg:=none,defaults:=[] }
def df (s:Stmt):List Stmt:=match s with
 | .FunctionDef _ _ b _ _ _ _ _ _ _=>b
 | _=>[]
def au (s:Stmt):Scope:=match s with
 | .FunctionDef _ _ _ _ _ _ sc _ _ _=>sc
 | _=>{ kind:=.function,names:=[],isGenerator:=false,isCoroutine:=false }
abbrev dB:qG:=fun _ _ _ _ _ _=>False
abbrev E0:XK:=fun _ _ _=>False
theorem fM {X:Cx}:dU dB X E0:=fun _ _ _ _ _ _ _ h=>h.elim
structure eR (K:PySem.W.Frag)(x qual:Str)(st:Stmt)(f:Addr)(fd:FuncData):Prop where
 ex:∃ (oc:Value)(od:Option Addr)(kV doc pm:Value)(an:Option Addr)(cdv ct:Value)(osl:Array (Option Value)),
  fd=PySem.W.fnOf x qual (fo st) (df st) (au st) .none kV doc pm an cdv ct/\K.lookup f=some ⟨oc,od,.func fd,osl⟩/\PySem.W.codeIn K cdv qual=true
 kp:PySem.W.keepIn K (.ref f)=true
section
variable {P:Program}{w:World}{K:PySem.W.Frag}{mg:Str->Option Value}{base:Heap}
theorem eR.ok {x qual:Str}{st:Stmt}{f:Addr}{fd:FuncData}{N ps:List Str}{k:Nat}{sp:Sp}(F:eR K x qual st f fd)(S:az N ps (au st))(len:∀ vs H Q E,sp vs H Q E->vs.length=ps.length)
  (hbody:∀ (cdv:Value)(A:Around)(outer:List Env)(s:Shared)(H:Hp)(vs:List V)(Q:VK)(E:XK),b8 k (A.deeper (envOfC qual (au st) s.heap.objs.size f cdv))->sp vs H Q E ->
   ∃ t,vO (mQ dB P w K mg base N qual (au st) f cdv A outer s H E).nox (df st) t/\t { nx:=fun _ H'=>Q .non H',rt:=Q } (jL N vs) H):aW P w K mg base dB (k+1) f fd ps sp:=by
 obtain⟨oc,od,kV,doc,pm,an,cdv,ct,osl,rfl,lk,hcd⟩:=F.ex;refine yo lk hcd S len fun A outer s H vs Q E hr hsp=>?_;obtain⟨t,h,q⟩:=hbody cdv A outer s H vs Q E hr hsp;exact⟨t,h.nox,q⟩
theorem eR.binds {x qual:Str}{st:Stmt}{f:Addr}{fd:FuncData}{ps:List Str}(F:eR K x qual st f fd)
  (h:∀ (kV doc pm:Value)(an:Option Addr)(cdv ct:Value)(us:List Value),us.length=ps.length->bindArgs (PySem.W.fnOf x qual (fo st) (df st) (au st) .none kV doc pm an cdv ct) ⟨us,[]⟩=pure (ps.zip us)):d8 K fd ps []:=by
 obtain⟨oc,od,kV,doc,pm,an,cdv,ct,osl,rfl,lk,hcd⟩:=F.ex;exact .all (h kV doc pm an cdv ct)
theorem yq {x qual:Str}{st:Stmt}{f:Addr}{oc:Value}{od an:Option Addr}{osl:Array (Option Value)}{kV doc pm cdv ct:Value}(l:K.lookup f=some ⟨oc,od,.func (PySem.W.fnOf x qual (fo st) (df st) (au st) .none kV doc pm an cdv ct),osl⟩)
  (c:PySem.W.codeIn K cdv qual=true) (k:PySem.W.keepIn K (.ref f)=true):eR K x qual st f (PySem.W.fnOf x qual (fo st) (df st) (au st) .none kV doc pm an cdv ct):=⟨⟨oc,od,kV,doc,pm,an,cdv,ct,osl,rfl,l,c⟩,k⟩
end
theorem fJ {A:Around}{k:Nat}(hr:b8 k A):A.units+1<cLine:=Nat.lt_of_le_of_lt (Nat.add_le_add_left (by decide:1<=64) _) hr.units
theorem bn {n:Nat}(h:n<=1000):n<sizeLine:=Nat.lt_of_le_of_lt h (by decide)
section
variable {X:Cx}
theorem pv (i:Nat){x:Str}{pos:Pos}(hN:X.N[i]? = some x:=by rfl)(hv:CW X.env.scope x:=by first | exact Or.inl rfl | exact Or.inr (Or.inl rfl) | exact Or.inr (Or.inr rfl))(hd:(x == ("__debug__" : Str))=false:=by decide)
  (hcd:(x == ("__classdict__" : Str))=false:=by decide):PE X (.Name x pos) (CN i):=yW hN hv hd hcd
end
theorem aV {A B:Prop}(h:B):if false=true then A else B:=by
 rw[Ed Ej];exact h
theorem bY {A B:Prop}(h:A):if true=true then A else B:=by
 rw[Ee rfl];exact h
theorem uT {c A B:Prop} [Decidable c] (h1:c->A)(h2:¬ c->B):if c then A else B:=by
 by_cases h:c
 ·rw[Ee h]
  exact h1 h
 ·rw[Ed h]
  exact h2 h
def aF (H H':Hp):Prop:=∀ b o,H b=some o->H' b=some o
theorem aF.refl (H:Hp):aF H H:=fun _ _ h=>h
theorem aF.trans {H H1 H2:Hp}(a:aF H H1)(b:aF H1 H2):aF H H2:=fun c o h=>b c o (a c o h)
theorem aF.free {H H':Hp}(e:aF H H'){l:Addr}(h:H' l=Option.none):H l=Option.none:=by
 cases q:H l with
 | none=>rfl
 | some o =>
  rw[e l o q]at h;cases h
theorem aF.seq {K:PySem.W.Frag}{H H':Hp}{a:Addr}{xs:List V}(e:aF H H')(h:bz K H a xs):bz K H' a xs:=by
 rcases h with (h | ⟨o,h⟩) | h
 ·exact .inl (.inl (e _ _ h))
 ·exact .inl (.inr ⟨o,e _ _ h⟩)
 ·exact .inr h
section
variable {κ:Type} [DecidableEq κ]
theorem ni:∀ {l:List κ}{k:κ},l.Nodup->¬ k∈l->(l++[k]).Nodup
 | [],k,_,_=>by simp
 | a::r,k,h,hk=>by
  obtain⟨h1,h2⟩:=EQ.mp h
  show (a::(r++[k])).Nodup
  refine EQ.mpr ⟨fun m=>?_,ni h2 fun m=>hk (En.mpr (Or.inr m))⟩;rcases EB.mp m with q | q
  ·exact h1 q
  ·exact hk (En.mpr (Or.inl (El.mp q).symm))
end
end L2
set_option maxHeartbeats 4000000
namespace L2
open PySem PySem.Spec PyProof.Rows
structure vK (so sc:Scope)(N N':List Str)(src:List (Option Nat)):Prop where
 kind:sc.kind=.function
 nocell:∀ y∈sc.names,y.2≠.cell
 loc:∀ y∈sc.names,y.2=.local->sc.names.lookup y.1=some .local
 fre:∀ y∈sc.names,y.2=.free->so.names.lookup y.1=some .cell\/so.names.lookup y.1=some .free
 nd:N'.Nodup
 len:src.length=N'.length
 cap:∀ p∈N'.zip src,(match p.2 with | none=>true | some j=>decide (N[j]? = some p.1/\sc.names.lookup p.1=some .free))=true
def jP (src:List (Option Nat))(σ:St):St:=src.map fun o=>o.bind fun j=>(σ[j]?).join
def hJ (X:Cx)(sc:Scope)(cl:List (Str×Addr))(C:Addr)(N':List Str)(s:Shared)(H:Hp)(ex:List Addr):Cx where
 prog:=X.prog
 w:=X.w
 K:=X.K
 mg:=X.mg
 base:=X.base
 A:=X.A
 N:=N'
 s₀:=s
 H₀:=H
 env:=compEnvC sc cl C X.env
 outer:=X.stack
 stack:=X.stack
 ex:=ex
 fn:=fun _=>false
 calm:=X.calm
 pn:=[]
 xe:=fun _ _=>False
theorem hG {env:Env}:∀ (names:List (Str×NameKind))(cs:List (Str×Addr)),(∀ y∈names,y.2=.free->∃ c,env.cells.lookup y.1=some c) ->
  (∀ x c,cs.lookup x=some c->env.cells.lookup x=some c) ->
  ∃ cl:List (Str×Addr),(forIn names cs fun x r=>if (x.2 == NameKind.free)=true then (do let a <-cellOf env x.1;pure (ForInStep.yield ((x.1,a)::r))) else pure (ForInStep.yield r):Sem (List (Str×Addr)))=pure cl /\
   (∀ x c,cl.lookup x=some c->env.cells.lookup x=some c)/\(∀ x,(∃ c,cs.lookup x=some c)->∃ c,cl.lookup x=some c)/\∀ y∈names,y.2=.free->∃ c,cl.lookup y.1=some c
 | [],cs,_,h2=>⟨cs,by rw[List.forIn_nil],h2,fun _ h=>h,fun _ h=>nomatch h⟩
 | (n,k)::r,cs,h1,h2=>by
  by_cases hk:k=.free
  ·subst hk
   obtain⟨c,hc⟩:=h1 (n,.free) Ep rfl
   have h2':∀ x d,((n,c)::cs).lookup x=some d->env.cells.lookup x=some d:=fun x d e=>by
    rw[EY]at e;split at e
    ·rename_i hx
     cases e
     have:x=n:=by simpa using hx
     rw[this];exact hc
    ·exact h2 x d e
   obtain⟨cl,e,q1,q2,q3⟩:=hG r ((n,c)::cs) (fun y hy=>h1 y (Ek _ hy)) h2';have has:∃ d,((n,c)::cs).lookup n=some d:=⟨c,by simp⟩;refine⟨cl,?_,q1,fun x ⟨d,hd⟩=>q2 x ?_,fun y hy hf=>?_⟩
   ·rw[List.forIn_cons,<-e]
    simp[cellOf,hc]
   ·rw[EY]
    split
    ·exact⟨_,rfl⟩
    ·exact⟨d,hd⟩
   ·rcases En.mp hy with rfl | hy
    ·exact q2 _ has
    ·exact q3 y hy hf
  ·obtain⟨cl,e,q1,q2,q3⟩:=hG r cs (fun y hy=>h1 y (Ek _ hy)) h2
   have hb:(k == NameKind.free)=false:=by simpa using hk
   refine⟨cl,?_,q1,q2,fun y hy hf=>?_⟩
   ·rw[List.forIn_cons,<-e]
    simp[hb]
   ·rcases En.mp hy with rfl | hy
    ·exact absurd hf hk
    ·exact q3 y hy hf
theorem oo {sc:Scope}{env:Env}(h:∀ y∈sc.names,y.2=.free->∃ c,env.cells.lookup y.1=some c) :
  ∃ cl:List (Str×Addr),closureFor sc env=pure cl/\(∀ x c,cl.lookup x=some c->env.cells.lookup x=some c)/\∀ y∈sc.names,y.2=.free->∃ c,cl.lookup y.1=some c:=by
 obtain⟨cl,e,q1,_,q3⟩:=hG sc.names [] h (fun x c z=>by simp at z);refine⟨cl,?_,q1,q3⟩;unfold closureFor
 show (forIn sc.names [] _ >>= fun cs=>pure cs)=_
 refine Eq.trans (EM (fun t=>t >>= fun cs=>pure cs) (Eq.trans ?_ e)) (by simp)
 congr 1
theorem kM {env:Env}:∀ {names:List (Str×NameKind)}{x:Str},(∀ y∈names,y.2≠.cell) ->
  ((names.map fun (n,k)=>if (k == NameKind.free&&env.scope.kind == .function&&env.kindOf n == some .cell) then (n,NameKind.cell) else (n,k)).lookup x=some .cell \/
    (names.map fun (n,k)=>if (k == NameKind.free&&env.scope.kind == .function&&env.kindOf n == some .cell) then (n,NameKind.cell) else (n,k)).lookup x=some .free)->(x,NameKind.free)∈names
 | [],_,_,h=>by simp at h
 | (n,k)::r,x,hc,h=>by
  have ih:=@kM env r x (fun y hy=>hc y (Ek _ hy));have h:List.lookup x ((if (k == NameKind.free&&env.scope.kind == .function&&env.kindOf n == some .cell)=true then (n,NameKind.cell) else (n,k))::_)=some .cell\/List.lookup x ((if (k == NameKind.free&&env.scope.kind == .function&&env.kindOf n == some .cell)=true then (n,NameKind.cell) else (n,k))::_)=some .free:=h
  by_cases hb:(k == NameKind.free&&env.scope.kind == .function&&env.kindOf n == some .cell)=true
  ·rw[Ee hb]at h
   cases hx:x == n with
   | true =>
    have e:x=n:=by simpa using hx
    subst e
    have:k=NameKind.free:=by
     simp only[Fy,FO]at hb;exact hb.1.1
    subst this;exact Ep
   | false =>
    simp only[EY,hx]at h;exact Ek _ (ih h)
  ·rw[Ed hb]at h
   cases hx:x == n with
   | true =>
    have e:x=n:=by simpa using hx
    subst e;have hk:=hc (x,k) Ep;simp only[EY,beq_self_eq_true,Option.some.injEq]at h;rcases h with h | h
    ·exact absurd h hk
    ·subst h;exact Ep
   | false =>
    simp only[EY,hx]at h;exact Ek _ (ih h)
theorem jK {env:Env}:∀ {names:List (Str×NameKind)}{x:Str},names.lookup x=some .free ->
  ((names.map fun (n,k)=>if (k == NameKind.free&&env.scope.kind == .function&&env.kindOf n == some .cell) then (n,NameKind.cell) else (n,k)).lookup x=some .cell \/
    (names.map fun (n,k)=>if (k == NameKind.free&&env.scope.kind == .function&&env.kindOf n == some .cell) then (n,NameKind.cell) else (n,k)).lookup x=some .free)
 | [],_,h=>by simp at h
 | (n,k)::r,x,h=>by
  have ih:=@jK env r x
  show List.lookup x ((if (k == NameKind.free&&env.scope.kind == .function&&env.kindOf n == some .cell)=true then (n,NameKind.cell) else (n,k))::_)=some .cell\/List.lookup x ((if (k == NameKind.free&&env.scope.kind == .function&&env.kindOf n == some .cell)=true then (n,NameKind.cell) else (n,k))::_)=some .free
  cases hx:x == n with
  | true =>
   simp only[EY,hx,Option.some.injEq]at h;subst h
   by_cases hb:(NameKind.free == NameKind.free&&env.scope.kind == .function&&env.kindOf n == some .cell)=true
   ·rw[Ee hb];left;simp only[EY,hx]
   ·rw[Ed hb];right;simp only[EY,hx]
  | false =>
   simp only[EY,hx]at h
   by_cases hb:(k == NameKind.free&&env.scope.kind == .function&&env.kindOf n == some .cell)=true
   ·rw[Ee hb];simp only[EY,hx];exact ih h
   ·rw[Ed hb];simp only[EY,hx];exact ih h
theorem eU {prog:Program}{w:World}{A:Around}{R:Result->Shared->Prop}{s:Shared}{elt target bB:Expr}{ifs:List Expr}{scope:Scope}{pos:Pos}{it acc:Value}{env:Env}(I:Nat->Shared->Prop)
  (turn:∀ n s,I n s->wpAny (model prog w) A (pyNext it) (fun r s₁=>match r with
   | none=>R (.ok .next) s₁
   | some v=>wpAny (model prog w) A (letOwnedTupleGo target it v) (fun _ s₁'=>wpAny (model prog w) A (assign target env v) (fun _ s₂ =>
     wpAny (model prog w) A (forIn ifs true fun c r=>if r=true then do let ok <-isTrue c env (eval c env);pure (ForInStep.yield ok) else pure (ForInStep.yield r)) (fun ok s₃ =>
      if ok=true then wpAny (model prog w) A (eval elt env) (fun x s₄ =>
       wpAny (model prog w) A (call (.builtin "list.append") [acc,x]) (fun _ s₅=>∃ m,m<n/\I m s₅) (fun _ _=>False) s₄) (fun _ _=>False) s₃
      else ∃ m,m<n/\I m s₃) (fun _ _=>False) s₂) (fun _ _=>False) s₁') (fun _ _=>False) s₁) (fun _ _=>False) s)
  (n:Nat) (h:I n s) :
  codeAny (model prog w) A (.compLoop (.ListComp elt [⟨target,bB,ifs,0⟩] scope pos) 0 it acc env) R s:=by
 refine codeAny_loop rfl I (fun n s hI=>?_) n h
 show wpAny _ A ((compTurn (.ListComp elt [⟨target,bB,ifs,0⟩] scope pos) 0 it acc env).onRaise (fun x=>do noteFrame x env;theTreesLotGoes x)) _ _ s
 refine wpAny_noted ?_;rw[compTurn_list];refine Ef (F7 (Ef (E4 (turn n s hI) (fun r s₁ h₁=>?_) fun _ _ h'=>h'.elim)))
 cases r with
 | none=>exact Et h₁
 | some v =>
  refine Ef (E4 h₁ (fun _ s₁' h₁'=>?_) fun _ _ h'=>h'.elim);refine Ef (E4 h₁' (fun _ s₂ h₂=>Ef (E4 h₂ (fun ok s₃ h₃=>?_) fun _ _ h'=>h'.elim)) fun _ _ h'=>h'.elim)
  cases ok with
  | false=>exact Et ⟨rfl,h₃⟩
  | true =>
   exact Ef (Ef (E4 h₃ (fun x s₄ h₄=>Ef (E4 h₄ (fun _ s₅ h₅=>Et (Et ⟨rfl,h₅⟩)) fun _ _ h'=>h'.elim)) fun _ _ h'=>h'.elim))
def CU (X:Cx)(ifs:List Expr)(t:TT):Prop :=
 ∀ (pins:List (Addr×Obj))(s:Shared)(σ:St)(H:Hp)(Q:Bool->Hp->Prop),aw X pins σ H s->t σ H Q ->
  wpAny (model X.prog X.w) X.A (forIn ifs true fun c r=>if r=true then do let ok <-isTrue c X.env (eval c X.env);pure (ForInStep.yield ok) else pure (ForInStep.yield r)) (TP X pins σ Q) X.xe s
def zj:TT:=fun _ H Q=>Q true H
theorem kK {X:Cx}:CU X [] zj:=fun pins s σ H Q I h=>wpAny_tests_nil ⟨H,I,h⟩
theorem Am {X:Cx}{c:Expr}{t:TT}(h:PT X c t):CU X [c] t:=fun pins s σ H Q I hq=>wpAny_tests_one (h pins s σ H Q I hq)
def BG (tt:TT)(te:TE)(a:Addr):TS:=fun D σ H=>tt σ H fun b H1=>if b=true then te σ H1 fun y H2=>∃ ys,H2 a=some (.lst ys)/\ys.length<sizeLine/\D.nx σ (upd H2 a (.lst (ys++[y]))) else D.nx σ H1
def vM (J:It)(g:TG)(tb:TS)(D:k6)(σ:St)(H:Hp):Prop:=∃ W:Nat->Nat->St->Hp->Prop,(∃ m,W 0 m σ H)/\∀ i m σ H,W i m σ H ->
 (J.stop i H/\D.nx σ H)\/(J.go i H/\∃ N:St->Hp->Prop,(∀ σ' H',N σ' H'->∃ m',m'<m/\W (i+1) m' σ' H')/\∀ x H',J.yld i H x H'->g x σ H' fun σ2 H2=>tb { D with nx:=N,ct:=N,bk:=D.nx } σ2 H2)
def CF (wi:TI)(g:TG)(tt:TT)(te:TE)(src:List (Option Nat)):TE:=fun σ H Q=>wi σ H fun J H1=>∀ a,H1 a=none ->
 vM J g (BG tt te a) { nx:=fun _ H'=>Q (.ref a) H',rt:=fun _ _=>False } (jP src σ) (upd H1 a (.lst []))
theorem sO {X:Cx}{pins:List (Addr×Obj)}{σ:St}{H:Hp}{s:Shared}{sc so:Scope}{N':List Str}{src:List (Option Nat)}{cl:List (Str×Addr)}{fp:List Addr}{h':Heap}
  (I:aw X pins σ H s) (hso:X.env.scope=so) (S:vK so sc X.N N' src) (q1:∀ x c,cl.lookup x=some c->X.env.cells.lookup x=some c) (q3:∀ y∈sc.names,y.2=.free->∃ c,cl.lookup y.1=some c)
  (hf:∀ b∈fp,iP X pins H b) (hlt:∀ b∈fp,b<s.heap.objs.size) (hns:h'.Ns s.heap.objs.size fun _=>none) (hk:∀ b o,s.heap.get? b=some o->h'.get? b=some o) (tk:Nat) :
  aw (hJ X sc cl s.heap.objs.size N' s H fp) [] (jP src σ) H { s with heap:=h',toks:=tk }:=by
 have hb:∀ b∈fp,b≠s.heap.objs.size/\∀ x c,cl.lookup x=some c->c≠b:=fun b z=>⟨Eu (hlt b z),fun x c e=>(hf b z).2.2.2.2.1 x c (q1 x c e)⟩
 refine⟨⟨I.ok.mod,?_,I.ok.glob,I.ok.blt,Eh _,fun x y c h1 h2=>I.ok.inj x y c (q1 _ _ h1) (q1 _ _ h2),fun x hx=>?_,fun x c hx _=>(by cases hx),I.ok.hd,I.ok.frames,.inl rfl,hb,I.bs,EI I.ok.bsz I.sz,fun b o e z=>?_,fun b z hz=>?_,I.stack,I.stkFree⟩,
  rfl,I.bare,Un.kept hk,⟨_,hns,fun i x v h1 h2 h3=>?_⟩,fun x c e=>?_,I.hok.fresh (Eh _),fun x c e=>I.freeC x c (q1 x c e),fun p hp=>absurd (show p∈([]:List (Addr×Obj)) from hp) (by simp),I.hok.kept hk,?_⟩
 ·show (relabel sc X.env).kind=_
  exact S.kind
 ·have hx':(x,NameKind.free)∈sc.names:=kM S.nocell hx
  exact q3 _ hx' rfl
 ·rcases (hf b z).2.2.2.1 with y | y
  ·exact I.ok.noex b o e y
  ·exact absurd (Ez (Em e) (EI I.ok.bsz y)) (F6 _)
 ·rcases En.mp (I.stkSub b hz) with y | y
  ·exact (hf b z).2.1 y
  ·exact (hf b z).2.2.1 y
 ·-- the captured names
  have h1':N'[i]? = some x:=h1;have h2':(jP src σ)[i]? = some (some v):=h2;unfold jP at h2';rw[List.getElem?_map]at h2'
  cases hs:src[i]? with
  | none=>rw[hs]at h2';cases h2'
  | some o =>
   rw[hs]at h2';have h2'':(o.bind fun j=>(σ[j]?).join)=some v:=Ei h2'
   cases o with
   | none=>cases h2''
   | some j =>
    have hj:(σ[j]?).join=some v:=h2''
    have hσ:σ[j]? = some (some v):=by
     cases e:σ[j]? with
     | none=>rw[e]at hj;cases hj
     | some z=>rw[e]at hj;rw[show z=some v from hj]
    have hzip:(x,some j)∈N'.zip src:=by
     have:(N'.zip src)[i]? = some (x,some j):=by
      rw[List.getElem?_zip_eq_some];exact⟨h1',hs⟩
     exact EN this
    have hc:=FH (S.cap _ hzip);obtain⟨hN,hfr⟩:X.N[j]? = some x/\sc.names.lookup x=some .free:=hc;have hmem:(x,NameKind.free)∈sc.names:=Ff hfr;have hvis:=S.fre _ hmem rfl;rw[<-hso]at hvis;obtain⟨m,hn,hl⟩:=I.loc;obtain⟨u,ru,lk⟩:=hl j x v hN hσ (.inr hvis);refine⟨u,ru,.inr ⟨jK hfr,?_⟩⟩;obtain⟨c,hcl⟩:=q3 _ hmem rfl;refine⟨c,hcl,?_⟩;rcases lk with ⟨k,_⟩ | ⟨_,c',e',z⟩
    ·have k:X.env.scope.names.lookup x=some .local:=k
     rcases hvis with y | y<;>(rw[k]at y;cases y)
    ·have:=q1 x c hcl
     rw[e']at this;cases this;obtain⟨ob,e1,e2⟩:=z;exact⟨ob,hk _ _ e1,e2⟩
 ·obtain⟨v,ob,e1,e2⟩:=I.cell x c (q1 x c e)
  exact⟨v,ob,hk _ _ e1,e2⟩
 ·show (jP src σ).length=N'.length
  unfold jP;rw[Eg];exact S.len
theorem mh {X:Cx}{pins:List (Addr×Obj)}{σ:St}{H:Hp}{s:Shared}{l:Addr}{xs:List V}{y:V}{u:Value}{E:Value->Shared->Prop}(I:aw X pins σ H s)(hH:H l=some (.lst xs))(hz:xs.length<sizeLine)(ru:aT y u) :
  wpAny (model X.prog X.w) X.A (call (.builtin "list.append") [.ref l,u]) (fun _ s'=>aw X pins σ (upd H l (.lst (xs++[y]))) s') E s:=by
 obtain⟨z,its,n,r,hl,e⟩:=I.lstM hH;refine call_meets F.slot_list_append ⟨_,e,rfl⟩ F.entry_list_append (F.args_list_append_2 _ _) (PySem.list_append l its.toArray n u (by rw[Ey];omega)) ⟨e,?_⟩;refine I.lset (its':=its++[u]) hH e (by simp) (r.append (.cons ru .nil)) ?_;rw[Ew,Fh];omega
theorem kH {X:Cx}{elt tg bB:Expr}{ifs:List Expr}{sc so:Scope}{pos:Pos}{N':List Str}{src:List (Option Nat)}{wi:TI}{g:TG}{tt:TT}{te:TE}{N:List Str}(hso:X.env.scope=so)(hXN:X.N=N)(S:vK so sc N N' src)(hc:X.calm=true)(hi:PI X tg bB wi)
  (hb:∀ (cl:List (Str×Addr))(C:Addr)(s:Shared)(H:Hp)(ex:List Addr),PG (hJ X sc cl C N' s H ex) tg g/\CU (hJ X sc cl C N' s H ex) ifs tt/\PE (hJ X sc cl C N' s H ex) elt te)
  (hs:∀ x,foldedSetIterable bB X.env x=pure x:=by intro _;rfl):PE X (.ListComp elt [⟨tg,bB,ifs,0⟩] sc pos) (CF wi g tt te src):=by
 subst hXN;intro pins s σ H Q I h
 obtain⟨cl,hcl,q1,q3⟩:=oo (sc:=sc) (env:=X.env) fun y hy hf=>by
  have:=S.fre y hy hf;rw[<-hso]at this;exact I.ok.has y.1 this
 rw[eval_ListComp];refine wpAny_comprehension_free (use:=none) rfl hs hcl S.kind S.loc (bA (hi pins s σ H _ I h) fun v s1 h1=>bA h1 fun itv s2 h2=>?_);obtain⟨it,fp,tn,J,H2,e,I2,T,st2,f2,hR⟩:=h2;subst e;refine Fw ?_
 have I3:aw X pins σ (upd H2 s2.heap.objs.size (.lst [])) { s2 with heap:=s2.heap.push { cls:=.type "list",dict:=none,data:=.seq ([]:List Value).toArray } } :=
  I2.laid (t':=s2.toks) (fun b u q=>Heap.get?_push_of_some _ q) (Eh _) ⟨EK _,[],0,.nil,Heap.get?_push_size _ rfl⟩
 have hfr:=I2.hok.fresh (Eh s2.heap.objs.size);obtain⟨W,⟨m0,w0⟩,turn⟩:=hR _ hfr
 have flt:∀ b∈fp,b<s2.heap.objs.size:=fun b hb=>by obtain⟨o,e,_⟩:=T.obj _ _ st2 b hb;exact Em e
 generalize hs3:({ s2 with heap:=s2.heap.push { cls:=.type "list",dict:=none,data:=.seq ([]:List Value).toArray } }:Shared)=s3 at I3 ⊢
 have e3:s3.heap=s2.heap.push { cls:=.type "list",dict:=none,data:=.seq ([]:List Value).toArray }:=by rw[<-hs3]
 have sz3:s3.heap.objs.size=s2.heap.objs.size+1:=by rw[e3,Gf]
 have hf3:∀ b∈fp,iP X pins (upd H2 s2.heap.objs.size (.lst [])) b:=fun b hb=>⟨by rw[ae (Eu (flt b hb))];exact (f2 b hb).1,(f2 b hb).2⟩
 have flt3:∀ b∈fp,b<s3.heap.objs.size:=fun b hb=>by rw[sz3];exact Fx (flt b hb)
 have st3:tn 0 s3.heap:=T.keep _ _ _ st2 fun b _ o e=>by rw[e3];exact Heap.get?_push_of_some _ e
 refine wpAny_newFunctionEnv S.nocell (by intro y hy;simp at hy) (fun h4 hns4 hsb4=>?_) S.kind;have kp4:∀ b o,s3.heap.get? b=some o->h4.get? b=some o:=fun b o e=>hsb4.extBut b o (Eu (Em e)) (Heap.get?_push_of_some _ e);have I4:=sO (h':=h4) I3 hso S q1 q3 hf3 flt3 (by simpa using hns4) kp4 (s3.toks+([]:List (Str×Value)).length);have st4:tn 0 h4:=T.keep _ _ _ st3 fun b _ o e=>kp4 b o e;generalize hC:s3.heap.objs.size=C at I4 hns4 hsb4 ⊢;obtain⟨hg,ht,he⟩:=hb cl C s3 (upd H2 s2.heap.objs.size (.lst [])) fp
 let Y:Cx:=hJ X sc cl C N' s3 (upd H2 s2.heap.objs.size (.lst [])) fp
 have loop:∀ s5:Shared,s5={ s3 with heap:=h4,toks:=s3.toks+([]:List (Str×Value)).length }->codeAny (model X.prog X.w) X.A (.compLoop (.ListComp elt [⟨tg,bB,ifs,0⟩] sc pos) 0 (.ref it) (.ref s2.heap.objs.size) (compEnvC sc cl C X.env))
   (compPost (model X.prog X.w) X.A X.xe none (EP X pins σ Q) (.ref s2.heap.objs.size) C) s5:=by
  rintro s5 rfl
  have stat:∀ {H':Hp},(∀ b∈fp,H' b=none)->∀ b∈fp,iP Y [] H' b:=fun {H'} hn b hb=>by
   obtain⟨f0,f1,f2',f3,f4,f5⟩:=hf3 b hb;refine⟨hn b hb,?_,fun z=>?_,.inl hb,fun x c e=>f4 x c (q1 x c e),fun p hp=>absurd (show p∈([]:List (Addr×Obj)) from hp) (by simp)⟩
   ·show b≠C
    rw[<-hC];exact Eu (flt3 b hb)
   ·have z:b∈iR X.stack:=z
    rcases En.mp (I3.stkSub b z) with y | y
    ·exact f1 y
    ·exact f2' y
  refine eU (fun n s'=>∃ i σ' H',aw Y [] σ' H' s'/\tn i s'.heap/\(∀ b∈fp,H' b=none)/\W i n σ' H') ?_ m0 ⟨0,_,_,I4,st4,fun b hb=>(hf3 b hb).1,w0⟩;rintro n s6 ⟨i,σ6,H6,I6,st6,fr6,w6⟩;rcases turn i n σ6 H6 w6 with ⟨stop,qn⟩ | ⟨go,Nx,hN,step⟩
  ·refine bA (T.done Y rfl rfl rfl hc i [] s6 σ6 H6 _ I6 (stat fr6) st6 stop) fun r s7 ⟨hr,I7⟩=>?_
   subst hr;obtain⟨m,hn,_⟩:=id I7.loc;refine⟨m,hn,fun h' hsb=>?_⟩
   have neC:∀ b o,s3.heap.get? b=some o->b≠C:=fun b o e=>by rw[<-hC];exact Eu (Em e)
   have freeC:H6 C=none:=I7.free
   have un:Un (iR X.stack) fp (upd H2 s2.heap.objs.size (.lst [])) H6 s3.heap h' :=
    ⟨fun b o e n hb hx=>(hsb.2 b (neC b o e)).trans (I7.base.keep b o e n hb hx),fun b o e n hb hx=>by
      obtain⟨sl,q⟩:=I7.base.slot b o e n hb hx
      exact⟨sl,(hsb.2 b (neC b o e)).trans q⟩,I7.base.free,fun b o e hx=>by
      obtain⟨o',q⟩:=I7.base.there b o e hx
      exact⟨o',(hsb.2 b (neC b o e)).trans q⟩,I7.base.tups,I7.base.frzs,I7.base.tbls⟩
   have hok:iJ X.prog X.w H6 h':=fun b ob e=>by
    refine (I7.hok b ob e).stay (fun c w' hc' q=>(hsb.2 c ?_).trans q) (fun _ q=>q) fun _ _ q=>q;rintro rfl;rcases hc' with z | z
    ·rw[<-z,freeC]at e;cases e
    ·rw[freeC]at z;cases z
   have J7:aw X pins σ H6 { s7 with heap:=h' }:=I3.call' (ch:=fp) (s':={ s7 with heap:=h' }) I7.os un hok I7.bare fun b hb=>⟨(hf3 b hb).2.2.2.1,(hf3 b hb).2.1,(hf3 b hb).2.2.2.2.1,(hf3 b hb).2.2.2.2.2⟩;exact⟨.ref s2.heap.objs.size,H6,J7,rfl,qn⟩
  ·refine bA (T.item Y rfl rfl rfl hc i [] s6 σ6 H6 _ I6 (stat fr6) st6 go) fun r s7 ⟨u,hr,h7⟩=>?_
   subst hr;refine bA h7 fun _ s8 ⟨x,H8,I8,r8,y8,st8,fr8⟩=>?_;have I8':=I8.pinned (stat fr8) (T.obj _ _ st8);refine bA (hg _ s8 σ6 H8 x u _ I8' r8 (step x H8 y8)) fun _ s9 ⟨σ9,H9,I9,q9⟩=>?_
   have again:∀ {s':Shared}{σ7:St}{H7:Hp},aw Y ([]++lJ fp s8.heap) σ7 H7 s'->Nx σ7 H7->∃ m,m<n/\∃ i σ' H',aw Y [] σ' H' s'/\tn i s'.heap/\(∀ b∈fp,H' b=none)/\W i m σ' H':=fun {s' σ7 H7} I7 n7=>by
    obtain⟨m',hm,w7⟩:=hN σ7 H7 n7;refine⟨m',hm,i+1,σ7,H7,I7.unpinned,T.keep _ _ _ st8 fun b hb o e=>(I7.pin (b,o) (ED _ (ED _ (eB hb e)))).1,fun b hb=>?_,w7⟩;obtain⟨o,e,d⟩:=T.obj _ _ st8 b hb;exact (I7.pin (b,o) (ED _ (ED _ (eB hb e)))).2.1
   refine bA (ht _ s9 σ9 H9 _ I9 q9) fun ok s10 ⟨H10,I10,q10⟩=>?_
   cases ok with
   | false =>
    rw[Ed Ej]at q10 ⊢;exact again I10 q10
   | true =>
    rw[Ee rfl]at q10 ⊢;refine bA (he _ s10 σ9 H10 _ I10 q10) fun y s11 ⟨yv,H11,I11,ry,ys,hys,hlen,q11⟩=>?_;exact bA (mh (X:=Y) I11 hys hlen ry) fun _ s12 I12=>again I12 q11
 exact codeAny_compStart_list (loop _ rfl) (T.self _ 0 _ _ _ st4 (loop _ rfl))
def By (wi:TI)(g:TG)(tt:TT)(te:TE)(src:List (Option Nat))(i:Nat):TS:=fun D σ H=>wi σ H fun J H1=>∀ a,H1 a=none ->
 vM J g (BG tt te a) { nx:=fun _ H'=>D.nx (σ.set i (some (.ref a))) H',rt:=fun _ _=>False } (jP src σ) (upd H1 a (.lst []))
theorem Al {X:Cx}{ix:Nat}{x:Str}{px spos:Pos}{elt tg bB:Expr}{ifs:List Expr}{sc so:Scope}{pos:Pos}{N':List Str}{src:List (Option Nat)}{wi:TI}{g:TG}{tt:TT}{te:TE}{N:List Str}(hso:X.env.scope=so)(hXN:X.N=N)(S:vK so sc N N' src)(hc:X.calm=true)(hi:PI X tg bB wi)
  (hb:∀ (cl:List (Str×Addr))(C:Addr)(s:Shared)(H:Hp)(ex:List Addr),PG (hJ X sc cl C N' s H ex) tg g/\CU (hJ X sc cl C N' s H ex) ifs tt/\PE (hJ X sc cl C N' s H ex) elt te)
  (hnd:X.N.Nodup) (hix:X.N[ix]? = some x) (hx:X.env.scope.names.lookup x=some .local)
  (hsw:swapsWith (.ListComp elt [⟨tg,bB,ifs,0⟩] sc pos) (some (.Name x px)) spos.line X.env=pure true:=by rfl)
  (hs:∀ x,foldedSetIterable bB X.env x=pure x:=by intro _;rfl):PS X (.Assign [.Name x px] (.ListComp elt [⟨tg,bB,ifs,0⟩] sc pos) spos) (By wi g tt te src ix):=by
 subst hXN;intro pins s σ H D I h
 obtain⟨cl,hcl,q1,q3⟩:=oo (sc:=sc) (env:=X.env) fun y hy hf=>by
  have:=S.fre y hy hf;rw[<-hso]at this;exact I.ok.has y.1 this
 rw[exec_Assign_Name_used _ _ _ _ hsw];refine Ef (F7 (Ef ?_))
 show wpAny _ X.A (do let _ <-comprehension (.ListComp elt [⟨tg,bB,ifs,0⟩] sc pos) sc X.env _ (newList []) false (eval bB X.env) (some (assign (.Name x px) X.env))) _ _ s
 refine Ef (E4 (wpAny_comprehension_free (use:=some (assign (.Name x px) X.env)) (Q:=fun _ s'=>SP X pins D .next s') rfl hs hcl S.kind S.loc (bA (hi pins s σ H _ I h) fun v s1 h1=>bA h1 fun itv s2 h2=>?_)) (fun _ s' hq=>Et (Et hq)) fun _ _ e=>e);obtain⟨it,fp,tn,J,H2,e,I2,T,st2,f2,hR⟩:=h2;subst e;refine Fw ?_
 have I3:aw X pins σ (upd H2 s2.heap.objs.size (.lst [])) { s2 with heap:=s2.heap.push { cls:=.type "list",dict:=none,data:=.seq ([]:List Value).toArray } } :=
  I2.laid (t':=s2.toks) (fun b u q=>Heap.get?_push_of_some _ q) (Eh _) ⟨EK _,[],0,.nil,Heap.get?_push_size _ rfl⟩
 have hfr:=I2.hok.fresh (Eh s2.heap.objs.size);obtain⟨W,⟨m0,w0⟩,turn⟩:=hR _ hfr
 have flt:∀ b∈fp,b<s2.heap.objs.size:=fun b hb=>by obtain⟨o,e,_⟩:=T.obj _ _ st2 b hb;exact Em e
 generalize hs3:({ s2 with heap:=s2.heap.push { cls:=.type "list",dict:=none,data:=.seq ([]:List Value).toArray } }:Shared)=s3 at I3 ⊢
 have e3:s3.heap=s2.heap.push { cls:=.type "list",dict:=none,data:=.seq ([]:List Value).toArray }:=by rw[<-hs3]
 have sz3:s3.heap.objs.size=s2.heap.objs.size+1:=by rw[e3,Gf]
 have hf3:∀ b∈fp,iP X pins (upd H2 s2.heap.objs.size (.lst [])) b:=fun b hb=>⟨by rw[ae (Eu (flt b hb))];exact (f2 b hb).1,(f2 b hb).2⟩
 have flt3:∀ b∈fp,b<s3.heap.objs.size:=fun b hb=>by rw[sz3];exact Fx (flt b hb)
 have st3:tn 0 s3.heap:=T.keep _ _ _ st2 fun b _ o e=>by rw[e3];exact Heap.get?_push_of_some _ e
 refine wpAny_newFunctionEnv S.nocell (by intro y hy;simp at hy) (fun h4 hns4 hsb4=>?_) S.kind;have kp4:∀ b o,s3.heap.get? b=some o->h4.get? b=some o:=fun b o e=>hsb4.extBut b o (Eu (Em e)) (Heap.get?_push_of_some _ e);have I4:=sO (h':=h4) I3 hso S q1 q3 hf3 flt3 (by simpa using hns4) kp4 (s3.toks+([]:List (Str×Value)).length);have st4:tn 0 h4:=T.keep _ _ _ st3 fun b _ o e=>kp4 b o e;generalize hC:s3.heap.objs.size=C at I4 hns4 hsb4 ⊢;obtain⟨hg,ht,he⟩:=hb cl C s3 (upd H2 s2.heap.objs.size (.lst [])) fp
 let Y:Cx:=hJ X sc cl C N' s3 (upd H2 s2.heap.objs.size (.lst [])) fp
 have loop:∀ s5:Shared,s5={ s3 with heap:=h4,toks:=s3.toks+([]:List (Str×Value)).length }->codeAny (model X.prog X.w) X.A (.compLoop (.ListComp elt [⟨tg,bB,ifs,0⟩] sc pos) 0 (.ref it) (.ref s2.heap.objs.size) (compEnvC sc cl C X.env))
   (compPost (model X.prog X.w) X.A X.xe (some (assign (.Name x px) X.env)) (fun _ s'=>SP X pins D .next s') (.ref s2.heap.objs.size) C) s5:=by
  rintro s5 rfl
  have stat:∀ {H':Hp},(∀ b∈fp,H' b=none)->∀ b∈fp,iP Y [] H' b:=fun {H'} hn b hb=>by
   obtain⟨f0,f1,f2',f3,f4,f5⟩:=hf3 b hb;refine⟨hn b hb,?_,fun z=>?_,.inl hb,fun x c e=>f4 x c (q1 x c e),fun p hp=>absurd (show p∈([]:List (Addr×Obj)) from hp) (by simp)⟩
   ·show b≠C
    rw[<-hC];exact Eu (flt3 b hb)
   ·have z:b∈iR X.stack:=z
    rcases En.mp (I3.stkSub b z) with y | y
    ·exact f1 y
    ·exact f2' y
  refine eU (fun n s'=>∃ i σ' H',aw Y [] σ' H' s'/\tn i s'.heap/\(∀ b∈fp,H' b=none)/\W i n σ' H') ?_ m0 ⟨0,_,_,I4,st4,fun b hb=>(hf3 b hb).1,w0⟩;rintro n s6 ⟨i,σ6,H6,I6,st6,fr6,w6⟩;rcases turn i n σ6 H6 w6 with ⟨stop,qn⟩ | ⟨go,Nx,hN,step⟩
  ·refine bA (T.done Y rfl rfl rfl hc i [] s6 σ6 H6 _ I6 (stat fr6) st6 stop) fun r s7 ⟨hr,I7⟩=>?_
   subst hr;obtain⟨m,hn,_⟩:=id I7.loc;have freeC:H6 C=none:=I7.free;have J7:aw X pins σ H6 s7:=I3.call' (ch:=fp) (s':=s7) I7.os I7.base I7.hok I7.bare fun b hb=>⟨(hf3 b hb).2.2.2.1,(hf3 b hb).2.1,(hf3 b hb).2.2.2.2.1,(hf3 b hb).2.2.2.2.2⟩
   have hC3:∀ b o,s3.heap.get? b=some o->b≠C:=fun b o e=>by rw[<-hC];exact Eu (Em e)
   have hlC:X.env.locals≠C:=by obtain⟨m3,⟨o3,_,_,e3',_⟩,_⟩:=I3.loc;exact hC3 _ _ e3'
   have hcC:∀ y c,X.env.cells.lookup y=some c->c≠C:=fun y c e=>by obtain⟨v3,o3,e3',_⟩:=I3.cell y c e;exact hC3 _ _ e3'
   have hpC:∀ p∈X.pn++pins,p.1≠C:=fun p hp=>hC3 _ _ (I3.pin p hp).1;refine wpAny_assign_Name (qB (i:=ix) (v:=.ref s2.heap.objs.size) J7 hnd hix (.inl hx) rfl (fun s8 I8 ⟨a8,sb8,ha8⟩=>?_) (.inr hx))
   have ha8C:C≠a8:=by
    rcases ha8 with z | z
    ·rw[z];exact Ex hlC
    ·exact Ex (hcC _ _ z)
   refine⟨m,hn.sameBut sb8 ha8C,fun h' hsb=>?_⟩
   have I9:aw X pins (σ.set ix (some (.ref s2.heap.objs.size))) H6 { s8 with heap:=h' } :=
    I8.turned (it:=C) (t':=s8.toks) (fun b o hb e=>(hsb.2 b hb).trans e) freeC (Ex hlC) (.inr (by rw[<-hC];exact I3.sz)) hcC hpC
   exact⟨_,H6,I9,qn⟩
  ·refine bA (T.item Y rfl rfl rfl hc i [] s6 σ6 H6 _ I6 (stat fr6) st6 go) fun r s7 ⟨u,hr,h7⟩=>?_
   subst hr;refine bA h7 fun _ s8 ⟨x,H8,I8,r8,y8,st8,fr8⟩=>?_;have I8':=I8.pinned (stat fr8) (T.obj _ _ st8);refine bA (hg _ s8 σ6 H8 x u _ I8' r8 (step x H8 y8)) fun _ s9 ⟨σ9,H9,I9,q9⟩=>?_
   have again:∀ {s':Shared}{σ7:St}{H7:Hp},aw Y ([]++lJ fp s8.heap) σ7 H7 s'->Nx σ7 H7->∃ m,m<n/\∃ i σ' H',aw Y [] σ' H' s'/\tn i s'.heap/\(∀ b∈fp,H' b=none)/\W i m σ' H':=fun {s' σ7 H7} I7 n7=>by
    obtain⟨m',hm,w7⟩:=hN σ7 H7 n7;refine⟨m',hm,i+1,σ7,H7,I7.unpinned,T.keep _ _ _ st8 fun b hb o e=>(I7.pin (b,o) (ED _ (ED _ (eB hb e)))).1,fun b hb=>?_,w7⟩;obtain⟨o,e,d⟩:=T.obj _ _ st8 b hb;exact (I7.pin (b,o) (ED _ (ED _ (eB hb e)))).2.1
   refine bA (ht _ s9 σ9 H9 _ I9 q9) fun ok s10 ⟨H10,I10,q10⟩=>?_
   cases ok with
   | false =>
    rw[Ed Ej]at q10 ⊢;exact again I10 q10
   | true =>
    rw[Ee rfl]at q10 ⊢;refine bA (he _ s10 σ9 H10 _ I10 q10) fun y s11 ⟨yv,H11,I11,ry,ys,hys,hlen,q11⟩=>?_;exact bA (mh (X:=Y) I11 hys hlen ry) fun _ s12 I12=>again I12 q11
 exact codeAny_compStart_list (loop _ rfl) (T.self _ 0 _ _ _ st4 (loop _ rfl))
section
variable {X:Cx}
def BW (i j:Int):Prop:=0<j/\j<1152921504606846976
theorem yJ:m5 X (binaryOp .FloorDiv) (rI BW fun i j=>.int (i/j)):=Cq fun i j _ _ _ _ _ hc q=>by
 have h1:(0:Int)<j:=hc.1;have h2:j<1152921504606846976:=hc.2;refine floordiv_int (by omega) (by rw[Int.fdiv_eq_ediv_of_nonneg i (by omega)];exact q) (.inl (PyProof.noPylong_of_log2 ?_))
 have h0:j.natAbs≠0:=by omega
 have:j.natAbs.log2<60:=(Nat.log2_lt h0).mpr (by omega);omega
theorem ko:lR X (.builtin "isinstance") (fun xs H Q=>∃ x T t b,xs=[x,.ty T]/\iQ X.K H x t/\PySem.W.kitOne X.K t (.type T)=some b/\Q (.bl b) H):=by
 intro pins s σ H xs us Q I r h;obtain⟨x,T,t,b,rfl,ty,e,q⟩:=h
 cases r with
 | cons rx r2 =>
  cases r2 with
  | cons rt r3 =>
   cases r3;cases rt;exact xu I rx ty e fun tk=>⟨.bl b,H,I.tok tk,rfl,q⟩
theorem uo {A:Around}{bs:List Bool}{its:List Value}(r:aU (bs.map V.bl) its) :
  TruthOf X.prog X.w A (fun i v=>its.toArray[i]? = some v) (fun i=>bs.getD i false):=by
 intro i v s Q E hv hq
 have hv':its[i]? = some v:=by simpa using hv
 have hi:i<its.length:=(List.getElem?_eq_some_iff.mp hv').1;have hl:=r.length;rw[Eg]at hl;obtain⟨u,hu,ru⟩:=r.get (i:=i) (x:=V.bl (bs[i]'(by omega))) (by rw[List.getElem?_map,List.getElem?_eq_getElem (by omega)];rfl);rw[hv']at hu;cases hu;cases ru
 have e:bs.getD i false=bs[i]'(by omega):=by simp[List.getD,List.getElem?_eq_getElem (show i<bs.length by omega)]
 have hq':Q (bs.getD i false) s:=hq;rw[e]at hq';exact Fu hq'
theorem xR (bs:List Bool):(List.range bs.length).all (fun i=>bs.getD i false)=bs.all id:=by
 have h:(List.range bs.length).map (fun i=>bs.getD i false)=bs:=by
  apply List.ext_getElem
  ·simp
  ·intro i h1 h2;simp[List.getD,List.getElem?_eq_getElem h2]
 have e:(List.range bs.length).all (fun i=>bs.getD i false)=((List.range bs.length).map (fun i=>bs.getD i false)).all id:=by rw[List.all_map];rfl
 rw[e,h]
theorem xA {pins:List (Addr×Obj)}{σ:St}{H:Hp}{s:Shared}{A:Around}{E:Value->Shared->Prop}{p:Addr}{xs:List V}{its:List Value}{R:Value->Shared->Prop}(I:aw X pins σ H s)(hA:A.handled=none)(pl:PlainL s.heap p its.toArray)
  (h:∀ (I':Addr)(St:Nat->Heap->Prop)(s2:Shared),s2.heap.objs.size=s.heap.objs.size+1->I'=s.heap.objs.size->Walks X.prog X.w A I' [I',p] [I'] its.length (fun i v=>its.toArray[i]? = some v) St->St 0 s2.heap->(∀ b o,s.heap.get? b=some o->s2.heap.get? b=some o)->(∀ h' tk,(∀ b o,b∉[I']->s2.heap.get? b=some o->h'.get? b=some o)->aw X pins σ H { s2 with heap:=h',toks:=tk })->R (.ref I') s2) :
  wpAny (model X.prog X.w) A (pyIter (.ref p)) R E s:=by
 refine Gb pl.isList ?_
 have hlt:p<s.heap.objs.size:=by obtain⟨o,n,e,_⟩:=pl;exact Em e
 have W:=Walks.list (prog:=X.prog) (w:=X.w) hA s.heap.objs.size p (Eu hlt) its.toArray;rw[Ey]at W;refine h _ _ _ (by rw[Gf]) rfl W ⟨⟨_,Heap.get?_push_size _ rfl,rfl,rfl⟩,pl.isList.at fun o e=>Heap.get?_push_of_some _ e⟩ (fun b o e=>Heap.get?_push_of_some _ e) fun h' tk kp=>?_;exact I.kept (t':=tk) fun b o e=>kp b o (by simpa using Eu (Em e)) (Heap.get?_push_of_some _ e)
theorem qd (hc:X.calm=true):lR X (.builtin "all") (fun xs H Q=>∃ (p:Addr)(bs:List Bool),xs=[.ref p]/\bz X.K H p (bs.map V.bl)/\Q (.bl (bs.all id)) H):=by
 intro pins s σ H xs us Q I r h;obtain⟨p,bs,rfl,hq,q⟩:=h;obtain⟨u,rfl,rx⟩:=mI r;cases rx;obtain⟨its,rv,pl,hz⟩:=I.list hq;have hl:=rv.length;rw[Eg]at hl;refine call_all_walk (xA (xs:=bs.map V.bl) I (I.ok.hd hc) pl fun I' St s2 hs2 hI W st kp fin=>?_);refine⟨I',_,_,_,_,St,_,rfl,W,st,uo rv,fun h' tk k=>⟨.bl _,H,fin h' tk k,rfl,?_⟩⟩;rw[<-hl,xR];exact q
theorem kA:∀ {ns:List Int}{us:List Value},aU (ns.map V.int) us->IntsAre us ns
 | [],_,r=>by cases r;exact IntsAre.nil
 | n::ns,_,r=>by
  cases r with
  | cons r t=>obtain⟨tk,rfl⟩:=r;exact IntsAre.cons _ _ (kA t)
theorem sr:∀ {ns:List Int}{us:List Value},IntsAre us ns->aU (ns.map V.int) us:=by
 intro ns
 induction ns with
 | nil=>intro us h;cases h;exact .nil
 | cons n ns ih =>
  intro us h
  cases h with
  | cons _ _ t=>exact .cons ⟨_,rfl⟩ (ih t)
def gU:List Int->List Int:=fun l=>l.mergeSort (fun a b=>decide (a<=b))
theorem uf {l m:List Int}(hp:m.Perm l)(hs:m.Pairwise (·<=·)):m=gU l:=by
 have h1:(gU l).Pairwise (fun a b=>decide (a<=b)=true):=List.pairwise_mergeSort (by intro a b c;simp;omega) (by intro a b;simp;omega) l;have h2:(gU l).Pairwise (·<=·):=h1.imp (by simp);have h3:m.Perm (gU l):=hp.trans (F3 l _).symm;exact h3.eq_of_pairwise (fun a b _ _ h1 h2=>Int.le_antisymm h1 h2) hs h2
theorem wU:∀ {xs:List V}{us:List Value},xs.length=us.length->(∀ (i:Nat) x u,xs[i]? = some x->us[i]? = some u->aT x u)->aU xs us
 | [],[],_,_=>.nil
 | x::xs,u::us,hl,h=>.cons (h 0 x u rfl rfl) (wU (by simpa using hl) fun i y v e1 e2=>h (i+1) y v (by simpa using e1) (by simpa using e2))
 | [],_::_,hl,_=>by simp at hl
 | _::_,[],hl,_=>by simp at hl
theorem qT (hc:X.calm=true):lR X (.builtin "sorted") (fun xs H Q=>∃ (p:Addr)(kvs:List (bR×V))(ns:List Int),xs=[.ref p]/\H p=some (.dK kvs)/\kvs.map (·.1)=ns.map Sum.inl/\ns.length<64/\∀ l,H l=none->Q (.ref l) (upd H l (.lst ((gU ns).map V.int)))):=by
 intro pins s σ H xs us Q I r h;obtain⟨p,kvs,ns,rfl,hH,hk,h64,q⟩:=h;obtain⟨u,rfl,rx⟩:=mI r;cases rx;obtain⟨hz,lo,vs,rel,dd⟩:=(show bD X.prog X.w H s.heap p (.dK kvs) from I.hok p _ hH);obtain⟨ep,hat⟩:=dd.dictAt
 have hlk:kvs.length=ns.length:=by have:=EM List.length hk;simpa using this
 have hlv:kvs.length=vs.length:=Er rel;refine PySem.Calls.call_function_entry kind_sorted plain_sorted entry_sorted (args_sorted1 _) ?_;unfold Builtin.«sorted»;refine Ef (m:=checkCount "sorted" 1 1 _) (Et ?_);refine Ef (PySem.W.kdu_collect (A:=X.A.in1) (PySem.W.kdl_dict (knd:=bH X.prog X.w) (kvs:=vs) (ep:=ep) lo) (I.ok.hd hc) hat (by rw[<-hlv];exact hz) fun h' tk acc kp hacc=>?_)
 have hal:acc.toList.length=vs.length:=by rw[EJ];exact hacc.1
 refine Ef (wpAny_newList ?_ (by rw[hal,<-hlv];exact hz))
 have rI:aU (ns.map V.int) acc.toList:=wU (by rw[Eg,hal];omega) fun i x v e1 e2=>by
  obtain⟨k,y,hx,hks⟩:=hacc.2 i v (by rw[<-Array.getElem?_toList];exact e2)
  have e3:(vs.map (·.1))[i]? = some k:=by rw[List.getElem?_map,hx];rfl
  rw[<-rel.keys,hk,List.getElem?_map]at e3;rw[List.getElem?_map]at e1
  cases en:ns[i]? with
  | none=>rw[en]at e1;cases e1
  | some n =>
   rw[en]at e1 e3;have e1':V.int n=x:=Ei e1;subst e1';have e4:(Sum.inl n:bR)=k:=Ei e3;subst e4;rcases bM (k:=Sum.inl n) (v:=v) hks with ⟨j,t,ej,ev⟩ | ⟨j,t,ej,_⟩
   ·cases ej;exact⟨t,ev⟩
   ·cases ej
 have hoL:(h'.push (seqObj "list" acc.toList.toArray 0)).get? h'.objs.size=some (seqObj "list" acc.toList.toArray 0):=Heap.get?_push_size _ rfl;refine Ef (FK (wpAny_call_entry slot_list_sort ⟨_,hoL,rfl⟩ entry_list_sort (list_sort_tree hoL (kA rI) (by rw[hal];omega) fun out ns' a1 a2 a3=>⟨_,rfl,?_⟩) (args_list_sort _)));refine Et ⟨_,rfl,?_⟩;have en:ns'=gU ns:=uf a2 a3;subst en;obtain⟨e,he⟩:=sortedHeap_at (vs:=acc.toList) (out:=out) hoL;have I1:aw X pins σ H { s with heap:=h',toks:=tk }:=I.kept kp;refine⟨.ref h'.objs.size,_,I1.laid (t':=tk) (a:=h'.objs.size) (o:=.lst ((gU ns).map V.int)) (fun b o e=>?_) (Eh _) ⟨?_,out.toList,e,sr a1,by simpa using he⟩,rfl,q _ (I1.hok.fresh (Eh _))⟩
 ·rw[sortedHeap_old (Eu (Em e)) (by rw[size_push'];exact Fx (Em e))]
  exact Heap.get?_push_of_some _ e
 ·have:=a2.length_eq
  rw[Eg];omega
end
inductive Dt where
 | at (v:V)
 | sq (tup:Bool) (ds:List Dt)
def gL:V->Bool
 | .non=>true
 | .int _=>true
 | .str _=>true
 | _=>false
theorem oA {v:V}(h:gL v=true):yn v=true:=by cases v<;>first | rfl | cases h
theorem zO {x y:V}(hx:gL x=true)(hy:gL y=true):CY x y=true↔x=y:=by
 cases x<;>cases y<;>first | (cases hx;done) | (cases hy;done) | simp[CY]
def mL (K:PySem.W.Frag)(H:Hp)(t:Bool)(a:Addr)(xs:List V):Prop:=if t=true then dv K H a xs else bz K H a xs
def RD (K:PySem.W.Frag)(H:Hp):Nat->V->Dt->Prop
 | 0,v,d=>gL v=true/\d=.at v
 | n+1,v,d=>(gL v=true/\d=.at v)\/∃ a t xs ds,v=.ref a/\d=.sq t ds/\mL K H t a xs/\Paired (RD K H n) xs ds
theorem RD.flat {K:PySem.W.Frag}{H:Hp}{v:V}(h:gL v=true):∀ n,RD K H n v (.at v)
 | 0=>⟨h,rfl⟩
 | _+1=>.inl ⟨h,rfl⟩
theorem RD.lst {K:PySem.W.Frag}{H:Hp}{a:Addr}{xs:List V}{ds:List Dt}{n:Nat}(h:bz K H a xs)(r:Paired (RD K H n) xs ds):RD K H (n+1) (.ref a) (.sq false ds) :=
 .inr ⟨a,false,xs,ds,rfl,rfl,by unfold mL;rw[Ed Ej];exact h,r⟩
theorem RD.tup {K:PySem.W.Frag}{H:Hp}{a:Addr}{xs:List V}{ds:List Dt}{n:Nat}(h:dv K H a xs)(r:Paired (RD K H n) xs ds):RD K H (n+1) (.ref a) (.sq true ds) :=
 .inr ⟨a,true,xs,ds,rfl,rfl,by unfold mL;rw[Ee rfl];exact h,r⟩
section
variable {X:Cx}{pins:List (Addr×Obj)}{σ:St}{H:Hp}{s:Shared}
theorem RD.inj (I:aw X pins σ H s):∀ {n m:Nat}{v:V}{d e:Dt},RD X.K H n v d->RD X.K H m v e->d=e:=by
 intro n
 induction n with
 | zero =>
  intro m v d e h1 h2;obtain⟨f,rfl⟩:=h1
  cases m with
  | zero=>exact h2.2.symm
  | succ m =>
   rcases h2 with h2 | ⟨a,t,xs,ds,rfl,_⟩
   ·exact h2.2.symm
   ·cases f
 | succ n ih =>
  intro m v d e h1 h2;rcases h1 with h1 | ⟨a,t,xs,ds,rfl,rfl,q,r⟩
  ·obtain⟨f,rfl⟩:=h1
   cases m with
   | zero=>exact h2.2.symm
   | succ m =>
    rcases h2 with h2 | ⟨a,t,xs,ds,rfl,_⟩
    ·exact h2.2.symm
    ·cases f
  ·cases m with
   | zero=>cases h2.1
   | succ m =>
    rcases h2 with h2 | ⟨a',t',xs',ds',ea,rfl,q',r'⟩
    ·cases h2.1
    ·cases ea
     have pr:∀ {l:List V}{l1 l2:List Dt},Paired (RD X.K H n) l l1->Paired (RD X.K H m) l l2->l1=l2:=by
      intro l
      induction l with
      | nil=>intro l1 l2 p1 p2;cases p1;cases p2;rfl
      | cons z l ihl =>
       intro l1 l2 p1 p2
       cases p1 with
       | cons r1 t1 =>
        cases p2 with
        | cons r2 t2=>rw[ih r1 r2,ihl t1 t2]
     cases t with
     | false =>
      have q:bz X.K H a xs:=by unfold mL at q;rwa [Ed Ej]at q
      cases t' with
      | false =>
       have q':bz X.K H a xs':=by unfold mL at q';rwa [Ed Ej]at q'
       have:=I.list_inj q q';subst this;rw[pr r r']
      | true =>
       have q':dv X.K H a xs':=by unfold mL at q';rwa [Ee rfl]at q'
       obtain⟨_,_,p1,_⟩:=I.list q;obtain⟨_,_,p2,_⟩:=I.tuple q';exact absurd rfl (SeqAt.ne_of_list_tuple p1.isList p2)
     | true =>
      have q:dv X.K H a xs:=by unfold mL at q;rwa [Ee rfl]at q
      cases t' with
      | false =>
       have q':bz X.K H a xs':=by unfold mL at q';rwa [Ed Ej]at q'
       obtain⟨_,_,p1,_⟩:=I.tuple q;obtain⟨_,_,p2,_⟩:=I.list q';exact absurd rfl (SeqAt.ne_of_list_tuple p2.isList p1)
      | true =>
       have q':dv X.K H a xs':=by unfold mL at q';rwa [Ee rfl]at q'
       have:=I.tuple_inj q q';subst this;rw[pr r r']
theorem y6 (I:aw X pins σ H s):∀ (n:Nat){A:Around}{l b:Addr}{d e:Dt},A.units+n<cLine->RD X.K H (n+1) (.ref l) d->RD X.K H (n+1) (.ref b) e ->
  (∀ {A:Around}{y x:V}{u v:Value}{d e:Dt},A.units+n<cLine+1->RD X.K H n y d->RD X.K H n x e->aT y u->aT x v->∃ k:Bool,(k=true↔d=e)/\SeqAt.EqAt A s u v k) ->
  ∃ k:Bool,(k=true↔d=e)/\SeqAt.RcAt A s (.ref l) (.ref b) k:=by
 intro n A l b d e hu h1 h2 ih;rcases h1 with h1 | ⟨a,t,xs,ds,ea,rfl,q,r⟩
 ·cases h1.1
 cases ea;rcases h2 with h2 | ⟨a',t',xs',ds',ea,rfl,q',r'⟩
 ·cases h2.1
 cases ea
 have pw:∀ {us us':List Value},aU xs us->aU xs' us'->∃ ks:Nat->Bool,(∀ j (h1:j<us.length) (h2:j<us'.length),SeqAt.EqAt A.in1 s us[j] us'[j] (ks j)) /\
   (∀ j d1 d2,ds[j]? = some d1->ds'[j]? = some d2->(ks j=true↔d1=d2)):=by
  intro us us' rv rv'
  have ex:∀ j:Nat,∃ k:Bool,(∀ (h1:j<us.length)(h2:j<us'.length),SeqAt.EqAt A.in1 s us[j] us'[j] k)/\(∀ d1 d2,ds[j]? = some d1->ds'[j]? = some d2->(k=true↔d1=d2)):=by
   intro j
   by_cases hj:j<us.length/\j<us'.length
   ·obtain⟨h1,h2⟩:=hj
    have l1:=rv.length;have l2:=rv'.length;have l3:=Er r;have l4:=Er r';have gx:xs[j]? = some xs[j]:=List.getElem?_eq_getElem (by omega);have gx':xs'[j]? = some xs'[j]:=List.getElem?_eq_getElem (by omega);obtain⟨u,eu,ru⟩:=rv.get gx;obtain⟨u',eu',ru'⟩:=rv'.get gx'
    have eu2:us[j]=u:=by rw[List.getElem?_eq_getElem h1]at eu;exact Ei eu
    have eu2':us'[j]=u':=by rw[List.getElem?_eq_getElem h2]at eu';exact Ei eu'
    have pget:∀ {m:Nat}{zs:List V}{es:List Dt}(j:Nat){z:V},Paired (RD X.K H m) zs es->zs[j]? = some z->∃ f,es[j]? = some f/\RD X.K H m z f:=by
     intro m zs
     induction zs with
     | nil=>intro es j z p hz;simp at hz
     | cons z0 zs ihz =>
      intro es j z p hz
      cases p with
      | cons p1 p2 =>
       cases j with
       | zero=>simp at hz;subst hz;exact⟨_,rfl,p1⟩
       | succ j=>obtain⟨f,e1,e2⟩:=ihz j p2 (by simpa using hz);exact⟨f,by simpa using e1,e2⟩
    obtain⟨f,ef,rf⟩:=pget j r gx;obtain⟨f',ef',rf'⟩:=pget j r' gx';obtain⟨k,hk,he⟩:=ih (A:=A.in1) (by show A.units+1+n<cLine+1;omega) rf rf' ru ru';refine⟨k,fun _ _=>by rw[eu2,eu2'];exact he,fun d1 d2 e1 e2=>?_⟩;rw[ef]at e1;rw[ef']at e2;cases e1;cases e2;exact hk
   ·refine⟨false,fun h1 h2=>absurd ⟨h1,h2⟩ hj,fun d1 d2 e1 e2=>?_⟩
    have l1:=rv.length;have l2:=rv'.length;have l3:=Er r;have l4:=Er r';have:=(List.getElem?_eq_some_iff.mp e1).1;have:=(List.getElem?_eq_some_iff.mp e2).1;exact absurd ⟨by omega,by omega⟩ hj
  exact⟨fun j=>Classical.choose (ex j),fun j h1 h2=>(FX (ex j)).1 h1 h2,fun j=>(FX (ex j)).2⟩
 have allEq:∀ (ks:Nat->Bool),(∀ j d1 d2,ds[j]? = some d1->ds'[j]? = some d2->(ks j=true↔d1=d2))->ds.length=ds'.length->((List.range ds.length).all ks=true↔ds=ds'):=by
  intro ks hk hl;rw[List.all_eq_true];constructor
  ·intro h
   apply List.ext_getElem hl
   intro j h1 h2;exact (hk j _ _ (List.getElem?_eq_getElem h1) (List.getElem?_eq_getElem h2)).mp (h j (EX.mpr h1))
  ·rintro rfl j hj
   have h1:=EX.mp hj;exact (hk j _ _ (List.getElem?_eq_getElem h1) (List.getElem?_eq_getElem h1)).mpr rfl
 have l3:=Er r;have l4:=Er r'
 cases t with
 | false =>
  have q:bz X.K H l xs:=by unfold mL at q;rwa [Ed Ej]at q
  obtain⟨us,rv,p1,_⟩:=I.list q;have l1:=rv.length
  cases t' with
  | true =>
   have q':dv X.K H b xs':=by unfold mL at q';rwa [Ee rfl]at q'
   obtain⟨us',rv',p2,_⟩:=I.tuple q';exact⟨false,by simp,SeqAt.RcAt.list_tuple p1.isList p2 (by omega)⟩
  | false =>
   have q':bz X.K H b xs':=by unfold mL at q';rwa [Ed Ej]at q'
   obtain⟨us',rv',p2,_⟩:=I.list q';have l2:=rv'.length
   by_cases hl:us.length=us'.length
   ·obtain⟨ks,he,hk⟩:=pw rv rv'
    refine⟨(List.range us.toArray.size).all ks,?_,SeqAt.RcAt.lists p1.isList p2.isList (by simpa using hl) (by omega) fun j h1 h2=>by simpa using he j (by simpa using h1) (by simpa using h2)⟩;rw[Ey,show us.length=ds.length by omega,allEq ks hk (by omega)];constructor
    ·rintro rfl;rfl
    ·intro h;injection h
   ·refine⟨false,?_,SeqAt.RcAt.lists_lengths p1.isList p2.isList (by simpa using hl) (by omega)⟩
    constructor
    ·intro h;cases h
    ·intro h
     injection h with _ h;exact absurd (by rw[<-l1,l3,h,<-l4,l2]) hl
 | true =>
  have q:dv X.K H l xs:=by unfold mL at q;rwa [Ee rfl]at q
  obtain⟨us,rv,p1,_⟩:=I.tuple q;have l1:=rv.length
  cases t' with
  | false =>
   have q':bz X.K H b xs':=by unfold mL at q';rwa [Ed Ej]at q'
   obtain⟨us',rv',p2,_⟩:=I.list q';exact⟨false,by simp,SeqAt.RcAt.tuple_list p1 p2.isList (by omega)⟩
  | true =>
   have q':dv X.K H b xs':=by unfold mL at q';rwa [Ee rfl]at q'
   obtain⟨us',rv',p2,_⟩:=I.tuple q';have l2:=rv'.length;obtain⟨ks,he,hk⟩:=pw rv rv';refine⟨_,?_,SeqAt.RcAt.tuples (e:=ks) (show s.heap.IsTuple l us.toArray from p1) (show s.heap.IsTuple b us'.toArray from p2) (by omega) fun j h1 h2=>by simpa using he j (by simpa using h1) (by simpa using h2)⟩
   by_cases hl:us.length=us'.length
   ·rw[Ey,Ey,<-hl,Nat.min_self,beq_self_eq_true,Bool.and_true,show us.length=ds.length by omega,allEq ks hk (by omega)]
    constructor
    ·rintro rfl;rfl
    ·intro h;injection h
   ·have:(us.toArray.size == us'.toArray.size)=false:=by simpa using hl
    rw[this,Bool.and_false];constructor
    ·intro h;cases h
    ·intro h
     injection h with _ h;exact absurd (by rw[<-l1,l3,h,<-l4,l2]) hl
theorem y7 (I:aw X pins σ H s):∀ (n:Nat){A:Around}{l b:Addr}{d e:Dt},A.units+n<cLine->RD X.K H (n+1) (.ref l) d->RD X.K H (n+1) (.ref b) e ->
  (∀ {A:Around}{y x:V}{u v:Value}{d e:Dt},A.units+n<cLine+1->RD X.K H n y d->RD X.K H n x e->aT y u->aT x v->∃ k:Bool,(k=true↔d=e)/\SeqAt.EqAt A s u v k) ->
  ∃ k:Bool,(k=true↔d=e)/\SeqAt.RcNeAt A s (.ref l) (.ref b) (!k):=by
 intro n A l b d e hu h1 h2 ih;rcases h1 with h1 | ⟨a,t,xs,ds,ea,rfl,q,r⟩
 ·cases h1.1
 cases ea;rcases h2 with h2 | ⟨a',t',xs',ds',ea,rfl,q',r'⟩
 ·cases h2.1
 cases ea
 have pw:∀ {us us':List Value},aU xs us->aU xs' us'->∃ ks:Nat->Bool,(∀ j (h1:j<us.length) (h2:j<us'.length),SeqAt.EqAt A.in1 s us[j] us'[j] (ks j)) /\
   (∀ j d1 d2,ds[j]? = some d1->ds'[j]? = some d2->(ks j=true↔d1=d2)):=by
  intro us us' rv rv'
  have ex:∀ j:Nat,∃ k:Bool,(∀ (h1:j<us.length)(h2:j<us'.length),SeqAt.EqAt A.in1 s us[j] us'[j] k)/\(∀ d1 d2,ds[j]? = some d1->ds'[j]? = some d2->(k=true↔d1=d2)):=by
   intro j
   by_cases hj:j<us.length/\j<us'.length
   ·obtain⟨h1,h2⟩:=hj
    have l1:=rv.length;have l2:=rv'.length;have l3:=Er r;have l4:=Er r';have gx:xs[j]? = some xs[j]:=List.getElem?_eq_getElem (by omega);have gx':xs'[j]? = some xs'[j]:=List.getElem?_eq_getElem (by omega);obtain⟨u,eu,ru⟩:=rv.get gx;obtain⟨u',eu',ru'⟩:=rv'.get gx'
    have eu2:us[j]=u:=by rw[List.getElem?_eq_getElem h1]at eu;exact Ei eu
    have eu2':us'[j]=u':=by rw[List.getElem?_eq_getElem h2]at eu';exact Ei eu'
    have pget:∀ {m:Nat}{zs:List V}{es:List Dt}(j:Nat){z:V},Paired (RD X.K H m) zs es->zs[j]? = some z->∃ f,es[j]? = some f/\RD X.K H m z f:=by
     intro m zs
     induction zs with
     | nil=>intro es j z p hz;simp at hz
     | cons z0 zs ihz =>
      intro es j z p hz
      cases p with
      | cons p1 p2 =>
       cases j with
       | zero=>simp at hz;subst hz;exact⟨_,rfl,p1⟩
       | succ j=>obtain⟨f,e1,e2⟩:=ihz j p2 (by simpa using hz);exact⟨f,by simpa using e1,e2⟩
    obtain⟨f,ef,rf⟩:=pget j r gx;obtain⟨f',ef',rf'⟩:=pget j r' gx';obtain⟨k,hk,he⟩:=ih (A:=A.in1) (by show A.units+1+n<cLine+1;omega) rf rf' ru ru';refine⟨k,fun _ _=>by rw[eu2,eu2'];exact he,fun d1 d2 e1 e2=>?_⟩;rw[ef]at e1;rw[ef']at e2;cases e1;cases e2;exact hk
   ·refine⟨false,fun h1 h2=>absurd ⟨h1,h2⟩ hj,fun d1 d2 e1 e2=>?_⟩
    have l1:=rv.length;have l2:=rv'.length;have l3:=Er r;have l4:=Er r';have:=(List.getElem?_eq_some_iff.mp e1).1;have:=(List.getElem?_eq_some_iff.mp e2).1;exact absurd ⟨by omega,by omega⟩ hj
  exact⟨fun j=>Classical.choose (ex j),fun j h1 h2=>(FX (ex j)).1 h1 h2,fun j=>(FX (ex j)).2⟩
 have allEq:∀ (ks:Nat->Bool),(∀ j d1 d2,ds[j]? = some d1->ds'[j]? = some d2->(ks j=true↔d1=d2))->ds.length=ds'.length->((List.range ds.length).all ks=true↔ds=ds'):=by
  intro ks hk hl;rw[List.all_eq_true];constructor
  ·intro h
   apply List.ext_getElem hl
   intro j h1 h2;exact (hk j _ _ (List.getElem?_eq_getElem h1) (List.getElem?_eq_getElem h2)).mp (h j (EX.mpr h1))
  ·rintro rfl j hj
   have h1:=EX.mp hj;exact (hk j _ _ (List.getElem?_eq_getElem h1) (List.getElem?_eq_getElem h1)).mpr rfl
 have l3:=Er r;have l4:=Er r'
 cases t with
 | false =>
  have q:bz X.K H l xs:=by unfold mL at q;rwa [Ed Ej]at q
  obtain⟨us,rv,p1,_⟩:=I.list q;have l1:=rv.length
  cases t' with
  | true =>
   have q':dv X.K H b xs':=by unfold mL at q';rwa [Ee rfl]at q'
   obtain⟨us',rv',p2,_⟩:=I.tuple q';exact⟨false,by simp,SeqAt.RcNeAt.list_tuple p1.isList p2 (by omega)⟩
  | false =>
   have q':bz X.K H b xs':=by unfold mL at q';rwa [Ed Ej]at q'
   obtain⟨us',rv',p2,_⟩:=I.list q';have l2:=rv'.length
   by_cases hl:us.length=us'.length
   ·obtain⟨ks,he,hk⟩:=pw rv rv'
    refine⟨(List.range us.toArray.size).all ks,?_,SeqAt.RcNeAt.lists p1.isList p2.isList (by simpa using hl) (by omega) fun j h1 h2=>by simpa using he j (by simpa using h1) (by simpa using h2)⟩;rw[Ey,show us.length=ds.length by omega,allEq ks hk (by omega)];constructor
    ·rintro rfl;rfl
    ·intro h;injection h
   ·refine⟨false,?_,SeqAt.RcNeAt.lists_lengths p1.isList p2.isList (by simpa using hl) (by omega)⟩
    constructor
    ·intro h;cases h
    ·intro h
     injection h with _ h;exact absurd (by rw[<-l1,l3,h,<-l4,l2]) hl
 | true =>
  have q:dv X.K H l xs:=by unfold mL at q;rwa [Ee rfl]at q
  obtain⟨us,rv,p1,_⟩:=I.tuple q;have l1:=rv.length
  cases t' with
  | false =>
   have q':bz X.K H b xs':=by unfold mL at q';rwa [Ed Ej]at q'
   obtain⟨us',rv',p2,_⟩:=I.list q';exact⟨false,by simp,SeqAt.RcNeAt.tuple_list p1 p2.isList (by omega)⟩
  | true =>
   have q':dv X.K H b xs':=by unfold mL at q';rwa [Ee rfl]at q'
   obtain⟨us',rv',p2,_⟩:=I.tuple q';have l2:=rv'.length;obtain⟨ks,he,hk⟩:=pw rv rv';refine⟨(List.range (min us.toArray.size us'.toArray.size)).all ks&&us.toArray.size == us'.toArray.size,?_,SeqAt.RcNeAt.tuples (e:=ks) (show s.heap.IsTuple l us.toArray from p1) (show s.heap.IsTuple b us'.toArray from p2) (by omega) fun j h1 h2=>by simpa using he j (by simpa using h1) (by simpa using h2)⟩
   by_cases hl:us.length=us'.length
   ·rw[Ey,Ey,<-hl,Nat.min_self,beq_self_eq_true,Bool.and_true,show us.length=ds.length by omega,allEq ks hk (by omega)]
    constructor
    ·rintro rfl;rfl
    ·intro h;injection h
   ·have:(us.toArray.size == us'.toArray.size)=false:=by simpa using hl
    rw[this,Bool.and_false];constructor
    ·intro h;cases h
    ·intro h
     injection h with _ h;exact absurd (by rw[<-l1,l3,h,<-l4,l2]) hl
theorem yl (I:aw X pins σ H s):∀ (n:Nat){A:Around}{y x:V}{u v:Value}{d e:Dt},A.units+n<cLine+1->RD X.K H n y d->RD X.K H n x e->aT y u->aT x v->∃ k:Bool,(k=true↔d=e)/\SeqAt.EqAt A s u v k:=by
 intro n
 have flatCase:∀ {A:Around}{y x:V}{u v:Value},gL y=true->gL x=true->aT y u->aT x v->∃ k:Bool,(k=true↔Dt.at y=Dt.at x)/\SeqAt.EqAt A s u v k:=by
  intro A y x u v fy fx ry rx;refine⟨CY y x,?_,A6 ry rx (oA fy) (oA fx)⟩;rw[zO fy fx];constructor
  ·rintro rfl;rfl
  ·intro h;injection h
 induction n with
 | zero =>
  intro A y x u v d e hu h1 h2 ry rx;obtain⟨f1,rfl⟩:=h1;obtain⟨f2,rfl⟩:=h2;exact flatCase f1 f2 ry rx
 | succ n ih =>
  intro A y x u v d e hu h1 h2 ry rx;rcases id h1 with ⟨f1,rfl⟩ | ⟨a,t,xs,ds,rfl,rfl,q,r⟩
  ·rcases id h2 with ⟨f2,rfl⟩ | ⟨a',t',xs',ds',rfl,rfl,q',r'⟩
   ·exact flatCase f1 f2 ry rx
   ·cases rx
    refine⟨false,by simp,?_⟩
    cases t' with
    | false =>
     have q':bz X.K H a' xs':=by unfold mL at q';rwa [Ed Ej]at q'
     obtain⟨_,_,p,_⟩:=I.list q'
     cases y with
     | non=>cases ry;exact SeqAt.EqAt.none_list p.isList (by omega)
     | int _=>obtain⟨tk,rfl⟩:=ry;exact SeqAt.EqAt.int_list _ _ p.isList (by omega)
     | str _=>obtain⟨tk,rfl⟩:=ry;exact SeqAt.EqAt.str_list _ _ p.isList (by omega)
     | _=>cases f1
    | true =>
     have q':dv X.K H a' xs':=by unfold mL at q';rwa [Ee rfl]at q'
     obtain⟨_,_,p,_⟩:=I.tuple q'
     cases y with
     | non=>cases ry;exact SeqAt.EqAt.none_tuple p (by omega)
     | int _=>obtain⟨tk,rfl⟩:=ry;exact SeqAt.EqAt.int_tuple _ _ p (by omega)
     | str _=>obtain⟨tk,rfl⟩:=ry;exact SeqAt.EqAt.str_tuple _ _ p (by omega)
     | _=>cases f1
  ·cases ry
   rcases id h2 with ⟨f2,rfl⟩ | ⟨a',t',xs',ds',rfl,rfl,q',r'⟩
   ·refine⟨false,by simp,?_⟩
    cases t with
    | false =>
     have q:bz X.K H a xs:=by unfold mL at q;rwa [Ed Ej]at q
     obtain⟨_,_,p,_⟩:=I.list q
     cases x with
     | non=>cases rx;exact SeqAt.EqAt.list_none p.isList (by omega)
     | int _=>obtain⟨tk,rfl⟩:=rx;exact SeqAt.EqAt.list_int _ _ p.isList (by omega)
     | str _=>obtain⟨tk,rfl⟩:=rx;exact SeqAt.EqAt.list_str _ _ p.isList (by omega)
     | _=>cases f2
    | true =>
     have q:dv X.K H a xs:=by unfold mL at q;rwa [Ee rfl]at q
     obtain⟨_,_,p,_⟩:=I.tuple q
     cases x with
     | non=>cases rx;exact SeqAt.EqAt.tuple_none p (by omega)
     | int _=>obtain⟨tk,rfl⟩:=rx;exact SeqAt.EqAt.tuple_int _ _ p (by omega)
     | str _=>obtain⟨tk,rfl⟩:=rx;exact SeqAt.EqAt.tuple_str _ _ p (by omega)
     | _=>cases f2
   ·cases rx
    by_cases hab:a=a'
    ·subst hab
     exact⟨true,by rw[RD.inj I h1 h2];simp,SeqAt.EqAt.same _⟩
    ·obtain⟨k,hk,hr⟩:=y6 I n (A:=A) (by omega) h1 h2 (fun hu'=>ih hu')
     exact⟨k,hk,.of_refs hab hr⟩
end
inductive DK (K:PySem.W.Frag) (n:Nat) (neg:Bool) (x y:V) (H:Hp) (Q:VK):Prop
 | mk (a b:Addr) (d e:Dt) (e1:x=.ref a) (e2:y=.ref b) (r1:RD K H (n+1) x d) (r2:RD K H (n+1) y e) (h:∀ k:Bool,(k=true↔d=e)->Q (.bl (if neg then !k else k)) H):DK K n neg x y H Q
def Cw (K:PySem.W.Frag)(n:Nat)(neg:Bool):R2:=fun x y H Q=>DK K n neg x y H Q
section
variable {X:Cx}
theorem vo (n:Nat)(hu:X.A.units+n<cLine):m5 X (compareOp .Eq) (Cw X.K n false):=by
 intro pins s σ H x y v u Q I rx ry h;obtain⟨a,b,d,e,rfl,rfl,h1,h2,q⟩:=h;cases rx;cases ry;obtain⟨k,hk,hr⟩:=y6 I n (A:=X.A) hu h1 h2 (fun hu'=>yl I n hu');exact hr _ _ _ _ ⟨.bl k,H,I,rfl,q k hk⟩
theorem rK (n:Nat)(hu:X.A.units+n<cLine):m5 X (compareOp .NotEq) (Cw X.K n true):=by
 intro pins s σ H x y v u Q I rx ry h;obtain⟨a,b,d,e,rfl,rfl,h1,h2,q⟩:=h;cases rx;cases ry;obtain⟨k,hk,hr⟩:=y7 I n (A:=X.A) hu h1 h2 (fun hu'=>yl I n hu');exact hr _ _ _ _ ⟨.bl (!k),H,I,rfl,q k hk⟩
end
end L2
namespace Wz
open PySem L2
def iH (c:Int):Int:=if c<0 then -c else c
def gu (ns:List Int)(k:Int):Int:=if k<(ns.length:Int) then ns.getD k.toNat 0 else 0
def uN (k c:Int):Int :=
 let left:=iH c
 let number:=(k*(1+left*1234567891%2147483646)+left/2147483646)%2147483647
 if left%5=4 then number+997852516353 else number
def dk (l:List (Int×Int)):List (bR×V):=l.map fun p=>(Sum.inl p.1,V.int p.2)
def look:List (Int×Int)->Int->Option Int
 | [],_=>none
 | p::r,g=>if p.1=g then some p.2 else look r g
def put (l:List (Int×Int))(g m:Int):List (Int×Int):=if (l.any fun p=>decide (p.1=g))=true then l.map (fun p=>if p.1=g then (p.1,m) else p) else l++[(g,m)]
def wr (l:List (Int×Int))(g:Int):Int:=(look l g).getD g
def aD (l:List (Int×Int)):List Int:=l.map (·.1)
def bK (l:List (Int×Int)):List Int:=(gU (aD l)).filter fun g=>decide (wr l g≠g)
def u8 (l:List (Int×Int)):List (Int×Int):=(bK l).map fun g=>(g,wr l g)
theorem dM:∀ (l:List (Int×Int))(g:Int),db (dk l) (Sum.inl g:bR)=(look l g).map V.int
 | [],_=>rfl
 | p::r,g=>by
  by_cases h:p.1=g
  ·have e:db (dk (p::r)) (Sum.inl g:bR)=some (V.int p.2):=ji (p:=(Sum.inl p.1,V.int p.2)) (r:=dk r) (by rw[h])
   rw[e];simp[look,h]
  ·have e:db (dk (p::r)) (Sum.inl g:bR)=db (dk r) (Sum.inl g):=jh (p:=(Sum.inl p.1,V.int p.2)) (r:=dk r) (fun z=>h (Sum.inl.inj z))
   rw[e,dM r g];simp[look,h]
theorem A1 (l:List (Int×Int))(g:Int):((dk l).any fun kv=>decide (kv.1=(Sum.inl g:bR)))=l.any fun p=>decide (p.1=g):=by
 unfold dk;rw[List.any_map]
 congr 1
 funext p
 simp[Function.comp]
theorem jt (l:List (Int×Int))(g m:Int):fb (dk l) (Sum.inl g:bR) (V.int m)=dk (put l g m):=by
 unfold fb put;rw[A1]
 by_cases h:(l.any fun p=>decide (p.1=g))=true
 ·rw[Ee h,Ee h]
  unfold dk;rw[Fi,Fi]
  apply F4
  intro p _;simp only[Function.comp]
  by_cases e:p.1=g
  ·rw[Ee (by rw[e]),Ee e]
  ·rw[Ed (fun z=>e (Sum.inl.inj z)),Ed e]
 ·rw[Ed h,Ed h]
  unfold dk;simp
theorem oK (l:List (Int×Int))(g:Int):(l.any fun p=>decide (p.1=g))=(look l g).isSome:=by
 induction l with
 | nil=>rfl
 | cons p r ih =>
  rw[F8,ih]
  show _=(if p.1=g then some p.2 else look r g).isSome
  by_cases h:p.1=g<;>simp[h]
theorem bU {l:List (Int×Int)}{g:Int}:(look l g).isSome=true↔g∈aD l:=by
 rw[<-oK,List.any_eq_true];unfold aD;simp
theorem yD (l:List (Int×Int))(g m h:Int):look (l.map (fun p=>if p.1=g then (p.1,m) else p)) h=if h=g then (look l g).map (fun _=>m) else look l h:=by
 induction l with
 | nil=>simp[look]
 | cons p r ih =>
  rw[EF]
  by_cases hp:p.1=g
  ·rw[Ee hp]
   show (if p.1=h then some m else look _ h)=_
   rw[ih]
   by_cases hh:h=g
   ·subst hh;simp[hp,look]
   ·have:¬ p.1=h:=fun z=>hh (z.symm.trans hp)
    simp[hh,this,look]
  ·rw[Ed hp]
   show (if p.1=h then some p.2 else look _ h)=_
   rw[ih]
   by_cases hh:h=g
   ·subst hh;simp[hp,look]
   ·simp[hh,look]
theorem sW (l r:List (Int×Int))(h:Int):look (l++r) h=(look l h).orElse fun _=>look r h:=by
 induction l with
 | nil=>rfl
 | cons p l ih =>
  show (if p.1=h then some p.2 else look (l++r) h)=_
  rw[ih]
  by_cases e:p.1=h<;>simp[look,e]
theorem bE (l:List (Int×Int))(g m h:Int):look (put l g m) h=if h=g then some m else look l h:=by
 unfold put;rw[oK]
 by_cases e:(look l g).isSome=true
 ·rw[Ee e,yD]
  obtain⟨v,hv⟩:=EL.mp e
  by_cases hh:h=g
  ·simp[hh,hv]
  ·simp[hh]
 ·rw[Ed e,sW]
  have hn:look l g=none:=by simpa using e
  by_cases hh:h=g
  ·subst hh;simp[hn,look]
  ·have:¬ g=h:=fun z=>hh z.symm
   simp[hh,look,this]
theorem sQ (l:List (Int×Int))(g m:Int):aD (put l g m)=if g∈aD l then aD l else aD l++[g]:=by
 unfold put;rw[oK]
 by_cases e:(look l g).isSome=true
 ·rw[Ee e,Ee (bU.mp e)]
  unfold aD;rw[Fi]
  apply F4
  intro p _;simp only[Function.comp];split<;>rfl
 ·rw[Ed e,Ed (fun z=>e (bU.mpr z))]
  simp[aD]
theorem ri (l:List (Int×Int))(g m:Int):(put l g m).length<=l.length+1:=by
 unfold put;split<;>simp
theorem eC:∀ {l m:List Int},l.Nodup->(∀ x∈l,x∈m)->l.length<=m.length
 | [],_,_,_=>EK _
 | a::r,m,h,hs=>by
  obtain⟨h1,h2⟩:=EQ.mp h;have ha:a∈m:=hs a Ep;have hl:(m.erase a).length=m.length-1:=List.length_erase_of_mem ha;have hpos:0<m.length:=List.length_pos_of_mem ha;have ih:=eC (l:=r) (m:=m.erase a) h2 fun x hx=>(List.mem_erase_of_ne (show x≠a from fun e=>h1 (by rw[<-e];exact hx))).mpr (hs x (Ek _ hx));rw[EO];omega
theorem qp {l:List Int}{x:Int}:x∈gU l↔x∈l:=(F3 l _).mem_iff
theorem qo (l:List Int):(gU l).length=l.length:=(F3 l _).length_eq
theorem uY (l:List (Int×Int)):(dk l).length=l.length:=by unfold dk;simp
def aK (P:Program)(w:World)(K:PySem.W.Frag)(mg:Str->Option Value)(base:Heap)(x:Str)(k:Nat)(ps:List Str)(sp:Sp):Prop :=
 ∃ (f:Addr)(fd:FuncData),aW P w K mg base dB k f fd ps sp/\mg x=some (.ref f)/\PySem.W.keepIn K (.ref f)=true/\d8 K fd ps []
theorem bV {X:Cx}{x:Str}{k:Nat}{ps:List Str}{sp:Sp}{e:Expr}{es:List Expr}{t:TA}{p pos:Pos}(C:aK X.prog X.w X.K X.mg X.base x k ps sp)(hr:b8 k X.A)(hg:Gl X x)(ha:PA X (e::es) t)
  (hdb:(x == ("__debug__" : Str))=false:=by decide) (he:starEach (e::es) X.env=(false,eval e X.env)::starEach es X.env:=by rfl) (hpl:(backTo pos (starEach es X.env)).any (·.1)=false:=by rfl) :
  PE X (.Call (.Name x p) (e::es) [] pos) (zi sp [] E0 t):=by
 obtain⟨f,fd,G,hm,hk,hb⟩:=C;exact wD G hr hg hm hk hb .nil fM ha hdb he hpl
def dD (H:Hp)(l:Addr)(ps:List (Int×Int)):Prop:=∃ as:List Addr,H l=some (.lst (as.map V.ref))/\Paired (fun a (p:Int×Int)=>H a=some (.tup [.int p.1,.int p.2])) as ps
theorem dD.mono {H H':Hp}{l:Addr}{ps:List (Int×Int)}(r:dD H l ps)(s:aF H H'):dD H' l ps:=by
 obtain⟨as,h,p⟩:=r;exact⟨as,s _ _ h,Paired.mapP p fun a q z=>s _ _ z⟩
theorem ao {H:Hp}{l:Addr}{o:HO}(h:H l=none):aF H (upd H l o):=fun b u e=>by rw[ae (ak e h)];exact e
theorem c8 {H H':Hp}{l:Addr}{o:HO}(s:aF H H')(h:H l=none):aF H (upd H' l o):=fun b u e=>by rw[ae (ak e h)];exact s b u e
theorem bj {α β:Type}{F:α->β->Prop}:∀ {l:List α}{m:List β}{i:Nat}{a:α},Paired F l m->l[i]? = some a->∃ b,m[i]? = some b/\F a b
 | _,_,_,_,.nil,h=>by simp at h
 | _,_,0,_,.cons r _,h=>by simp at h;subst h;exact⟨_,rfl,r⟩
 | _,_,i+1,a,.cons _ t,h=>by
  obtain⟨b,e1,e2⟩:=bj (i:=i) (a:=a) t (by simpa using h);exact⟨b,by simpa using e1,e2⟩
theorem be {α β:Type}{F:α->β->Prop}:∀ {l l':List α}{m m':List β},Paired F l m->Paired F l' m'->Paired F (l++l') (m++m')
 | _,_,_,_,.nil,s=>s
 | _,_,_,_,.cons r t,s=>.cons r (be t s)
theorem cO {α β:Type}{f:α->β}{l:List α}{i:Nat}{y:β}(h:(l.map f)[i]? = some y):∃ x,l[i]? = some x/\y=f x:=by
 rw[List.getElem?_map]at h
 cases e:l[i]? with
 | none=>rw[e]at h;cases h
 | some x=>rw[e]at h;exact⟨x,rfl,(Ei h).symm⟩
theorem xW {α:Type}{l:List α}{i:Nat}{x:α}(h:l[i]? = some x):l.take (i+1)=l.take i++[x]:=by
 rw[EU,h];rfl
theorem nA {te:TE}{a:Addr}{D:k6}{σ:St}{H:Hp}(h:te σ H fun y H2=>∃ ys,H2 a=some (.lst ys)/\ys.length<sizeLine/\D.nx σ (upd H2 a (.lst (ys++[y])))):BG zj te a D σ H:=by
 unfold BG zj;dsimp only;rw[Ee rfl];exact h
theorem BH {tt:TT}{te:TE}{a:Addr}{D:k6}{σ:St}{H:Hp}(h:tt σ H fun b H1=>if b=true then te σ H1 fun y H2=>∃ ys,H2 a=some (.lst ys)/\ys.length<sizeLine/\D.nx σ (upd H2 a (.lst (ys++[y]))) else D.nx σ H1):BG tt te a D σ H:=h
inductive rZ (K:PySem.W.Frag) (vs:List V) (H:Hp) (Q:VK) (E_:XK):Prop
 | mk (a:Addr) (ns:List Int) (k:Int) (h_0:vs=[.ref a,.int k]) (h_1:bz K H a (ns.map V.int)) (h_2:0<=k) (h_3:Q (.int (gu ns k)) H):rZ K vs H Q E_
inductive pz (vs:List V) (H:Hp) (Q:VK) (E_:XK):Prop
 | mk (c:Int) (h_0:vs=[.int c]) (h_1:Q (.int (iH c)) H):pz vs H Q E_
inductive nw (vs:List V) (H:Hp) (Q:VK) (E_:XK):Prop
 | mk (c m b:Int) (h_0:vs=[.int c,.int m,.int b]) (h_1:(0<=m/\m<=1000)) (h_2:(0<b/\b<1073741824)) (h_3:∀ (l:Addr)(ds:List Int),H l=none->(∀ d∈ds,0<=d/\d<b)->(ds.length:Int)<=m->Q (.ref l) (upd H l (.lst (ds.map V.int)))):nw vs H Q E_
inductive sd (K:PySem.W.Frag) (vs:List V) (H:Hp) (Q:VK) (E_:XK):Prop
 | mk (a:Addr) (ns:List Int) (st m b:Int) (h_0:vs=[.ref a,.int st,.int m,.int b]) (h_1:bz K H a (ns.map V.int)) (h_2:(0<=st/\st<=63)) (h_3:(0<=m/\m<=1000)) (h_4:(0<b/\b<1073741824)) (h_5:∀ (l:Addr)(H':Hp)(ds:List Int),H l=none->aF H H'->H' l=some (.lst (ds.map V.int))->(∀ d∈ds,0<=d/\d<b)->(ds.length:Int)<=m->Q (.ref l) H'):sd K vs H Q E_
inductive kR (vs:List V) (H:Hp) (Q:VK) (E_:XK):Prop
 | mk (k c:Int) (h_0:vs=[.int k,.int c]) (h_1:(0<=k/\k<=1000000)) (h_2:Q (.int (uN k c)) H):kR vs H Q E_
inductive nz (vs:List V) (H:Hp) (Q:VK) (E_:XK):Prop
 | mk (i:Int) (h_0:vs=[.int i]) (h_1:Q (.bl true) H):nz vs H Q E_
inductive ny (vs:List V) (H:Hp) (Q:VK) (E_:XK):Prop
 | mk (a:Addr) (p:Int×Int) (h_0:vs=[.ref a]) (h_1:H a=some (.tup [.int p.1,.int p.2])) (h_2:Q (.bl true) H):ny vs H Q E_
inductive se (vs:List V) (H:Hp) (Q:VK) (E_:XK):Prop
 | mk (l:Addr) (ps:List (Int×Int)) (h_0:vs=[.ref l]) (h_1:dD H l ps) (h_2:ps.length<=1000) (h_3:∀ H',aF H H'->Q (.bl true) H'):se vs H Q E_
def wC (p:Int×Int):Dt:=.sq true [.at (.int p.1),.at (.int p.2)]
def xS (ps:List (Int×Int)):Dt:=.sq false (ps.map wC)
theorem vt {K:PySem.W.Frag}{H:Hp}{l:Addr}{ps:List (Int×Int)}(r:dD H l ps):RD K H 2 (.ref l) (xS ps):=by
 obtain⟨as,h,p⟩:=r;refine RD.lst (bz.of h) ?_;clear h
 induction p with
 | nil=>exact .nil
 | cons h _ ih=>exact .cons (RD.tup (dv.of h) (.cons (RD.flat rfl 0) (.cons (RD.flat rfl 0) .nil))) ih
theorem xM {p q:Int×Int}(h:wC p=wC q):p=q:=by
 unfold wC at h;injection h with _ h;injection h with h1 h2;injection h2 with h2 _;injection h1 with h1;injection h2 with h2;injection h1 with h1;injection h2 with h2;exact FZ h1 h2
theorem zd:∀ {ps qs:List (Int×Int)},xS ps=xS qs->ps=qs:=by
 intro ps qs h;unfold xS at h;injection h with _ h;revert qs
 induction ps with
 | nil=>intro qs h;cases qs with | nil=>rfl | cons _ _=>cases h
 | cons p ps ih =>
  intro qs h
  cases qs with
  | nil=>cases h
  | cons q qs =>
   rw[EF,EF]at h;injection h with h1 h2;rw[xM h1,ih h2]
theorem zc {ps qs:List (Int×Int)}:xS ps=xS qs↔ps=qs:=⟨zd,fun h=>by rw[h]⟩
def Cp (ns:List Int):Dt:=.sq false (ns.map fun n=>.at (.int n))
theorem xD (w:List (Int×Int)):(u8 w).length<=w.length:=by
 unfold u8 bK;rw[Eg];refine EI (Fz _ _) ?_;rw[qo];unfold aD;rw[Eg];exact Eh _
theorem qF (w:List (Int×Int)):(bK w).length<=w.length:=by have:=xD w;unfold u8 at this;rwa [Eg]at this
end Wz
namespace L2
open PySem PySem.Spec PyProof.Rows
def A0 (g B:Heap)(e:Addr)(c:Value)(od:Option Addr)(fl:Value):Prop :=
 ∃ oe us T oT ts,g.get? e=some oe/\(oe.cls=c/\oe.dict=od)/\oe.data=.fields us/\us[1]? = some (.ref T)/\B.get? T=none/\T≠e/\g.get? T=some oT/\oT.data=.fields ts/\ts[3]? = some fl
def zC (B:Heap)(l:List Env)(e:Addr)(c:Value)(od:Option Addr)(g:Heap):Prop:=B.StaysIn g/\B.get? e=none/\g.FunFrames B l/\A0 g B e c od .none
theorem zM (f:Array Value->Array Value)(o:Obj):(Obj.mapFields f o).dict=o.dict:=by
 unfold Obj.mapFields;split<;>rfl
section
variable {M:Model}{A:Around}{E:Value->Shared->Prop}{s:Shared}{B:Heap}{env:Env}{outer:List Env}{L e:Addr}{od:Option Addr}{c:Value}
def CV (g g':Heap):Prop:=∀ b o,g.get? b=some o->(∀ us,o.data≠.fields us)->∃ sl,g'.get? b=some { o with slots:=sl }
theorem yk {oe:Obj}{us:Array Value}{head:Value}{hn:Bool}{Q:Unit->Shared->Prop}(fr:A.frames=some (env::outer))(hl:s.heap.FunFrames B (env::outer))(hf:env.frame=some L)
  (he:s.heap.get? e=some oe) (hk:B.StaysIn s.heap) (hb:B.get? e=none) (hd:oe.data=.fields us) (h1:1<us.size)
  (h:∀ g,B.StaysIn g->g.FunFrames B (env::outer)->A0 g B e oe.cls oe.dict (rawInt L)->CV s.heap g->Q () { s with heap:=g }) :
  wpAny M A (do let a <-frameOf env;let pl <-entryPlaceOf L hn;let b <-EntryCells.newEntry head a .none (rawInt L) .none pl;setField (.ref e) 1 b) Q E s:=by
 have hne:e∉(env::outer).filterMap (·.frame):=fun z=>by
  obtain⟨_,o,ho,nf⟩:=hl.mem z;rw[he]at ho;cases ho;exact nf us hd
 refine Ef (wpAny_frameOf_fun fr hl hf fun g1 sl1=>Ef (wpAny_entryPlaceOf fun pl hpl=>?_));unfold EntryCells.newEntry newFields;refine Ef (Fw ?_ (hpl.sizeOk5 _ _ _ _ _));have e1:g1.get? e=some oe:=(sl1.2.1 e hne).trans he;have k1:B.StaysIn g1:=fun b o q=>(sl1.2.1 b fun z=>by rw[(hl.mem z).1]at q;cases q).trans (hk b o q);generalize hob:({ cls:=.type "traceback",dict:=none,data:=.fields ([head,.ref L,.none,rawInt L,.none]++(if pl.isEmpty then List.replicate 6 Value.none else pl)).toArray }:Obj)=ob
 have obd:ob.data=.fields ([head,.ref L,.none,rawInt L,.none]++(if pl.isEmpty then List.replicate 6 Value.none else pl)).toArray:=by rw[<-hob]
 have e2:=Heap.get?_push_of_some (h:=g1) ob e1;refine wpAny_setField e2 hd h1 ?_;have ne:g1.objs.size≠e:=Nat.ne_of_gt (Em e1);have d3:=Obj.data_mapFields hd (·.setIfInBounds 1 (Value.ref g1.objs.size));have e3:=Heap.get?_update_self (Obj.mapFields (·.setIfInBounds 1 (Value.ref g1.objs.size))) e2 (Obj.isFreed_of_fields d3)
 have keep:∀ b o,b≠e->g1.get? b=some o->((g1.push ob).update e (Obj.mapFields (·.setIfInBounds 1 (Value.ref g1.objs.size)))).get? b=some o:=fun b o n q=>by
  rw[Heap.get?_update_other _ _ (Ex n)];exact Heap.get?_push_of_some _ q
 have nr:∀ b o,s.heap.get? b=some o->(∀ vs,o.data≠.fields vs)->b≠e:=fun b o q nf z=>by
  rw[z,he]at q;cases q;exact nf us hd
 refine h _ (fun b o q=>keep b o (fun z=>by rw[z,hb]at q;cases q) (k1 b o q)) (hl.of_keeps fun b o q nf=>?_) ?_ fun b o q nf=>?_
 ·obtain⟨sl,z⟩:=sl1.2.2 b o q
  exact⟨_,keep b _ (nr b o q nf) z,rfl⟩
 ·refine⟨_,_,g1.objs.size,ob,_,e3,⟨Obj.cls_mapFields _ _,zM _ _⟩,d3,by simp[h1],k1.fresh,ne,?_,obd,by first | (simp;done) | (rcases hpl with rfl | ⟨_,_,_,_,_,_,_,rfl⟩<;>simp)⟩
  rw[Heap.get?_update_other _ _ (Ex ne)];exact Heap.get?_push_size g1 (by rw[<-hob];rfl)
 ·obtain⟨sl,z⟩:=sl1.2.2 b o q
  exact⟨sl,keep b _ (nr b o q nf) z⟩
theorem tP {oe:Obj}{us:Array Value}{Q:Unit->Shared->Prop}(fr:A.frames=some (env::outer))(hl:s.heap.FunFrames B (env::outer))(hf:env.frame=some L)
  (he:s.heap.get? e=some oe) (hk:B.StaysIn s.heap) (hb:B.get? e=none) (hd:oe.data=.fields us) (h1:us[1]? = some .none)
  (h:∀ g,B.StaysIn g->g.FunFrames B (env::outer)->A0 g B e oe.cls oe.dict (rawInt L)->CV s.heap g->Q () { s with heap:=g }):wpAny M A (noteFrame (.ref e) env) Q E s:=by
 unfold noteFrame;simp only[hf];refine Ef (Ga he hd h1 ?_);rw[Ed (by decide)];exact yk fr hl hf he hk hb hd (Array.getElem?_eq_some_iff.mp h1).1 h
theorem vg {Q:Unit->Shared->Prop}(fr:A.frames=some (env::outer))(hl:s.heap.FunFrames B (env::outer))(hf:env.frame=some L)(ht:A0 s.heap B e c od .none)(hk:B.StaysIn s.heap)(hb:B.get? e=none)
  (h:∀ g,B.StaysIn g->g.FunFrames B (env::outer)->A0 g B e c od (rawInt L)->CV s.heap g->Q () { s with heap:=g }):wpAny M A (noteFrame (.ref e) env) Q E s:=by
 obtain⟨oe,us,T,oT,ts,he,⟨rfl,rfl⟩,hd,h1,nT,ne,hT,dT,h3⟩:=ht;unfold noteFrame;simp only[hf];refine Ef (Ga he hd h1 ?_);rw[Ee (show (Value.ref T != Value.none)=true by simp)];refine Ef (Ga hT dT h3 ?_);rw[Ed (show ¬((Value.none == rawInt L)=true) by simp[rawInt])];refine Ef (wpAny_setField hT dT (Array.getElem?_eq_some_iff.mp h3).1 ?_);have ot:∀ b,b≠T->(s.heap.update T (Obj.mapFields (·.setIfInBounds 3 Value.none))).get? b=s.heap.get? b:=fun b z=>Heap.get?_update_other _ _ (Ex z)
 have nr:∀ b o,s.heap.get? b=some o->(∀ vs,o.data≠.fields vs)->b≠T:=fun b o q nf z=>by
  rw[z,hT]at q;cases q;exact nf ts dT
 refine yk fr (hl.of_keeps fun b o q nf=>⟨o,(ot b (nr b o q nf)).trans q,rfl⟩) hf ((ot e (Ex ne)).trans he) (fun b o q=>(ot b fun z=>by rw[z,nT]at q;cases q).trans (hk b o q)) hb hd (Array.getElem?_eq_some_iff.mp h1).1 fun g a1 a2 a3 a4=>h g a1 a2 a3 fun b o q nf=>?_;exact a4 b o ((ot b (nr b o q nf)).trans q) nf
theorem we {l:List Env}{fl:Value}{Q:Unit->Shared->Prop}(hk:B.StaysIn s.heap)(hl:s.heap.FunFrames B l)(ht:A0 s.heap B e c od fl)
  (h:∀ g,B.StaysIn g->g.FunFrames B l->A0 g B e c od .none->s.heap.UpToSlots g->Q () { s with heap:=g }):wpAny M A (setFlight (.ref e) none) Q E s:=by
 obtain⟨oe,us,T,oT,ts,he,hc,hd,h1,nT,ne,hT,dT,h3⟩:=ht;have z3:3<ts.size:=(Array.getElem?_eq_some_iff.mp h3).1;have ot:∀ b,b≠T->(s.heap.update T (Obj.mapFields (·.setIfInBounds 3 ((none:Option Addr).elim Value.none fun f=>rawInt f)))).get? b=s.heap.get? b:=fun b z=>Heap.get?_update_other _ _ (Ex z)
 have nr:∀ b o,s.heap.get? b=some o->(∀ vs,o.data≠.fields vs)->b≠T:=fun b o q nf z=>by
  rw[z,hT]at q;cases q;exact nf ts dT
 unfold setFlight;refine Ef (Ga he hd h1 ?_);rw[Ee (show (Value.ref T != Value.none)=true by simp)];refine wpAny_setField hT dT z3 (h _ (fun b o q=>(ot b fun z=>by rw[z,nT]at q;cases q).trans (hk b o q)) (hl.of_keeps fun b o q nf=>⟨o,(ot b (nr b o q nf)).trans q,rfl⟩) ?_ fun b o q nf=>⟨o.slots,(ot b (nr b o q nf)).trans q⟩);exact⟨oe,us,T,_,_,(ot e (Ex ne)).trans he,hc,hd,h1,nT,ne,Heap.get?_update_self _ hT (Obj.isFreed_of_fields (Obj.data_mapFields dT _)),Obj.data_mapFields dT _,by simp[z3]⟩
theorem y9 {g g' g'':Heap}(a:CV g g')(b:g'.UpToSlots g''):g.UpToSlots g'':=fun x o q nf=>by
 obtain⟨sl,z⟩:=a x o q nf;obtain⟨sl2,z2⟩:=b x _ z nf;exact⟨sl2,z2⟩
theorem rh {oe:Obj}{us:Array Value}{Q:Unit->Shared->Prop}(fr:A.frames=some (env::outer))(hf:env.frame=some L)(hk:B.StaysIn s.heap)(hl:s.heap.FunFrames B (env::outer))
  (he:s.heap.get? e=some oe) (hb:B.get? e=none) (hd:oe.data=.fields us) (h1:us[1]? = some .none)
  (hq:∀ g,zC B outer e oe.cls oe.dict g->s.heap.UpToSlots g->Q () { s with heap:=g }):wpAny M A (leaving env (.ref e)) Q E s:=by
 unfold leaving;refine Ef (tP fr hl hf he hk hb hd h1 fun g a1 a2 a3 a4=>?_);exact we (s:={ s with heap:=g }) a1 a2 a3 fun g2 b1 b2 b3 b4=>hq g2 ⟨b1,hb,b2.2.2,b3⟩ (y9 a4 b4)
theorem uX {Q:Unit->Shared->Prop}(fr:A.frames=some (env::outer))(hf:env.frame=some L)(fl:zC B (env::outer) e c od s.heap)
  (hq:∀ g,zC B outer e c od g->s.heap.UpToSlots g->Q () { s with heap:=g }):wpAny M A (leaving env (.ref e)) Q E s:=by
 obtain⟨f1,f2,f3,f4⟩:=fl;unfold leaving;refine Ef (vg fr f3 hf f4 f1 f2 fun g a1 a2 a3 a4=>?_);exact we (s:={ s with heap:=g }) a1 a2 a3 fun g2 b1 b2 b3 b4=>hq g2 ⟨b1,f2,b2.2.2,b3⟩ (y9 a4 b4)
end
abbrev uz:List Value:=[.type "ValueError",.type "Exception",.type "BaseException",.type "object"]
def exOb (C t:Addr)(od:Option Addr):Obj:={ cls:=.ref C,dict:=od,data:=.fields #[.ref t,.none,.none,.none,.bool false,.none] }
def gR:List Value->Bool
 | .ref _::r=>gR r
 | l=>l == uz
theorem mE (self:Value):∀ {l:List Value},gR l=true->refuseLoop self "__setattr__" l=pure ()
 | .ref c::r,e=>by rw[refuseLoop_ref];exact mE self (l:=r) e
 | [],e=>by cases e
 | .type a::r,e=>by rw[show (.type a::r:List Value)=uz from FO.mp e];exact PySem.F.store_ValueError.passes self
 | .none::_,e=>by simp[gR,uz]at e
 | .bool _::_,e=>by simp[gR,uz]at e
 | .int _ _::_,e=>by simp[gR,uz]at e
 | .str _ _::_,e=>by simp[gR,uz]at e
 | .bytes _ _::_,e=>by simp[gR,uz]at e
 | .float _ _::_,e=>by simp[gR,uz]at e
 | .builtin _::_,e=>by simp[gR,uz]at e
 | .ellipsis::_,e=>by simp[gR,uz]at e
 | .notImplemented::_,e=>by simp[gR,uz]at e
def jQ (K:PySem.W.Frag)(C fI:Addr):Bool:=match K.lookup C with
 | some ⟨.type "type",_,.cls cd,sl⟩=>(match cd.mro,sl.toList with
  | .ref D::bm,[_,_,_,_,some (.builtin n),_]=>D == C&&n == "ValueError.__new__"&&!cd.hasDel&&PySem.W.tailIn K uz bm&&PySem.W.nsOkIn K cd.ns&&PySem.W.nsIn K cd.ns "__init__" == some (some (.ref fI))
  | _,_=>false)
 | _=>false
theorem vh {K:PySem.W.Frag}{h:Heap}{N:Addr}{mg:Str->Option Value}{n:Str}{v:Value}(X:K.In h)(G:h.Ns N mg)(e:PySem.W.nsIn K N n=some (some v)):mg n=some v:=by
 obtain⟨o,es,ep,ho,hd,hk,hf⟩:=G;unfold PySem.W.nsIn at e;split at e
 ·rename_i oc od es2 n2 sl hl
  have:=X _ _ hl;rw[ho]at this;cases this;cases hd;split at e
  ·rename_i en he
   cases e;rw[<-hf n];unfold nsFind findBy;rw[<-Array.find?_toList,he];rfl
  ·split at e<;>cases e
 ·cases e
theorem sN {K:PySem.W.Frag}{h:Heap}{C fI:Addr}(X:K.In h)(q:jQ K C fI=true) :
  ∃ bm N nm qn bs hdct sn sub ab col dd k0 k1 k2 k3 k5 mN,h.get? C=some (excClassObj nm qn C N bs bm hdct sn sub ab col dd k0 k1 k2 k3 k5 "ValueError.__new__")/\h.Ns N mN/\mN "__init__" = some (.ref fI)/\OwnTail h uz bm:=by
 unfold jQ at q;split at q
 ·rename_i dd cd sl ho
  split at q
  ·rename_i D bm k0 k1 k2 k3 n k5 hm hs
   simp only[Fy,FO,Gc]at q;obtain⟨⟨⟨⟨⟨rfl,rfl⟩,hdel⟩,ht⟩,hok⟩,hni⟩:=q;obtain⟨nm,bs,mro,ns,qn,hd,sn,sub,ab,col,del⟩:=cd;dsimp only at hm hdel hok hni;subst hm hdel
   have hsl:sl = #[k0,k1,k2,k3,some (.builtin "ValueError.__new__"),k5]:=by
    obtain⟨l⟩:=sl;simp only at hs;rw[hs]
   subst hsl;have G:h.Ns ns _:=.of_isNs (PySem.W.isNs_of_in X hok);exact⟨bm,ns,nm,qn,bs,hd,sn,sub,ab,col,dd,k0,k1,k2,k3,k5,_,X _ _ ho,G,vh X G hni,PySem.W.tail_of_in X ht⟩
  ·cases q
 ·cases q
structure Db (K:PySem.W.Frag)(C:Addr)(f:Str):Prop where
 ga:PySem.W.findIn K (.ref C) "__getattribute__" = some (some (.builtin "BaseException.__getattribute__"))
 gh:PySem.W.findIn K (.ref C) "__getattr__" = some none
 sa:PySem.W.findIn K (.ref C) "__setattr__" = some (some (.builtin "object.__setattr__"))
 na:PySem.W.findIn K (.ref C) f=some none
 hd:PySem.W.hasDictIn K C=true
 mb:PySem.W.mroIn K C (.type "BaseException")=some true
 mo:PySem.W.mroIn K C (.type "object")=some true
 ov:((PySem.W.clsIn K C).any fun cd=>gR cd.mro)=true
section
variable {prog:Program}{w:World}{A:Around}{E:Value->Shared->Prop}{s:Shared}{K:PySem.W.Frag}{x dx C:Addr}{mA:Str->Option Value}{f:Str}{v:Value}
theorem Bh {t:Addr}{Q:Unit->Shared->Prop}(X:K.In s.heap)(c:Db K C f)(hx:s.heap.get? x=some (exOb C t none))
  (h:∀ h' tk,h'.get? x=some (exOb C t (some s.heap.objs.size))->h'.Ns1 s.heap.objs.size (fun y=>if y=f then some v else none)->(∀ b o,b≠x->s.heap.get? b=some o->h'.get? b=some o)->Q () { s with heap:=h',toks:=tk }) :
  wpAny (model prog w) A (setAttr (.ref x) f v) Q E s:=by
 have J:PySem.W.InstAt s.heap x (exOb C t none) C none:=⟨hx,rfl,rfl,trivial⟩;have SF:=PySem.F.store_ValueError;obtain⟨cd,hcd,ho⟩:=PySem.W.any_some c.ov;obtain⟨cd',hcd',hd'⟩:=PySem.W.any_some c.hd
 have e0:cd'=cd:=by rw[hcd]at hcd';exact (Ei hcd').symm
 subst e0;have L0:=J.type (M:=model prog w);have sub:PySem.W.Looks (model prog w) s.heap (isInstance (.ref x) (.type "object")) true:=L0.andThen (PySem.W.looks_mroIn X c.mo);have hm:PySem.W.Looks (model prog w) s.heap (mroOf (.ref C)) cd'.mro:=(PySem.W.looks_clsIn X hcd).andThen .now;refine PySem.W.set_plain X J c.sa ?_;refine codeAny_call_builtin SF.slot.plain SF.entry (@PySem.W.check_slot (model prog w) _ _ { s with toks:=s.toks+1 } "object.__setattr__" "object" "__setattr__" (.ref x) [.str f s.toks,v] [] _ SF.kind SF.split sub (SF.args (.ref x) (.str f s.toks) v) ?_);rw[PySem.W.osa_eq,refuse_eq];refine Ef (Ef (L0 _ _ _ _ (fun _ _ e=>e) (Ef (hm _ _ _ _ (fun _ _ e=>e) ?_))));rw[mE _ ho];refine Et (Ef (L0 _ _ _ _ (fun _ _ e=>e) (Ef (PySem.W.looks_findIn X c.na _ _ _ _ (fun _ _ e=>e) (Ef (Et ?_))))));refine Ef (Et (Ef (Ef (wpAny_loadPart hx (Ef (PySem.W.Looks.here (s:={ s with toks:=s.toks+1 }) (PySem.W.looks_clsIn X hcd) ?_))))));rw[hd'];rw[Ed (by decide)];have hxs:x≠s.heap.objs.size:=Eu (Em hx);have hx1:(s.heap.push { cls:=.type "dict",data:=.dict #[] }).get? x=some (exOb C t none):=Heap.get?_push_of_some _ hx
 show wpAny (model prog w) A.in1 (alloc { cls:=.type "dict",data:=.dict #[] } >>= fun dA=>(update x fun o=>{ cls:=o.cls,dict:=some dA,data:=o.data,slots:=o.slots }) >>= fun _=>dictMade (Value.ref C) x dA) _ _ _
 refine Ef (wpAny_alloc' (Ef (wpAny_update' hx1 (Et ?_))));generalize hg:((s.heap.push { cls:=.type "dict",data:=.dict #[] }).update x fun o=>{ cls:=o.cls,dict:=some s.heap.objs.size,data:=o.data,slots:=o.slots })=g1
 have hgd:g1.get? s.heap.objs.size=some { cls:=.type "dict",data:=.dict #[] }:=by
  rw[<-hg,Heap.get?_update_ne _ _ _ _ hxs.symm];exact Heap.get?_push_at rfl rfl
 have hgx:g1.get? x=some (exOb C t (some s.heap.objs.size)):=by rw[<-hg];exact Heap.get?_update_self _ hx1 rfl
 have hgo:∀ b o,b≠x->s.heap.get? b=some o->g1.get? b=some o:=fun b o n q=>by rw[<-hg,Heap.get?_update_ne _ _ _ _ n];exact Heap.get?_push_of_some _ q
 have hnd:g1.Ns s.heap.objs.size (fun _=>none):=⟨_,#[],_,hgd,rfl,fun e he=>absurd he (by simp),fun _=>rfl⟩
 show wpAny _ _ (Builtin.ObjectAttr.storeInDict s.heap.objs.size (.str f s.toks) f v) _ _ _
 unfold Builtin.ObjectAttr.storeInDict Builtin.ObjectAttr.newKeyGuard;refine Ef (Et (Ef (wpAny_nsSet1 (Heap.Ns1.of_empty hnd) fun h' hn2 hs2=>?_)));obtain⟨oD,esD,epD,hoD,hdD,hcD⟩:=hn2.count (PySem.Within.cons f v PySem.Within.nil);refine Ef (wpAny_lookBehind hoD (by rw[hdD];exact pastItsLine_dict (EI hcD (by rw[EO,List.length_nil,FD];omega))) ?_);refine Et (h h' _ ((hs2.2 x hxs).trans hgx) hn2 fun b o n q=>?_);exact (hs2.2 b (Eu (Em q))).trans (hgo b o n q)
theorem yI {t fI:Addr}{u:Value}{Q:Value->Shared->Prop}(X:K.In s.heap)(c:jQ K C fI=true)(hx:s.heap.get? x=some (exOb C t none))
  (h:∀ h' t',h'.get? x=some (exOb C t' none)->(∀ b o,b≠x->s.heap.get? b=some o->h'.get? b=some o)->Q .none { s with heap:=h' }) :
  wpAny (model prog w) A (call (.builtin "ValueError.__init__") [.ref x,u]) Q E s:=by
 have F:=F0;obtain⟨bm,N,nm,qn,bs,hdct,sn,sub,ab,col,dd,k0,k1,k2,k3,k5,mN,hC,hN,hni,T⟩:=sN X c;obtain⟨hp,g,d,tk,os⟩:=s;refine Gh (codeAny_call_builtin F.init.plain F.initEntry (wpAny_check_init_subT F T hC hx rfl ?_));unfold Builtin.«BaseException.__init__»;dsimp only;rw[Ed (by simp)];unfold newTuple Builtin.BaseException.bexcPut;have hx1:=Heap.get?_push_of_some (h:=hp) { cls:=.type "tuple",data:=.seq #[u] } hx;refine Ef (Fw (Ef (Ef (Ga hx1 rfl rfl (Ef (wpAny_setField hx1 rfl (by show 0<6;decide) ?_))))) (by size_fits));refine wpAny_letGo (Et (h _ hp.objs.size ?_ fun b o n q=>?_))
 ·exact Heap.get?_update_self _ hx1 rfl
 ·rw[Heap.get?_update_other _ _ (Ex n)];exact Heap.get?_push_of_some _ q
end
end L2
namespace PySem
open Sem (wp)
section
variable {prog:Program}{w:World}{A:Around}{E:Value->Shared->Prop}{h:Heap}{g:Array GenState}{d:Drawn}{t:Nat}{os:OsState}
variable {nm q:Str}{C N:Addr}{bs bm bmB:List Value}{hdct:Bool}{sn:List Str}{sub:List Value}{ab:Bool}{col:Option Bool}{dd:Option Addr}{k0 k1 k2 k3 k5:Option Value}{B newId initId:String}
theorem kX (F:ExcBaseFacts B newId initId bmB)(T:OwnTail h bmB bm){mN:Str->Option Value}{rest:List Value}{fI:Addr}{oI:Obj}{Q:Fin->Shared->Prop}
  (hC:h.get? C=some (excClassObj nm q C N bs bm hdct sn sub ab col dd k0 k1 k2 k3 k5 newId)) (hn:h.Ns N mN) (hi:mN "__init__" = some (.ref fI)) (hfI:h.get? fI=some oI) (hfc:oI.cls=.type "function")
  (hq:∀ h' e,Heap.MadeExcOf h h' e (.ref C) rest->wpAny (model prog w) A (call (.ref fI) (.ref e::rest)) (fun r s'=>r=.none/\Q (.done (.ret (.ref e))) s') E ⟨h',g,d,t,os⟩) (hrest:rest.length<=sizeLine) :
  wpAny (model prog w) A (Builtin.«type.__call__» ⟨.ref C::rest,[]⟩) Q E ⟨h,g,d,t,os⟩:=by
 repeat (first | with_reducible refine Gd hC ?_ | with_reducible refine wpAny_madeBy_exc hC ?_ | wp_step)
 refine codeAny_call_builtin_code (Code.quiet_builtin _ F.quiet) (wpAny_check_new_subT F T hC ?_);refine codeAny_exc_new_subT F T hC ?_ hrest
 show wpAny _ _ _ _ _ _
 have keep:∀ b o,h.get? b=some o->((h.push { cls:=.type "tuple",data:=.seq rest.toArray }).push { cls:=.ref C,data:=.fields #[.ref h.objs.size,.none,.none,.none,.bool false,.none] }).get? b=some o:=fun b o e=>Heap.get?_push_of_some _ (Heap.get?_push_of_some _ e);have hC1:=keep _ _ hC;have hn1:=hn.keeps keep
 have hget:((h.push { cls:=.type "tuple",data:=.seq rest.toArray }).push { cls:=.ref C,data:=.fields #[.ref h.objs.size,.none,.none,.none,.bool false,.none] }).get? (h.objs.size+1)=some { cls:=.ref C,data:=.fields #[.ref h.objs.size,.none,.none,.none,.bool false,.none] }:=by heap_get
 have hcC:(Value.ref C::bm).contains (.ref C)=true:=by simp
 have T1:=T.keeps keep;unfold isInstance
 repeat (first | with_reducible refine Gd hget ?_ | (with_reducible refine wpAny_isSubtype_exc hC1 ?_;rw[hcC]) | wp_step)
 show wpAny _ _ (typeLookup (.ref C) _) _ _ _
 refine wpAny_typeLookup_tail hC1 hn1 T1 F.mroIs F.init.lookup ?_;rw[hi];refine FK (Ef ?_);unfold bindSpecial;refine Ef (wpAny_typeOf (T:="function") ⟨_,keep _ _ hfI,hfc⟩ ?_);rw[Ee (by decide)];refine Et (Ef (E4 (hq _ (h.objs.size+1) ⟨keep,Heap.get?_none_of_le (F9 _),h.objs.size,hget,Heap.get?_none_of_le (Eh _),Heap.get?_push_of_some _ (Heap.get?_push_at rfl rfl)⟩) (fun r s' hr=>?_) fun _ _ x=>x));obtain⟨rfl,hQ⟩:=hr
 wp_walk
 exact hQ
theorem sv (F:ExcBaseFacts B newId initId bmB)(T:OwnTail h bmB bm){mN:Str->Option Value}{rest:List Value}{fI:Addr}{oI:Obj}{Q:Value->Shared->Prop}
  (hC:h.get? C=some (excClassObj nm q C N bs bm hdct sn sub ab col dd k0 k1 k2 k3 k5 newId)) (hn:h.Ns N mN) (hi:mN "__init__" = some (.ref fI)) (hfI:h.get? fI=some oI) (hfc:oI.cls=.type "function")
  (hq:∀ h' e,Heap.MadeExcOf h h' e (.ref C) rest->wpAny (model prog w) (A.under (.builtin "type.__call__" ⟨.ref C::rest,[]⟩)) (call (.ref fI) (.ref e::rest)) (fun r s'=>r=.none/\Q (.ref e) s') E ⟨h',g,d,t,os⟩) (hrest:rest.length<=sizeLine) :
  wpAny (model prog w) A (call (.ref C) rest) Q E ⟨h,g,d,t,os⟩:=by
 have f1:=tc_lookup;have f2:=tc_bind (.ref C);have hT:(⟨h,g,d,t,os⟩:Shared).TypeIs (.ref C) "type":=⟨_,hC,rfl⟩;refine Gh (codeAny_of_tree ?_)
 show wpAny _ _ (callAny (.ref C) _) _ _ _
 repeat (any_goals (first | assumption | with_reducible refine Gd hC ?_ | wp_step))
 refine⟨rfl,?_⟩;refine codeAny_call_builtin_at (Code.quiet_builtin _ (by decide +kernel)) entry_typeCall (wpAny_check_type_call_sub hC (kX F T hC hn hi hfI hfc (fun h' e hm=>?_) hrest));exact hq h' e hm
theorem zt {x:Sem Value}{s:Shared}{env:Env}{Q:Flow->Shared->Prop}(hbase:bm.contains (.type "BaseException")=true)(hh:A.handled=none)
  (h:wpAny (model prog w) A x (fun v s1=>∃ e t od,v=.ref e/\s1.heap.get? C=some (excClassObj nm q C N bs bm hdct sn sub ab col dd k0 k1 k2 k3 k5 newId)/\s1.heap.get? e=some (L2.exOb C t od)/\E (.ref e) s1) E s) :
  wpAny (model prog w) A (raiseStmt env (some x) none) Q E s:=by
 have hcB:(Value.ref C::bm).contains (.type "BaseException")=true:=by rw[List.contains_cons,hbase,Bool.or_true]
 unfold raiseStmt;refine Ef (E4 h (fun v s1 h1=>?_) fun _ _ x=>x);obtain⟨e,t,od,rfl,hC,he,hE⟩:=h1;obtain⟨hp,g,d,tk,os⟩:=s1;unfold L2.exOb at he
 repeat (first | with_reducible refine Gd he ?_ | with_reducible refine Gd hC ?_ | (with_reducible refine wpAny_isSubtype_exc hC ?_;rw[hcB]) | wp_step)
 exact wpAny_raiseNew_none hh hE
end
end PySem
namespace L2
open PySem PySem.Spec PyProof.Rows
abbrev gq (K:PySem.W.Frag)(C:Addr):Prop:=PySem.W.excIn K C uz "ValueError.__new__" = true
theorem zS {K:PySem.W.Frag}{h:Heap}{C:Addr}(X:K.In h)(q:gq K C) :
  ∃ bm N nm qn bs hdct sn sub ab col dd k0 k1 k2 k3 k5 mN,h.get? C=some (excClassObj nm qn C N bs bm hdct sn sub ab col dd k0 k1 k2 k3 k5 "ValueError.__new__")/\h.Ns N mN/\mN "__init__" = none/\OwnTail h uz bm:=by
 have q:PySem.W.excIn K C uz "ValueError.__new__" = true:=q;unfold PySem.W.excIn at q;split at q
 ·rename_i dd cd sl ho
  split at q
  ·rename_i C' bm k0 k1 k2 k3 n k5 hm hs
   simp only[Fy,FO,Gc]at q;obtain⟨⟨⟨⟨⟨rfl,rfl⟩,hdel⟩,ht⟩,hok⟩,hni⟩:=q;obtain⟨nm,bs,mro,ns,qn,hd,sn,sub,ab,col,del⟩:=cd;dsimp only at hm hdel hok hni;subst hm hdel
   have hsl:sl = #[k0,k1,k2,k3,some (.builtin "ValueError.__new__"),k5]:=by
    obtain⟨l⟩:=sl;simp only at hs;rw[hs]
   subst hsl;exact⟨bm,ns,nm,qn,bs,hd,sn,sub,ab,col,dd,k0,k1,k2,k3,k5,_,X _ _ ho,.of_isNs (PySem.W.isNs_of_in X hok),PySem.W.nsMap_none_of_in X hok hni,PySem.W.tail_of_in X ht⟩
  ·cases q
 ·cases q
def sM (e C:Addr)(od:Option Addr):HO:=.ext fun h=>∃ t,h.get? e=some (exOb C t od)
theorem uJ {P:Program}{w:World}{H:Hp}{h:Heap}{e C t:Addr}{od:Option Addr}(q:h.get? e=some (exOb C t od)):bD P w H h e (sM e C od):=⟨⟨t,q⟩,⟨_,q⟩,fun h1 h2 ⟨t,q⟩ k=>⟨t,k _ q⟩⟩
def pY (H:Hp)(a:Addr):Hp:=fun b=>if b=a then none else H b
theorem jw {H:Hp}{a b:Addr}(h:b≠a):pY H a b=H b:=by unfold pY;rw[Ed h]
theorem xZ {H:Hp}{a:Addr}:pY H a a=none:=by unfold pY;rw[Ee rfl]
theorem aw.untrack {X:Cx}{pins:List (Addr×Obj)}{σ:St}{H:Hp}{s:Shared}{a:Addr}{φ:Heap->Prop}(I:aw X pins σ H s)(e:H a=some (.ext φ)):aw X pins σ (pY H a) s:=by
 have ne:∀ b o,H b=some o->(∀ ψ,o≠.ext ψ)->b≠a:=fun b o q n z=>by rw[z,e]at q;cases q;exact n _ rfl
 have u:Un X.fs [] H (pY H a) s.heap s.heap :=
  ⟨fun b o q _ _ _=>q,fun b o q _ _ _=>⟨o.slots,q⟩,fun b o q n _=>by unfold pY;split<;>first | rfl | exact n,fun b o q _=>⟨o,q⟩,fun b xs q=>by rw[jw (ne b _ q fun ψ z=>nomatch z)];exact q,fun b o u q=>by rw[jw (ne b _ q fun ψ z=>nomatch z)];exact q,fun b ps q=>⟨#[],by rw[jw (ne b _ q fun ψ z=>nomatch z),q];simp⟩⟩
 have hk:iJ X.prog X.w (pY H a) s.heap:=fun b o q=>by
  by_cases hb:b=a
  ·rw[hb,xZ]at q;cases q
  ·rw[jw hb]at q
   exact (I.hok b o q).stay (fun c v _ r=>r) (fun c r=>by rw[jw (ne c _ r fun ψ z=>nomatch z)];exact r) fun c xs r=>by rw[jw (ne c _ r fun ψ z=>nomatch z)];exact r
 exact I.un (t':=s.toks) u hk
theorem bD.has {P:Program}{w:World}{H:Hp}{h:Heap}{a:Addr}{o:HO}(x:bD P w H h a o):∃ u,h.get? a=some u:=by
 cases o with
 | lst xs=>obtain⟨_,_,_,_,e⟩:=x;exact⟨_,e⟩
 | tup xs=>obtain⟨_,_,_,u,e,_⟩:=x;exact⟨u,e⟩
 | dK kvs=>obtain⟨_,_,_,_,o,_,_,e,_⟩:=x;exact⟨o,e⟩
 | dT kvs=>obtain⟨_,_,_,_,o,_,_,e,_⟩:=x;exact⟨o,e⟩
 | set S n=>obtain⟨o,_,_,_,e,_⟩:=x;exact⟨o,e⟩
 | ins C dx fs=>obtain⟨_,_,_,e,_⟩:=x;exact⟨_,e⟩
 | own y=>exact x
 | xd fs=>obtain⟨_,⟨o,_,_,e,_⟩,_⟩:=x;exact⟨o,e⟩
 | rng lo hi=>obtain⟨_,_,_,e⟩:=x;exact⟨_,e⟩
 | frz ob u=>obtain⟨e,_⟩:=x;exact⟨ob,e⟩
 | tbl ps=>exact⟨_,(show h.get? a=some _ from x)⟩
 | met f y=>exact⟨_,(show h.get? a=some _ from x)⟩
 | ext φ=>obtain⟨_,e,_⟩:=x;exact e
def eY (P:Program)(w:World):qG:=fun outer H s E e s'=>∃ (ea C:Addr)(od:Option Addr)(H':Hp)(B:Heap),e=.ref ea/\zC B outer ea (.ref C) od s'.heap/\Un (iR outer) [] H H' s.heap s'.heap/\iJ P w H' s'.heap/\s'.os=s.os/\AllBare s'.gens /\
 (∀ b o,s.heap.get? b=some o->b∉iR outer->∃ o',B.get? b=some o')/\(∀ b o,H' b=some o->∃ o',B.get? b=some o')/\E (.ref C) od H'
theorem AI {fs:List Addr}{H H':Hp}{h h1 h2 B:Heap}(u:Un fs [] H H' h h1)(b1:B.StaysIn h1)(b2:B.StaysIn h2)(hb:∀ b o,h.get? b=some o->b∉fs->∃ o',B.get? b=some o')(sl:∀ b o,b∈fs->h.get? b=some o->H b=none->∃ sl,h2.get? b=some { o with slots:=sl })(th:∀ b o,b∈fs->h.get? b=some o->∃ o',h2.get? b=some o'):Un fs [] H H' h h2:=by
 have eq:∀ b o,h.get? b=some o->b∉fs->h2.get? b=h1.get? b:=fun b o e hf=>by
  obtain⟨o',e'⟩:=hb b o e hf;rw[b1 b o' e',b2 b o' e']
 refine⟨fun b o e n hf hx=>(eq b o e hf).trans (u.keep b o e n hf hx),fun b o e n hf hx=>sl b o hf e n,u.free,fun b o e hx=>?_,u.tups,u.frzs,u.tbls⟩
 by_cases hf:b∈fs
 ·exact th b o hf e
 ·rw[eq b o e hf];exact u.there b o e hx
theorem yw {P:Program}{w:World}{H:Hp}{h1 h2 B:Heap}(x:iJ P w H h1)(b1:B.StaysIn h1)(b2:B.StaysIn h2)(hb:∀ b o,H b=some o->∃ o',B.get? b=some o'):iJ P w H h2:=fun a o e =>
 (x a o e).stay (fun b u hc q=>by
  have:∃ o',B.get? b=some o':=by
   rcases hc with z | z
   ·rw[z];exact hb a o e
   ·exact hb b _ z
  obtain⟨o',e'⟩:=this;rw[b1 b o' e']at q;rw[<-q]
  exact b2 b o' e') (fun _ q=>q) fun _ _ q=>q
def vL (X:Cx)(E:XK):Prop:=∀ (pins:List (Addr×Obj))(σ:St)(H:Hp)(s:Shared)(ea C t:Addr)(od:Option Addr),aw X pins σ H s->s.heap.get? ea=some (exOb C t od)->H ea=none->X.s₀.heap.get? ea=none->E (.ref C) od H->X.xe (.ref ea) s
section
variable {P:Program}{w:World}{K:PySem.W.Frag}{mg:Str->Option Value}{base:Heap}{N:List Str}{qual:Str}{sc:Scope}{f:Addr}{cd:Value}{A:Around}{outer:List Env}{s0:Shared}{H0:Hp}{E:XK}
theorem fG:vL (mQ (eY P w) P w K mg base N qual sc f cd A outer s0 H0 E) E:=by
 intro pins σ H s ea C t od I hx hn hs hE
 let X:Cx:=mQ (eY P w) P w K mg base N qual sc f cd A outer s0 H0 E
 show wpAny _ _ (leaving _ _) _ _ _
 have hstk:(X.A.frames:Option (List Env))=some (X.env::outer):=I.ok.frames
 have frS:iR X.stack=X.env.locals::iR outer:=by unfold iR;rfl
 let B:Heap:=PySem.W.hideAll s.heap (ea::iR X.stack)
 have hkb:B.StaysIn s.heap:=fun b o q=>PySem.W.of_hideAll _ q;have inB:∀ b o,s.heap.get? b=some o->b≠ea->b∉iR X.stack->B.get? b=some o:=fun b o e ne hf=>PySem.W.hideAll_get _ e (fun z=>(En.mp z).elim ne hf);have hl:s.heap.FunFrames B (X.env::outer):=PySem.W.funFrames_hide I.stack fun env he a hf=>Ek _ (List.mem_filterMap.mpr ⟨env,he,hf⟩);refine rh (s:=s) hstk rfl hkb hl hx (PySem.W.hideAll_none _ Ep) rfl rfl fun h2 fl ups=>?_;have ltl:∀ b o,s0.heap.get? b=some o->b≠X.env.locals:=fun b o e=>Eu (Ez (Em e) I.ok.above)
 have h0B:∀ b o,s0.heap.get? b=some o->b∉iR outer->∃ o',B.get? b=some o':=fun b o e hf=>by
  obtain⟨o',e'⟩:=I.base.there b o e (by intro z;exact absurd (show b∈([]:List Addr) from z) (by simp));refine⟨o',inB b o' e' (fun z=>?_) ?_⟩
  ·have hs':s0.heap.get? ea=none:=hs
   rw[z,hs']at e;cases e
  ·rw[frS]
   intro z;rcases En.mp z with z | z
   ·exact ltl b o e z
   ·exact hf z
 have trB:∀ b o,H b=some o->∃ o',B.get? b=some o':=fun b o e=>by
  obtain⟨u,q⟩:=(I.hok b o e).has;exact⟨u,inB b u q (fun z=>by rw[z,hn]at e;cases e) fun z=>by rw[I.stkFree b z]at e;cases e⟩
 have noEx:∀ b,b∉X.ex:=fun b z=>absurd (show b∈([]:List Addr) from z) (by simp)
 have slot2:∀ b o,b∈iR outer->s0.heap.get? b=some o->H0 b=none->∃ sl,h2.get? b=some { o with slots:=sl }:=fun b o hf e n=>by
  obtain⟨sl,e1⟩:=I.base.slot b o e n hf (noEx b);obtain⟨_,o2,ho2,hnf⟩:=I.ok.funs.mem hf
  have e2:o2=o:=by
   have:s0.heap.get? b=some o2:=ho2;rw[e]at this;exact (Ei this).symm
  subst e2;obtain⟨sl2,e3⟩:=ups b _ e1 hnf;exact⟨sl2,e3⟩
 refine⟨ea,C,od,H,B,rfl,fl,?_,yw I.hok hkb fl.1 trB,I.os,I.bare,h0B,trB,hE⟩;refine AI (h1:=s.heap) I.base hkb fl.1 h0B (fun b o hf e n=>?_) fun b o hf e=>?_
 ·exact slot2 b o hf e n
 ·obtain⟨sl,q⟩:=slot2 b o hf e (I.ok.frf b hf)
  exact⟨_,q⟩
theorem di:dU (eY P w) (mQ (eY P w) P w K mg base N qual sc f cd A outer s0 H0 E) E:=by
 intro pins σ H s e s' I hc;obtain⟨ea,C,od,H',B,rfl,fl,un,hok,os,bare,hsB,trB,hE⟩:=hc
 let X:Cx:=mQ (eY P w) P w K mg base N qual sc f cd A outer s0 H0 E
 show wpAny _ _ (leaving _ _) _ _ _
 have hstk:(X.A.frames:Option (List Env))=some (X.env::outer):=I.ok.frames
 have frS:iR X.stack=X.env.locals::iR outer:=by unfold iR;rfl
 refine uX hstk rfl fl fun h2 fl2 ups=>?_;have ltl:∀ b o,s0.heap.get? b=some o->b≠X.env.locals:=fun b o e=>Eu (Ez (Em e) I.ok.above);have noEx:∀ b,b∉X.ex:=fun b z=>absurd (show b∈([]:List Addr) from z) (by simp)
 have h0B:∀ b o,s0.heap.get? b=some o->b∉iR outer->∃ o',B.get? b=some o':=fun b o e hf=>by
  obtain⟨o',e'⟩:=I.base.there b o e (noEx b);refine hsB b o' e' ?_;rw[frS];intro z;rcases En.mp z with z | z
  ·exact ltl b o e z
  ·exact hf z
 have unS:Un (iR outer) [] H0 H' s0.heap s'.heap:=by
  have u1:Un (iR outer) [] H0 H s0.heap s.heap:=I.base;refine⟨fun b o e n hf hx=>?_,fun b o e n hf hx=>?_,fun b o e n hx=>?_,fun b o e hx=>?_,fun b xs q=>un.tups b xs (u1.tups b xs q),fun b o u q=>un.frzs b o u (u1.frzs b o u q),fun b ps q=>?_⟩
  ·refine un.keep b o (u1.keep b o e n hf hx) (u1.free b o e n hx) ?_ hx
   rw[frS];intro z;rcases En.mp z with z | z
   ·exact ltl b o e z
   ·exact hf z
  ·obtain⟨sl,e1⟩:=u1.slot b o e n hf hx
   obtain⟨sl2,e2⟩:=un.slot b _ e1 (u1.free b o e n hx) (by rw[frS];exact Ek _ hf) hx;exact⟨sl2,e2⟩
  ·obtain⟨o',e'⟩:=u1.there b o e hx
   exact un.free b o' e' (u1.free b o e n hx) hx
  ·obtain⟨o',e'⟩:=u1.there b o e hx
   exact un.there b o' e' hx
  ·obtain⟨m1,e1⟩:=u1.tbls b ps q
   obtain⟨m2,e2⟩:=un.tbls b _ e1;exact⟨m1++m2,by rw[e2,Array.append_assoc]⟩
 have slot2:∀ b o,b∈iR outer->s0.heap.get? b=some o->H0 b=none->∃ sl,h2.get? b=some { o with slots:=sl }:=fun b o hf e n=>by
  obtain⟨sl,e1⟩:=unS.slot b o e n hf (by simp);obtain⟨_,o2,ho2,hnf⟩:=I.ok.funs.mem hf
  have e2:o2=o:=by
   have:s0.heap.get? b=some o2:=ho2;rw[e]at this;exact (Ei this).symm
  subst e2;obtain⟨sl2,e3⟩:=ups b _ e1 hnf;exact⟨sl2,e3⟩
 refine⟨ea,C,od,H',B,rfl,fl2,?_,yw hok fl.1 fl2.1 trB,os.trans I.os,bare,h0B,trB,hE⟩;refine AI (h1:=s'.heap) unS fl.1 fl2.1 h0B (fun b o hf e n=>slot2 b o hf e n) fun b o hf e=>?_;obtain⟨sl,q⟩:=slot2 b o hf e (I.ok.frf b hf);exact⟨_,q⟩
end
theorem aw.fresh0 {X:Cx}{pins:List (Addr×Obj)}{σ:St}{H:Hp}{s:Shared}{a:Addr}(I:aw X pins σ H s)(hx:a∉X.ex)(h:s.heap.get? a=none):X.s₀.heap.get? a=none:=by
 cases e:X.s₀.heap.get? a with
 | none=>rfl
 | some o =>
  obtain⟨o',q⟩:=I.base.there a o e hx;rw[h]at q;cases q
theorem aw.unheld {X:Cx}{pins:List (Addr×Obj)}{σ:St}{H:Hp}{s:Shared}{a:Addr}(I:aw X pins σ H s)(h:s.heap.get? a=none):H a=none:=by
 cases e:H a with
 | none=>rfl
 | some o =>
  obtain⟨u,q⟩:=(I.hok a o e).has;rw[h]at q;cases q
def BF (te:TE)(C:Addr)(E:XK):TS:=fun _ σ H=>te σ H fun _ H1=>E (.ref C) none H1
theorem kJ {X:Cx}{C:Addr}{E:XK}{x:Str}{e:Expr}{te:TE}{np cpos pos:Pos}(q:gq X.K C)(hfl:vL X E)(hex:X.ex=[])(hh:X.A.handled=none)(hg:Gl X x)(hm:X.mg x=some (.ref C))(he:PE X e te)
  (hdb:(x == ("__debug__" : Str))=false:=by decide) (hs:starEach [e] X.env=[(false,eval e X.env)]:=by rfl) :
  PS X (.Raise (some (.Call (.Name x np) [e] [] cpos)) none pos) (BF te C E):=by
 intro pins s σ H D I h;obtain⟨bm,N,nm,qn,bs,hdct,sn,sub,ab,col,dd,k0,k1,k2,k3,k5,mN,hC,hN,hni,T⟩:=zS I.ok.mod.kin q
 refine wpAny_Raise_call_subT (C:=C) (nm:=nm) (q:=qn) (N:=N) (bs:=bs) (bm:=bm) (hdct:=hdct) (sn:=sn) (sub:=sub) (ab:=ab) (col:=col) (dd:=dd) (k0:=k0) (k1:=k1) (k2:=k2) (k3:=k3) (k5:=k5)
  F0 (mN:=mN) (T.hasType F0.hasBase) hh (by rw[hs];rfl) hni (jq I hg hm ⟨rfl,?_⟩ hdb)
 rw[hs];refine Fl (EZ (bA (he pins s σ H _ I h) fun u s1 ⟨v,H1,I1,rv,q1⟩=>Fv ?_));refine⟨rfl,(show 1<=sizeLine by decide),I1.bk _ _ hC,hN.keeps I1.bk,T.keeps I1.bk,fun h' ea hx=>?_⟩;obtain⟨t,hea,_,_⟩:=hx.there;exact hfl pins σ H1 { s1 with heap:=h' } ea C t none (I1.kept (t':=s1.toks) hx.keeps) hea (I1.unheld hx.new) (I1.fresh0 (by rw[hex];simp) hx.new) q1
section
variable {X:Cx}{pins:List (Addr×Obj)}{σ:St}{H:Hp}{s:Shared}
theorem aw.laidN {a:Addr}{o:HO}{h':Heap}{t':Nat}(I:aw X pins σ H s)(k:∀ b u,s.heap.get? b=some u->h'.get? b=some u)(hp:s.heap.get? a=none)(new:bD X.prog X.w (upd H a o) h' a o) :
  aw X pins σ (upd H a o) { s with heap:=h',toks:=t' }:=by
 have hn:=I.unheld hp
 have ne:∀ b u,s.heap.get? b=some u->b≠a:=fun b u q z=>by rw[z,hp]at q;cases q
 refine I.un ⟨fun b u q _ _ _=>k b u q,fun b u q _ _ _=>⟨u.slots,k b u q⟩,fun b u q n _=>by rw[ae (ne b u q)];exact n,fun b u q _=>⟨u,k b u q⟩,fun b xs q=>by rw[ae (ak q hn)];exact q,fun b u xs q=>by rw[ae (ak q hn)];exact q,fun b ps q=>⟨#[],by rw[ae (ak q hn),q];simp⟩⟩ fun b u e=>?_
 by_cases hb:b=a
 ·subst hb;rw[ag]at e;cases e;exact new
 ·rw[ae hb]at e
  exact (I.hok b u e).stay (fun c v _ q=>k c v q) (fun c q=>by rw[ae (ak q hn)];exact q) fun c xs q=>by rw[ae (ak q hn)];exact q
end
inductive Ar (C:Addr) (f:Str) (vs:List V) (H:Hp) (Q:VK) (E_:XK):Prop
 | mk (ea:Addr) (g:Int) (h_0:vs=[.ref ea,.int g]) (h_1:g.natAbs<10 ^ 100) (h_2:H ea=some (sM ea C none)) (h_3:∀ dx,H dx=none->Q .non (upd (upd H ea (sM ea C (some dx))) dx (.xd [(f,.int g)]))):Ar C f vs H Q E_
theorem yO {X:Cx}{pl:Sem Bool}{W fI:Addr}{x:Str}{e:Expr}{es:List Expr}{t:TA}{np apos pos:Pos}(hg:Gl X x)(hm:X.mg x=some (.ref W))(hsp:PySem.W.specialIn X.K (.ref W) "__getattribute__" = some (some (.builtin "type.__getattribute__")))
  (hrd:PySem.W.readsIn X.K W (.type "type")=true) (hfc:PySem.W.findCls X.K (.ref W) (.type "type") "__init__" = some (.val (.builtin "ValueError.__init__"))) (ha:PA X (e::es) t)
  (hdb:(x == ("__debug__" : Str))=false:=by decide) (he:starEach (e::es) X.env=(false,eval e X.env)::starEach es X.env:=by rfl) (hpl:(backTo pos (starEach es X.env)).any (·.1)=false:=by rfl)
  (ht:eval (.Call (.Attribute (.Name x np) "__init__" apos) (e::es) [] pos) X.env=(do
   let ov <-eval (.Name x np) X.env
   standAt apos.atName
   let (f,first) <-holding [ov] (getMethod ov "__init__" pl)
   callWith pos f first (backTo pos (starEach (e::es) X.env)) (backToKw pos (keywordEach [] X.env))):=by rfl) :
  PE X (.Call (.Attribute (.Name x np) "__init__" apos) (e::es) [] pos) (fun σ H Q=>t σ H fun vs H1=>∃ ea C u,vs=[.ref ea,u]/\H1 ea=some (sM ea C none)/\jQ X.K C fI=true/\Q .non H1):=by
 intro pins s σ H Q I h;refine PySem.W.methodCall_KW (pl:=pl) (jq I hg hm ?_ hdb) ht;refine PySem.W.method_cls I.kIn hsp (PySem.W.cls_value I.kIn hrd hfc rfl ?_);refine PyProof.Rows.callWith_builtin1 (bA (ha pos pins _ σ H _ (I.tok _) h) fun us s1 ⟨vs,H1,I1,r1,ea,C,v,ev,hx,c,q1⟩=>?_) he hpl;subst ev;obtain⟨u1,u2,rfl,ru1,ru2⟩:=r1.two;cases ru1;obtain⟨⟨t0,hx0⟩,_,_⟩:=(show bD X.prog X.w H1 s1.heap ea (sM ea C none) from I1.hok ea _ hx);refine yI I1.kIn c hx0 fun h' t' q k=>?_
 have e:upd H1 ea (sM ea C none)=H1:=by funext b;unfold upd;split<;>rename_i z<;>first | (rw[z,hx]) | rfl
 refine⟨.non,H1,?_,rfl,q1⟩;have:=I1.write (x:=ea) (e:=ea) (o:=sM ea C none) (h':=h') (t':=s1.toks) (by rw[hx];exact True.intro) (.inl rfl) (fun b o n z=>k b o n z) ⟨_,q⟩ (uJ q)
 rwa [e]at this
theorem yZ {X:Cx}{o value:Expr}{f:Str}{pos pos':Pos}{ta tv:TE}(ha:PE X o ta)(hv:PE X value tv)(hs:swapsWith value (some (.Attribute o f pos')) pos.line X.env=pure false) :
  PS X (.Assign [.Attribute o f pos'] value pos) (fun D σ H=>tv σ H fun y H1=>ta σ H1 fun x H2=>∃ ea C,x=.ref ea/\H2 ea=some (sM ea C none)/\Db X.K C f/\∀ dx,H2 dx=none->D.nx σ (upd (upd H2 ea (sM ea C (some dx))) dx (.xd [(f,y)]))):=by
 intro pins s σ H D I h;refine plainObj_wpAny_Assign_Attribute (bA (hv pins s σ H _ I h) fun u s1 ⟨y,H1,I1,ry,q⟩=>bA (ha pins s1 σ H1 _ I1 q) fun ov s2 ⟨x,H2,I2,rx,ea,C,ex,hx,c,q2⟩=>?_) hs;subst ex;obtain rfl:ov=Value.ref ea:=rx;obtain⟨⟨t0,hx0⟩,_,_⟩:=(show bD X.prog X.w H2 s2.heap ea (sM ea C none) from I2.hok ea _ hx);refine Bh I2.kIn c hx0 fun h' tk hx1 hns k=>⟨σ,_,?_,q2 s2.heap.objs.size I2.fresh⟩;have hd:=I2.fresh
 have ned:s2.heap.objs.size≠ea:=fun z=>by rw[z,hx]at hd;cases hd
 have ne1:∀ b u,H2 b=some u->(∀ ψ,u≠.ext ψ)->b≠ea:=fun b u q n z=>by rw[z,hx]at q;cases q;exact n _ rfl
 have ned2:∀ b u,s2.heap.get? b=some u->b≠s2.heap.objs.size:=fun b u q=>Eu (Em q)
 have up:∀ b u,H2 b=some u->(∀ ψ,u≠.ext ψ)->upd (upd H2 ea (sM ea C (some s2.heap.objs.size))) s2.heap.objs.size (.xd [(f,y)]) b=some u:=fun b u q n=>by
  rw[ae (ak q hd),ae (ne1 b u q n)];exact q
 refine I2.un ⟨fun b u q n _ _=>k b u (fun z=>by rw[z,hx]at n;cases n) q,fun b u q n _ _=>⟨u.slots,k b u (fun z=>by rw[z,hx]at n;cases n) q⟩,fun b u q n _=>?_,fun b u q _=>?_,fun b xs q=>up b _ q (fun ψ z=>nomatch z),fun b u xs q=>up b _ q (fun ψ z=>nomatch z),fun b ps q=>⟨#[],by rw[up b _ q (fun ψ z=>nomatch z)];simp⟩⟩ fun b u q=>?_
 ·rw[ae (ned2 b u q),ae (fun z=>by rw[z,hx]at n;cases n)];exact n
 ·by_cases hb:b=ea
  ·exact⟨_,by rw[hb];exact hx1⟩
  ·exact⟨u,k b u hb q⟩
 ·by_cases hb:b=s2.heap.objs.size
  ·rw[hb,ag]at q
   cases q;rw[hb];refine⟨_,hns,fun g=>?_⟩
   show gK (List.lookup g [(f,y)]) (if g=f then some _ else none)
   by_cases hgf:g=f
   ·rw[Ee hgf,hgf];simp only[List.lookup,beq_self_eq_true];exact ry
   ·have hb:(g == f)=false:=Fo.mpr hgf
    rw[Ed hgf];simp only[List.lookup,hb];trivial
  ·rw[ae hb]at q
   by_cases hb2:b=ea
   ·rw[hb2,ag]at q
    cases q;rw[hb2];exact uJ hx1
   ·rw[ae hb2]at q
    refine (I2.hok b u q).stay (fun c v hc r=>k c v ?_ r) (fun c r=>up c _ r fun ψ z=>nomatch z) fun c xs r=>up c _ r fun ψ z=>nomatch z
    rcases hc with z | z
    ·rw[z];exact hb2
    ·exact ne1 c _ z fun ψ z=>nomatch z
def wO (te:TE)(C:Addr)(f:Str)(E:XK):TS:=fun _ σ H=>te σ H fun v H1=>∃ g:Int,v=.int g/\g.natAbs<10 ^ 100/\∀ dx,H1 dx=none->E (.ref C) (some dx) (upd H1 dx (.xd [(f,.int g)]))
theorem xQ {X:Cx}{C fI:Addr}{k:Nat}{fd:FuncData}{E:XK}{x f sl gp:Str}{e:Expr}{te:TE}{np cpos pos:Pos}(c:jQ X.K C fI=true)(hfn:PySem.W.typeIn X.K (.ref fI)=some (.type "function"))
  (G:aW X.prog X.w X.K X.mg X.base dB k fI fd [sl,gp] (Ar C f)) (hr:b8 (k+1) X.A) (hb:d8 X.K fd [sl,gp] [])
  (hfl:vL X E) (hex:X.ex=[]) (hh:X.A.handled=none) (hg:Gl X x) (hm:X.mg x=some (.ref C)) (he:PE X e te)
  (hdb:(x == ("__debug__" : Str))=false:=by decide) (hs:starEach [e] X.env=[(false,eval e X.env)]:=by rfl) :
  PS X (.Raise (some (.Call (.Name x np) [e] [] cpos)) none pos) (wO te C f E):=by
 intro pins s σ H D I h;obtain⟨bm,N,nm,qn,bs,hdct,sn,sub,ab,col,dd,k0,k1,k2,k3,k5,mN,hC,hN,hni,T⟩:=sN I.ok.mod.kin c;have F:=F0;have hbase:=T.hasType F.hasBase;rw[arm_exec_Raise];refine Ef (F7 (zt (C:=C) (nm:=nm) (q:=qn) (N:=N) (bs:=bs) (bm:=bm) (hdct:=hdct) (sn:=sn) (sub:=sub) (ab:=ab) (col:=col) (dd:=dd) (k0:=k0) (k1:=k1) (k2:=k2) (k3:=k3) (k5:=k5) (newId:="ValueError.__new__") hbase hh (Ef (E4 (wpAny_Call_ofName (jq I hg hm ?_ hdb)) (fun v s3 h3=>Ef (F7 (Et h3))) fun _ _ x=>x))));rw[hs];unfold callWith;refine Ef (FK (Fl (EZ (bA (he pins s σ H _ I h) fun u s1 ⟨v,H1,I1,rv,g,ev,hgb,q1⟩=>Fv (Ef (F7 ?_))))));subst ev;dsimp only;have hC1:=I1.bk _ _ hC;have hN1:=hN.keeps I1.bk;have T1:=T.keeps I1.bk
 have hf1:∃ oI,s1.heap.get? fI=some oI/\oI.cls=.type "function":=by
  unfold PySem.W.typeIn at hfn;obtain⟨o,ho,hc⟩:=Option.map_eq_some_iff.mp hfn;exact⟨o,I1.kIn _ _ ho,hc⟩
 obtain⟨oI,hfI,hfc⟩:=hf1;obtain⟨hp,gs,d,tk,os⟩:=s1;refine Ef (wpAny_keeperOf_exc hC1 ?_);refine Ef (sv (rest:=[u]) F T1 hC1 hN1 hni hfI hfc (fun h' ea hx=>?_) (show 1<=sizeLine by decide));obtain⟨t0,hea,_,_⟩:=hx.there;have hfr:=I1.fresh0 (by rw[hex];simp) hx.new;have zA:=I1.unheld hx.new;have I2:aw X pins σ (upd H1 ea (sM ea C none)) ⟨h',gs,d,tk,os⟩:=I1.laidN (a:=ea) (o:=sM ea C none) (h':=h') (t':=tk) hx.keeps hx.new (uJ hea);have r2:aU [V.ref ea,V.int g] [Value.ref ea,u]:=.cons rfl (.cons rv .nil)
 refine Gh (FS (G.run _ X.stack _ _ ⟨[Value.ref ea,u],[]⟩ [Value.ref ea,u] [V.ref ea,V.int g] (fun v H3=>v=.non/\∃ dx,H1 dx=none/\dx≠ea/\H3=upd (upd (upd H1 ea (sM ea C none)) ea (sM ea C (some dx))) dx (.xd [(f,.int g)])) E0 (hr.make C [u] [])
  (I2.env0.make C [u] []) (hb _ [Value.ref ea,u] I2.kIn rfl) r2 ⟨ea,g,rfl,hgb,ag,fun dx hdx=>⟨rfl,dx,?_,?_,rfl⟩⟩) fun r s' hq'=>?_)
 ·by_cases z:dx=ea
  ·rw[z,ag]at hdx;cases hdx
  ·rwa [ae z]at hdx
 ·intro z;rw[z,ag]at hdx;cases hdx
 cases r with
 | error e=>exact hq'.elim
 | ok fl =>
  cases fl with
  | ret u2 =>
   obtain⟨v,H3,I3,rv3,ev,dx,hdx,hne,eH⟩:=I2.after hq';subst ev;refine⟨rv3,Ef (FK (wpAny_point (Et ?_)))⟩
   have h3:H3 ea=some (sM ea C (some dx)):=by rw[eH,ae (Ex hne),ag]
   obtain⟨⟨t3,hx3⟩,_,_⟩:=(show bD X.prog X.w H3 s'.heap ea (sM ea C (some dx)) from I3.hok ea _ h3);have I4:=I3.untrack (φ:=fun h=>∃ t,h.get? ea=some (exOb C t (some dx))) h3
   have e4:pY H3 ea=upd H1 dx (.xd [(f,.int g)]):=by
    funext b
    unfold pY
    by_cases hb:b=ea
    ·rw[Ee hb,hb,ae (Ex hne),zA]
    ·rw[Ed hb,eH]
     by_cases hd:b=dx
     ·rw[hd,ag,ag]
     ·rw[ae hd,ae hb,ae hb,ae hd]
   rw[e4]at I4;exact⟨ea,t3,some dx,rfl,I4.bk _ _ hC,hx3,hfl pins σ _ s' ea C t3 (some dx) I4 hx3 (by rw[ae (Ex hne)];exact zA) hfr (q1 dx hdx)⟩
  | next=>exact hq'.elim
  | brk=>exact hq'.elim
  | cont=>exact hq'.elim
theorem eR.okX {P:Program}{w:World}{K:PySem.W.Frag}{mg:Str->Option Value}{base:Heap}{x qual:Str}{st:Stmt}{f:Addr}{fd:FuncData}{N ps:List Str}{k:Nat}{sp:Sp}(F:eR K x qual st f fd)(S:az N ps (au st))(len:∀ vs H Q E,sp vs H Q E->vs.length=ps.length)
  (hbody:∀ (cdv:Value)(A:Around)(outer:List Env)(s:Shared)(H:Hp)(vs:List V)(Q:VK)(E:XK),b8 k (A.deeper (envOfC qual (au st) s.heap.objs.size f cdv))->sp vs H Q E ->
   ∃ t,vO (mQ (eY P w) P w K mg base N qual (au st) f cdv A outer s H E) (df st) t/\t { nx:=fun _ H'=>Q .non H',rt:=Q } (jL N vs) H):aW P w K mg base (eY P w) (k+1) f fd ps sp:=by
 obtain⟨oc,od,kV,doc,pm,an,cdv,ct,osl,rfl,lk,hcd⟩:=F.ex;exact yo lk hcd S len fun A outer s H vs Q E hr hsp=>hbody cdv A outer s H vs Q E hr hsp
def PJ (X:Cx)(es:List Expr)(t:TA):Prop:=∀ (out:Str)(m:Nat)(pins:List (Addr×Obj))(s:Shared)(σ:St)(H:Hp)(Q:VK),out.length<=1000*m->m+es.length<=100->aw X pins σ H s->t σ H (fun _ H'=>∀ x:Str,Q (.str x) H')->wpAny (model X.prog X.w) X.A (joinParts out (evalEach es X.env)) (EP X pins σ Q) X.xe s
theorem o8 {X:Cx}:PJ X [] pX:=by
 intro out m pins s σ H Q ho hm I h;refine joinParts_nil ⟨.str out,H,I.tok _,⟨_,rfl⟩,h out⟩ ?_;exact EI ho (EI (Nat.mul_le_mul_left 1000 (show m<=100 by simpa using hm)) (by decide))
def tJ (te:TE)(t:TA):TA:=fun σ H Q=>te σ H fun x H1=>∃ y:Str,x=.str y/\y.length<=1000/\t σ H1 Q
theorem dm {X:Cx}{e:Expr}{es:List Expr}{te:TE}{t:TA}(he:PE X e te)(h:PJ X es t):PJ X (e::es) (tJ te t):=by
 intro out m pins s σ H Q ho hm I hq
 show wpAny _ _ (joinParts out (eval e X.env::evalEach es X.env)) _ _ s
 refine joinParts_cons (bA (he pins s σ H _ I hq) fun u s1 ⟨x,H1,I1,rx,y,ex,hy,q1⟩=>?_);subst ex;obtain⟨tk,rfl⟩:=rx
 have hl:(out++y).length<=1000*(m+1):=by rw[strLen_append];omega
 rw[EO]at hm;refine⟨EI hl (EI (Nat.mul_le_mul_left 1000 (show m+1<=100 by omega)) (by decide)),?_⟩;exact h (out++y) (m+1) pins s1 σ H1 Q hl (by omega) I1 q1
def D6 (t:TA):TE:=fun σ H Q=>t σ H fun _ H'=>∀ x:Str,Q (.str x) H'
theorem kI {X:Cx}{e1 e2:Expr}{es:List Expr}{t:TA}{pos:Pos}(h:PJ X (e1::e2::es) t)(hn:(e1::e2::es).length<=100:=by decide):PE X (.JoinedStr (e1::e2::es) pos) (D6 t):=by
 intro pins s σ H Q I hq;refine JoinedStr_many ?_;exact h Str.empty 0 pins s σ H Q (by show 0<=_;exact EK _) (by simpa using hn) I hq
def D5 (te:TE):TE:=fun σ H Q=>te σ H fun x H1=>∃ i:Int,x=.int i/\i.natAbs<10 ^ 100/\∀ y:Str,y.length<=1000->Q (.str y) H1
theorem ii {X:Cx}{e:Expr}{te:TE}{pos:Pos}(he:PE X e te):PE X (.FormattedValue e (-1) none pos) (D5 te):=by
 intro pins s σ H Q I h;refine FormattedValue_plain (bA (he pins s σ H _ I h) fun u s1 ⟨x,H1,I1,rx,i,ex,hi,q⟩=>?_);subst ex;obtain⟨tk,rfl⟩:=rx
 have hd:i.natAbs.log2<1920:=by
  by_cases h0:i.natAbs=0
  ·rw[h0];decide
  ·exact (Nat.log2_lt h0).mpr (Ez hi (by decide +kernel))
 refine wpAny_formatField_int hd ⟨.str (toString i),H1,I1.tok _,⟨_,rfl⟩,q _ ?_⟩;have:=PySem.int_text_length_le10 (a:=i) (k:=100) (by decide) hi
 show (Str.ofString (toString i)).length<=1000
 rw[PySem.ofString_length];omega
end L2
namespace Wz
open PySem L2
def av (P:Program)(w:World)(K:PySem.W.Frag)(mg:Str->Option Value)(base:Heap)(CX:qG)(C:Addr)(m:Str)(k:Nat)(ps:List Str)(sp:Sp):Prop :=
 ∃ (f:Addr)(fd:FuncData),aW P w K mg base CX k f fd ps sp/\zD K C m f/\d8 K fd ps []
def dI (P:Program)(w:World)(K:PySem.W.Frag)(mg:Str->Option Value)(base:Heap)(x:Str)(k:Nat)(ps:List Str)(sp:Sp):Prop :=
 ∃ (f:Addr)(fd:FuncData),aW P w K mg base (eY P w) k f fd ps sp/\mg x=some (.ref f)/\PySem.W.keepIn K (.ref f)=true/\d8 K fd ps []
section
variable {X:Cx}{CX:qG}{k:Nat}{C:Addr}{ps:List Str}{sp:Sp}{E:XK}{m x:Str}{p pos apos:Pos}{e o:Expr}{es:List Expr}{ta:TE}{t:TA}
theorem dE {pl:Sem Bool}(M:av X.prog X.w X.K X.mg X.base CX C m k ps sp)(he:PE X o ta)(c:wY X.K C)(hr:b8 k X.A)(hx:dU CX X E)(ha:PA X (e::es) t)
  (hst:starEach (e::es) X.env=(false,eval e X.env)::starEach es X.env:=by rfl) (hpl:(backTo pos (starEach es X.env)).any (·.1)=false:=by rfl)
  (ht:eval (.Call (.Attribute o m apos) (e::es) [] pos) X.env=(do
   let ov <-eval o X.env
   standAt apos.atName
   let (f,first) <-holding [ov] (getMethod ov m pl)
   callWith pos f first (backTo pos (starEach (e::es) X.env)) (backToKw pos (keywordEach [] X.env))):=by rfl) :
  PE X (.Call (.Attribute o m apos) (e::es) [] pos) (wN C m sp [] E ta t):=by
 obtain⟨f,fd,G,hm,hb⟩:=M;exact Ah he c hm G hr hb .nil hx ha hst hpl ht
theorem vq {pl:Sem Bool}(M:av X.prog X.w X.K X.mg X.base CX C m k ps sp)(he:PE X o ta)(c:wY X.K C)(hr:b8 k X.A)(hx:dU CX X E)
  (ht:eval (.Call (.Attribute o m apos) [] [] pos) X.env=(do
   let ov <-eval o X.env
   standAt apos.atName
   let (f,first) <-holding [ov] (getMethod ov m pl)
   callWith pos f first (backTo pos (starEach [] X.env)) (backToKw pos (keywordEach [] X.env))):=by rfl) :
  PE X (.Call (.Attribute o m apos) [] [] pos) (wN C m sp [] E ta pX):=by
 obtain⟨f,fd,G,hm,hb⟩:=M;exact yU he c hm G hr hb .nil hx ht
theorem rO (M:dI X.prog X.w X.K X.mg X.base x k ps sp)(hr:b8 k X.A)(hg:Gl X x)(hx:dU (eY X.prog X.w) X E)(ha:PA X (e::es) t)
  (hdb:(x == ("__debug__" : Str))=false:=by decide) (he:starEach (e::es) X.env=(false,eval e X.env)::starEach es X.env:=by rfl) (hpl:(backTo pos (starEach es X.env)).any (·.1)=false:=by rfl) :
  PE X (.Call (.Name x p) (e::es) [] pos) (zi sp [] E t):=by
 obtain⟨f,fd,G,hm,hk,hb⟩:=M;exact wD G hr hg hm hk hb .nil hx ha hdb he hpl
end
inductive ay where
 | come (g:Int) | go (g:Int) | exch (a b:Int)
 deriving DecidableEq
def cx:ay->HO
 | .come g=>.tup [.str "come",.int g]
 | .go g=>.tup [.str "go",.int g]
 | .exch a b=>.tup [.str "exchange",.int a,.int b]
structure bZ where
 worn:List (Int×Int)
 hold:List (Int×Int)
 circ:List (Int×List Int)
 deeds:List ay
def dW:List Addr->List (Int×List Int)->List (bR×V)
 | a::as,x::xs=>(Sum.inl x.1,V.ref a)::dW as xs
 | _,_=>[]
def rg (ks:List Int):List (bR×V):=ks.map fun k=>(Sum.inl k,V.bl true)
structure HA where
 dx:Addr
 w:Addr
 h:Addr
 c:Addr
 d:Addr
 cs:List Addr
def HA.fp (A:HA):List Addr:=A.w::A.h::A.c::A.d::A.cs
def bO (A:HA):List (Str×V):=gS "deeds" (.ref A.d) (gS "circles" (.ref A.c) (gS "holders" (.ref A.h) (gS "worn" (.ref A.w) [])))
theorem s1:¬ (("worn" : Str)="holders"):=by decide +kernel
theorem s2:¬ (("worn" : Str)="circles"):=by decide +kernel
theorem s3:¬ (("worn" : Str)="deeds"):=by decide +kernel
theorem s4:¬ (("holders" : Str)="circles"):=by decide +kernel
theorem s5:¬ (("holders" : Str)="deeds"):=by decide +kernel
theorem s6:¬ (("circles" : Str)="deeds"):=by decide +kernel
theorem uR (A:HA):(bO A).lookup ("worn" : Str)=some (.ref A.w):=by
 unfold bO;rw[aR,Ed s3,aR,Ed s2,aR,Ed s1,aR,Ee rfl]
theorem zW (A:HA):(bO A).lookup ("holders" : Str)=some (.ref A.h):=by
 unfold bO;rw[aR,Ed s5,aR,Ed s4,aR,Ee rfl]
theorem Cg (A:HA):(bO A).lookup ("circles" : Str)=some (.ref A.c):=by
 unfold bO;rw[aR,Ed s6,aR,Ee rfl]
theorem zV (A:HA):(bO A).lookup ("deeds" : Str)=some (.ref A.d):=by
 unfold bO;rw[aR,Ee rfl]
theorem kz (A:HA){m:Str}(h1:¬ m="worn")(h2:¬ m="holders")(h3:¬ m="circles")(h4:¬ m="deeds"):(bO A).lookup m=none:=by
 unfold bO;rw[aR,Ed h4,aR,Ed h3,aR,Ed h2,aR,Ed h1];rfl
theorem uS (A:HA) {m:Str} (h:¬ m="worn"/\¬ m="holders"/\¬ m="circles"/\¬ m="deeds"):(bO A).lookup m=none:=kz A h.1 h.2.1 h.2.2.1 h.2.2.2
def bT (H:Hp)(d:Addr)(ds:List ay):Prop:=∃ as:List Addr,H d=some (.lst (as.map V.ref))/\Paired (fun a x=>H a=some (cx x)) as ds
structure aH (C:Addr)(H:Hp)(p:Addr)(A:HA)(st:bZ):Prop where
 ob:H p=some (.ins C A.dx (bO A))
 nd:A.fp.Nodup
 w:H A.w=some (.dK (dk st.worn))
 h:H A.h=some (.dK (dk st.hold))
 c:H A.c=some (.dK (dW A.cs st.circ))
 cs:Paired (fun a (x:Int×List Int)=>H a=some (.dK (rg x.2))) A.cs st.circ
 d:bT H A.d st.deeds
def Kp (fp:List Addr)(H H':Hp):Prop:=∀ b o,H b=some o->b∉fp->H' b=some o
theorem Kp.of_same {fp:List Addr}{H H':Hp}(s:aF H H'):Kp fp H H':=fun b o e _=>s b o e
theorem Kp.trans {fp fp':List Addr}{H H1 H2:Hp}(a:Kp fp H H1)(b:Kp fp' H1 H2)(h:∀ x∈fp',x∈fp\/H x=none):Kp fp H H2:=fun x o e n =>
 b x o (a x o e n) fun z=>(h x z).elim n fun y=>by rw[e]at y;cases y
theorem dQ {H H':Hp}{d:Addr}{ds:List ay}(r:bT H d ds)(s:aF H H'):bT H' d ds:=by
 obtain⟨as,h,p⟩:=r;exact⟨as,s _ _ h,Paired.mapP p fun a q z=>s _ _ z⟩
theorem aH.mono {C:Addr}{H H':Hp}{p:Addr}{A:HA}{st:bZ}(x:aH C H p A st)(s:aF H H'):aH C H' p A st :=
 ⟨s _ _ x.ob,x.nd,s _ _ x.w,s _ _ x.h,s _ _ x.c,Paired.mapP x.cs fun a q z=>s _ _ z,dQ x.d s⟩
theorem aH.kept {C:Addr}{H H':Hp}{p:Addr}{A:HA}{st:bZ}{fp:List Addr}(x:aH C H p A st)(k:Kp fp H H')(hp:p∉fp)(hd:∀ b∈A.fp,b∉fp)(ht:∀ b xs,H b=some (.tup xs)->b∉fp):aH C H' p A st:=by
 have m:∀ b∈A.fp,∀ o,H b=some o->H' b=some o:=fun b hb o e=>k b o e (hd b hb);refine⟨k _ _ x.ob hp,x.nd,m _ (by simp[HA.fp]) _ x.w,m _ (by simp[HA.fp]) _ x.h,m _ (by simp[HA.fp]) _ x.c,?_,?_⟩
 ·have:∀ (cs:List Addr)(ci:List (Int×List Int)),(∀ b∈cs,b∈A.fp)->Paired (fun a (x:Int×List Int)=>H a=some (.dK (rg x.2))) cs ci->Paired (fun a (x:Int×List Int)=>H' a=some (.dK (rg x.2))) cs ci:=by
   intro cs ci hc hp
   induction hp with
   | nil=>exact .nil
   | cons e _ ih=>exact .cons (m _ (hc _ Ep) _ e) (ih fun b hb=>hc b (Ek _ hb))
  exact this _ _ (fun b hb=>by simp[HA.fp,hb]) x.cs
 ·obtain⟨as,h,hp⟩:=x.d
  refine⟨as,m _ (by simp[HA.fp]) _ h,Paired.mapP hp fun a q z=>?_⟩
  cases q with
  | come g=>exact k _ _ z (ht _ _ z)
  | go g=>exact k _ _ z (ht _ _ z)
  | exch a b=>exact k _ _ z (ht _ _ z)
def b7 (l:List (Int×Int))(g:Int):List (Int×Int):=l.filter fun p=>decide (p.1≠g)
theorem ox (l:List (Int×Int))(g:Int):ou (dk l) (Sum.inl g:bR)=dk (b7 l g):=by
 unfold ou dk b7;rw[List.filter_map]
 congr 1
 apply List.filter_congr
 intro p _;simp[Function.comp]
theorem er (l:List (Int×Int))(g h:Int):look (b7 l g) h=if h=g then none else look l h:=by
 induction l with
 | nil=>simp[b7,look]
 | cons p r ih =>
  unfold b7 at ih ⊢;rw[List.filter_cons]
  by_cases e:p.1=g
  ·rw[Ed (by simp[e]),ih]
   by_cases hh:h=g
   ·simp[hh]
   ·have:¬ p.1=h:=fun z=>hh (z.symm.trans e)
    simp[hh,look,this]
  ·rw[Ee (by simp[e])]
   show (if p.1=h then some p.2 else look _ h)=_
   rw[ih]
   by_cases hh:h=g
   ·subst hh;simp[e]
   ·simp[hh,look]
theorem lv {l:List (Int×Int)}{g h:Int}:h∈aD (b7 l g)↔h∈aD l/\h≠g:=by
 rw[<-bU,er,<-bU]
 by_cases e:h=g<;>simp[e]
inductive zy where
 | done | already | masked | same | met | noguest (g:Int)
 deriving DecidableEq
def k9:List (Int×List Int)->Int->List Int
 | [],_=>[]
 | x::r,g=>if x.1=g then x.2 else k9 r g
def iU (c:List (Int×List Int))(a b:Int):Bool:=decide (b∈k9 c a)
def jy (ks:List Int)(b:Int):List Int:=if b∈ks then ks else ks++[b]
def bN:List (Int×List Int)->Int->Int->List (Int×List Int)
 | [],a,b=>[(a,[b])]
 | x::r,a,b=>if x.1=a then (x.1,jy x.2 b)::r else x::bN r a b
def aX (st:bZ):ay->zy
 | .come g=>if (look st.worn g).isSome then .already else .done
 | .go g=>match look st.worn g with | none=>.noguest g | some m=>if m=g then .done else .masked
 | .exch a b=>match look st.worn a with
  | none=>.noguest a
  | some _=>match look st.worn b with
   | none=>.noguest b
   | some _=>if a=b then .same else if iU st.circ a b then .met else .done
def after (st:bZ):ay->bZ
 | .come g=>{ worn:=put st.worn g g,hold:=put st.hold g g,circ:=st.circ,deeds:=st.deeds++[.come g] }
 | .go g=>{ worn:=b7 st.worn g,hold:=b7 st.hold g,circ:=st.circ,deeds:=st.deeds++[.go g] }
 | .exch a b=>{ worn:=put (put st.worn a (wr st.worn b)) b (wr st.worn a),hold:=put (put st.hold (wr st.worn b) a) (wr st.worn a) b,circ:=bN (bN st.circ a b) b a,deeds:=st.deeds++[.exch a b] }
def names:ay->List Int
 | .come g=>[g]
 | .go g=>[g]
 | .exch a b=>[a,b]
def cK (g:Int):Prop:=g.natAbs<10 ^ 100
structure wZ (st:bZ):Prop where
 w:st.worn.length<1000
 h:st.hold.length<1000
 c:st.circ.length<1000
 k:∀ x∈st.circ,x.2.length<1000
 d:st.deeds.length<1000
structure HX where
 C:Addr
 cW:Addr
 cA:Addr
 cM:Addr
 cS:Addr
 cT:Addr
 cN:Addr
 fN:Addr
def nU (c:HX)(E:XK)(H:Hp):zy->Prop
 | .done=>False
 | .already=>∀ H',aF H H'->E (.ref c.cA) none H'
 | .masked=>∀ H',aF H H'->E (.ref c.cM) none H'
 | .same=>∀ H',aF H H'->E (.ref c.cS) none H'
 | .met=>∀ H',aF H H'->E (.ref c.cT) none H'
 | .noguest g=>∀ dx H',aF H H'->H' dx=some (.xd [("guest",.int g)])->E (.ref c.cN) (some dx) H'
def Tr (H H':Hp):Prop:=∀ b o,H b=some o->∃ o',H' b=some o'
theorem Tr.refl {H:Hp}:Tr H H:=fun _ o e=>⟨o,e⟩
theorem Tr.trans {H H1 H2:Hp}(a:Tr H H1)(b:Tr H1 H2):Tr H H2:=fun x o e=>let ⟨o',e'⟩:=a x o e;b x o' e'
theorem Tr.of_same {H H':Hp}(s:aF H H'):Tr H H':=fun b o e=>⟨o,s b o e⟩
theorem Tr.upd {H H1:Hp}(a:Tr H H1)(x:Addr)(u:HO):Tr H (upd H1 x u):=fun b o e=>by
 by_cases h:b=x
 ·exact⟨u,by rw[h,ag]⟩
 ·obtain⟨o',e'⟩:=a b o e
  exact⟨o',by rw[ae h];exact e'⟩
def p7 (C:Addr)(H:Hp)(p:Addr)(A:HA)(st':bZ)(H':Hp):Prop:=∃ A':HA,aH C H' p A' st'/\Kp A.fp H H'/\(∀ b∈A'.fp,b∈A.fp\/H b=none)/\Tr H H'
def pJ (c:HX)(H:Hp)(p:Addr)(A:HA)(st:bZ)(d:ay)(Q:VK)(E:XK):Prop :=
 if aX st d=.done then ∀ H',p7 c.C H p A (after st d) H'->Q .non H' else nU c E H (aX st d)
inductive wJ (C:Addr) (vs:List V) (H:Hp) (Q:VK) (E_:XK):Prop
 | mk (p dx:Addr) (h_0:vs=[.ref p]) (h_1:H p=some (.ins C dx [])) (h_2:∀ (A:HA)(H':Hp),aH C H' p A ⟨[],[],[],[]⟩->(∀ b o,H b=some o->b≠p->H' b=some o)->(∀ b∈A.fp,H b=none)->Q .non H'):wJ C vs H Q E_
inductive j6 (c:HX) (vs:List V) (H:Hp) (Q:VK) (E:XK):Prop
 | mk (p:Addr) (A:HA) (st:bZ) (g:Int) (h_0:vs=[.ref p,.int g]) (h_1:aH c.C H p A st) (h_2:wZ st) (h_3:cK g) (h_4:pJ c H p A st (.come g) Q E):j6 c vs H Q E
inductive vE (c:HX) (vs:List V) (H:Hp) (Q:VK) (E:XK):Prop
 | mk (p:Addr) (A:HA) (st:bZ) (g:Int) (h_0:vs=[.ref p,.int g]) (h_1:aH c.C H p A st) (h_2:wZ st) (h_3:cK g) (h_4:(∀ m,look st.worn g=some m->cK m/\(m=g->(look st.hold g).isSome))) (h_5:pJ c H p A st (.go g) Q E):vE c vs H Q E
inductive j7 (c:HX) (vs:List V) (H:Hp) (Q:VK) (E:XK):Prop
 | mk (p:Addr) (A:HA) (st:bZ) (a b:Int) (h_0:vs=[.ref p,.int a,.int b]) (h_1:aH c.C H p A st) (h_2:wZ st) (h_3:cK a) (h_4:cK b) (h_5:pJ c H p A st (.exch a b) Q E):j7 c vs H Q E
inductive ik (C:Addr) (vs:List V) (H:Hp) (Q:VK) (E_:XK):Prop
 | mk (p:Addr) (A:HA) (st:bZ) (g m:Int) (h_0:vs=[.ref p,.int g,.int m]) (h_1:aH C H p A st) (h_2:st.worn.length<2000) (h_3:st.hold.length<2000) (h_4:Q .non (upd (upd H A.w (.dK (dk (put st.worn g m)))) A.h (.dK (dk (put st.hold m g))))):ik C vs H Q E_
inductive fA (c:HX) (vs:List V) (H:Hp) (Q:VK) (E:XK):Prop
 | mk (p:Addr) (A:HA) (st:bZ) (g:Int) (h_0:vs=[.ref p,.int g]) (h_1:aH c.C H p A st) (h_2:cK g) (h_3:match look st.worn g with
 | some m=>Q (.int m) H
 | none=>nU c E H (.noguest g)):fA c vs H Q E
inductive i7 (c:HX) (vs:List V) (H:Hp) (Q:VK) (E:XK):Prop
 | mk (p:Addr) (A:HA) (st:bZ) (g:Int) (h_0:vs=[.ref p,.int g]) (h_1:aH c.C H p A st) (h_2:cK g) (h_3:match look st.hold g with
 | some m=>Q (.int m) H
 | none=>nU c E H (.noguest g)):i7 c vs H Q E
inductive gW (C:Addr) (vs:List V) (H:Hp) (Q:VK) (E_:XK):Prop
 | mk (p:Addr) (A:HA) (st:bZ) (g:Int) (h_0:vs=[.ref p,.int g]) (h_1:aH C H p A st) (h_2:Q (.bl (look st.worn g).isSome) H):gW C vs H Q E_
inductive kS (C:Addr) (vs:List V) (H:Hp) (Q:VK) (E_:XK):Prop
 | mk (p:Addr) (A:HA) (st:bZ) (h_0:vs=[.ref p]) (h_1:aH C H p A st) (h_2:st.worn.length<64) (h_3:∀ l,H l=none->Q (.ref l) (upd H l (.lst ((gU (aD st.worn)).map V.int)))):kS C vs H Q E_
inductive qA (C:Addr) (vs:List V) (H:Hp) (Q:VK) (E_:XK):Prop
 | mk (p:Addr) (A:HA) (st:bZ) (a b:Int) (h_0:vs=[.ref p,.int a,.int b]) (h_1:aH C H p A st) (h_2:∀ H',aF H H'->Q (.bl (iU st.circ a b)) H'):qA C vs H Q E_
inductive qz (C:Addr) (vs:List V) (H:Hp) (Q:VK) (E_:XK):Prop
 | mk (p:Addr) (A:HA) (st:bZ) (a b:Int) (h_0:vs=[.ref p,.int a,.int b]) (h_1:aH C H p A st) (h_2:st.circ.length<2000) (h_3:(∀ x∈st.circ,x.2.length<2000)) (h_4:∀ H',p7 C H p A { st with circ:=bN st.circ a b } H'->Q .non H'):qz C vs H Q E_
structure HT (K:PySem.W.Frag)(mg:Str->Option Value)(c:HX):Prop where
 cl:wY K c.C
 nW:gn K c.C "worn"
 nH:gn K c.C "holders"
 nC:gn K c.C "circles"
 nD:gn K c.C "deeds"
 mC:mg "Hall" = some (.ref c.C)
 eA:gq K c.cA
 eM:gq K c.cM
 eS:gq K c.cS
 eT:gq K c.cT
 mA:mg "AlreadyIn" = some (.ref c.cA)
 mM:mg "Masked" = some (.ref c.cM)
 mS:mg "Same" = some (.ref c.cS)
 mT:mg "Met" = some (.ref c.cT)
 mN:mg "NoGuest" = some (.ref c.cN)
 mW:mg "WaltzError" = some (.ref c.cW)
 eN:jQ K c.cN c.fN=true
 gN:Db K c.cN "guest"
 tN:PySem.W.typeIn K (.ref c.fN)=some (.type "function")
 wS:PySem.W.specialIn K (.ref c.cW) "__getattribute__" = some (some (.builtin "type.__getattribute__"))
 wR:PySem.W.readsIn K c.cW (.type "type")=true
 wI:PySem.W.findCls K (.ref c.cW) (.type "type") "__init__" = some (.val (.builtin "ValueError.__init__"))
structure HM (K:PySem.W.Frag)(c:HX):Prop where
 aa:PySem.W.exmOne K (.ref c.cA) (.ref c.cA)=some true
 ma:PySem.W.exmOne K (.ref c.cM) (.ref c.cA)=some false
 mm:PySem.W.exmOne K (.ref c.cM) (.ref c.cM)=some true
 sa:PySem.W.exmOne K (.ref c.cS) (.ref c.cA)=some false
 sm:PySem.W.exmOne K (.ref c.cS) (.ref c.cM)=some false
 ss:PySem.W.exmOne K (.ref c.cS) (.ref c.cS)=some true
 ta:PySem.W.exmOne K (.ref c.cT) (.ref c.cA)=some false
 tm:PySem.W.exmOne K (.ref c.cT) (.ref c.cM)=some false
 ts:PySem.W.exmOne K (.ref c.cT) (.ref c.cS)=some false
 tt:PySem.W.exmOne K (.ref c.cT) (.ref c.cT)=some true
 na:PySem.W.exmOne K (.ref c.cN) (.ref c.cA)=some false
 nm:PySem.W.exmOne K (.ref c.cN) (.ref c.cM)=some false
 ns:PySem.W.exmOne K (.ref c.cN) (.ref c.cS)=some false
 nt:PySem.W.exmOne K (.ref c.cN) (.ref c.cT)=some false
 nn:PySem.W.exmOne K (.ref c.cN) (.ref c.cN)=some true
def fD (P:Program)(w:World)(K:PySem.W.Frag)(mg:Str->Option Value)(base:Heap)(c:HX):Prop:=∃ fd:FuncData,aW P w K mg base dB 1 c.fN fd ["self","guest"] (Ar c.cN "guest")/\d8 K fd ["self","guest"] []
theorem oY {X:Cx}{c:HX}{E:XK}{e:Expr}{te:TE}{np cpos pos:Pos}(N:fD X.prog X.w X.K X.mg X.base c)(U:HT X.K X.mg c)(hr:b8 2 X.A)(hfl:vL X E)(hex:X.ex=[])(hh:X.A.handled=none)(hg:Gl X "NoGuest")(he:PE X e te)
  (hs:starEach [e] X.env=[(false,eval e X.env)]:=by rfl):PS X (.Raise (some (.Call (.Name "NoGuest" np) [e] [] cpos)) none pos) (wO te c.cN "guest" E):=by
 obtain⟨fd,G,hb⟩:=N;exact xQ U.eN U.tN G hr hb hfl hex hh hg U.mN he (by decide) hs
section
variable {C:Addr}{H:Hp}{p t:Addr}{A:HA}{st:bZ}
structure vJ (A:HA):Prop where
 wh:A.w≠A.h
 wc:A.w≠A.c
 wd:A.w≠A.d
 hc:A.h≠A.c
 hd:A.h≠A.d
 cd:A.c≠A.d
 w:A.w∉A.cs
 h:A.h∉A.cs
 c:A.c∉A.cs
 d:A.d∉A.cs
 cs:A.cs.Nodup
theorem aH.apart (S:aH C H p A st):vJ A:=by
 have:=S.nd;simp only[HA.fp,EQ,En,not_or]at this;obtain⟨⟨a1,a2,a3,a4⟩,⟨b1,b2,b3⟩,⟨c1,c2⟩,d1,e⟩:=this;exact⟨a1,a2,a3,b1,b2,c1,a4,b3,c2,d1,e⟩
theorem aH.pne (S:aH C H p A st):p∉A.fp:=by
 have n1:p≠A.w:=cQ S.ob S.w (by intro z;cases z);have n2:p≠A.h:=cQ S.ob S.h (by intro z;cases z);have n3:p≠A.c:=cQ S.ob S.c (by intro z;cases z);obtain⟨as,hd,_⟩:=S.d;have n4:p≠A.d:=cQ S.ob hd (by intro z;cases z)
 have n5:p∉A.cs:=fun z=>by
  obtain⟨i,hi,e⟩:=Fp z;obtain⟨b,_,q⟩:=bj S.cs (List.getElem?_eq_getElem hi);rw[e,S.ob]at q;cases q
 simp[HA.fp,n1,n2,n3,n4,n5]
theorem kx {H H':Hp}:∀ {cs:List Addr}{ci:List (Int×List Int)},Paired (fun a (x:Int×List Int)=>H a=some (.dK (rg x.2))) cs ci->(∀ b∈cs,∀ o,H b=some o->H' b=some o)->Paired (fun a (x:Int×List Int)=>H' a=some (.dK (rg x.2))) cs ci:=by
 intro cs ci hp k
 induction hp with
 | nil=>exact .nil
 | cons e _ ih=>exact .cons (k _ Ep _ e) (ih fun b hb=>k b (Ek _ hb))
theorem cD (x:ay):∃ xs,cx x=.tup xs:=by cases x<;>exact⟨_,rfl⟩
theorem aH.tup (S:aH C H p A st){b:Addr}{xs:List V}(e:H b=some (.tup xs)):b∉A.fp:=by
 have n1:b≠A.w:=cQ e S.w (by intro z;cases z);have n2:b≠A.h:=cQ e S.h (by intro z;cases z);have n3:b≠A.c:=cQ e S.c (by intro z;cases z);obtain⟨as,hd,_⟩:=S.d;have n4:b≠A.d:=cQ e hd (by intro z;cases z)
 have n5:b∉A.cs:=fun z=>by
  obtain⟨i,hi,e'⟩:=Fp z;obtain⟨y,_,q⟩:=bj S.cs (List.getElem?_eq_getElem hi);rw[e',e]at q;cases q
 simp[HA.fp,n1,n2,n3,n4,n5]
theorem aH.tracked (S:aH C H p A st){b:Addr}(h:b∈A.fp):∃ o,H b=some o:=by
 simp only[HA.fp,En]at h;rcases h with rfl | rfl | rfl | rfl | h
 ·exact⟨_,S.w⟩
 ·exact⟨_,S.h⟩
 ·exact⟨_,S.c⟩
 ·obtain⟨as,hd,_⟩:=S.d;exact⟨_,hd⟩
 ·obtain⟨i,hi,rfl⟩:=Fp h
  obtain⟨y,_,q⟩:=bj S.cs (List.getElem?_eq_getElem hi);exact⟨_,q⟩
theorem vJ.fp {A:HA}(a:vJ A):A.fp.Nodup:=by
 simp only[HA.fp,EQ,En,not_or];exact⟨⟨a.wh,a.wc,a.wd,a.w⟩,⟨a.hc,a.hd,a.h⟩,⟨a.cd,a.c⟩,a.d,a.cs⟩
theorem fK {fp:List Addr}{a:Addr}{o:HO}(h:a∈fp):Kp fp H (upd H a o):=fun b u e n=>by
 rw[ae (fun z:b=a=>n (by rw[z];exact h))];exact e
theorem uV {fp:List Addr}{a:Addr}{o:HO}(h:H a=none):Kp fp H (upd H a o):=fun b u e n=>by
 rw[ae (ak e h)];exact e
theorem Kp.on {fp:List Addr}{H1 H2:Hp}(a:Kp fp H H1)(b:Kp fp H1 H2):Kp fp H H2:=fun x o e n=>b x o (a x o e n) n
theorem qZ (S:aH C H p A st)(w':List (Int×Int)):aH C (upd H A.w (.dK (dk w'))) p A { st with worn:=w' }:=by
 have a:=S.apart;have np:=S.pne;simp only[HA.fp,En,not_or]at np;refine⟨by rw[ae np.1];exact S.ob,S.nd,ag,by rw[ae (Ex a.wh)];exact S.h,by rw[ae (Ex a.wc)];exact S.c,kx S.cs fun b hb o e=>by rw[ae (fun z:b=A.w=>a.w (by rw[<-z];exact hb))];exact e,?_⟩;obtain⟨as,hd,hp⟩:=S.d;refine⟨as,by rw[ae (Ex a.wd)];exact hd,Paired.mapP hp fun b x e=>?_⟩;obtain⟨xs,ex⟩:=cD x;rw[ae (fun z=>S.tup (xs:=xs) (by rw[<-ex];exact e) (by rw[z];simp[HA.fp]))];exact e
theorem qY (S:aH C H p A st)(w':List (Int×Int)):aH C (upd H A.h (.dK (dk w'))) p A { st with hold:=w' }:=by
 have a:=S.apart;have np:=S.pne;simp only[HA.fp,En,not_or]at np;refine⟨by rw[ae np.2.1];exact S.ob,S.nd,by rw[ae a.wh];exact S.w,ag,by rw[ae (Ex a.hc)];exact S.c,kx S.cs fun b hb o e=>by rw[ae (fun z:b=A.h=>a.h (by rw[<-z];exact hb))];exact e,?_⟩;obtain⟨as,hd,hp⟩:=S.d;refine⟨as,by rw[ae (Ex a.hd)];exact hd,Paired.mapP hp fun b x e=>?_⟩;obtain⟨xs,ex⟩:=cD x;rw[ae (fun z=>S.tup (xs:=xs) (by rw[<-ex];exact e) (by rw[z];simp[HA.fp]))];exact e
theorem ll (S:aH C H p A st){as:List Addr}(hd:H A.d=some (.lst (as.map V.ref)))(hp:Paired (fun a x=>H a=some (cx x)) as st.deeds)(x:ay)(ht:H t=none) :
  aH C (upd (upd H t (cx x)) A.d (.lst (as.map V.ref++[.ref t]))) p A { st with deeds:=st.deeds++[x] }:=by
 have a:=S.apart;have np:=S.pne;simp only[HA.fp,En,not_or]at np;have n:∀ b o,H b=some o->b≠t:=fun b o e=>ak e ht
 have e1:∀ b o,H b=some o->b≠A.d->(upd (upd H t (cx x)) A.d (.lst (as.map V.ref++[.ref t]))) b=some o:=fun b o e h=>by rw[ae h,ae (n b o e)];exact e
 have td:t≠A.d:=fun z=>by rw[z,hd]at ht;cases ht
 refine⟨e1 _ _ S.ob np.2.2.2.1,S.nd,e1 _ _ S.w a.wd,e1 _ _ S.h a.hd,e1 _ _ S.c a.cd,kx S.cs fun b hb o e=>e1 b o e (fun z=>a.d (by rw[<-z];exact hb)),as++[t],by rw[ag,EE];rfl,?_⟩;refine be (Paired.mapP hp fun b y e=>?_) (.cons (by rw[ae td,ag]) .nil);obtain⟨xs,ex⟩:=cD y;exact e1 b _ e (fun z=>S.tup (xs:=xs) (by rw[<-ex];exact e) (by rw[z];simp[HA.fp]))
theorem wq:A.w∈A.fp:=by simp[HA.fp]
theorem wo:A.h∈A.fp:=by simp[HA.fp]
theorem AA:A.c∈A.fp:=by simp[HA.fp]
theorem yG:A.d∈A.fp:=by simp[HA.fp]
end
theorem lb {c:HX}{H:Hp}{p:Addr}{A:HA}{st:bZ}{d:ay}{Q:VK}{E:XK}(k:pJ c H p A st d Q E)(h:aX st d=.done):∀ H',p7 c.C H p A (after st d) H'->Q .non H':=by
 unfold pJ at k;rwa [Ee h]at k
theorem fF {c:HX}{H:Hp}{p:Addr}{A:HA}{st:bZ}{d:ay}{Q:VK}{E:XK}{o:zy}(k:pJ c H p A st d Q E)(h:aX st d=o)(ho:o≠.done):nU c E H o:=by
 unfold pJ at k;rwa [h,Ed ho]at k
theorem kE:∀ (ci:List (Int×List Int))(a b:Int),(bN ci a b).length<=ci.length+1
 | [],_,_=>by simp[bN]
 | x::r,a,b=>by
  unfold bN;split
  ·simp
  ·have:=kE r a b;simp;omega
theorem yC (ks:List Int)(b:Int):(jy ks b).length<=ks.length+1:=by unfold jy;split<;>simp
theorem nV {ci:List (Int×List Int)}{a b:Int}{n:Nat}(h:∀ x∈ci,x.2.length<=n)(hn:0<n+1):∀ x∈bN ci a b,x.2.length<=n+1:=by
 induction ci with
 | nil=>intro x hx;simp[bN]at hx;subst hx;simp
 | cons y r ih =>
  intro x hx;unfold bN at hx;split at hx
  ·rcases En.mp hx with z | z
   ·subst z;have:=yC y.2 b;have:=h y Ep;simp only;omega
   ·have:=h x (Ek _ z);omega
  ·rcases En.mp hx with z | z
   ·subst z;have:=h x Ep;omega
   ·exact ih (fun x hx=>h x (Ek _ hx)) x z
theorem An (ks:List Int)(b:Int):fb (rg ks) (Sum.inl b:bR) (V.bl true)=rg (jy ks b):=by
 unfold fb jy rg
 have e:((ks.map fun k=>((Sum.inl k:bR),V.bl true)).any fun kv=>decide (kv.1=(Sum.inl b:bR)))=decide (b∈ks):=by
  rw[List.any_map]
  induction ks with
  | nil=>rfl
  | cons x r ih=>rw[F8,ih];by_cases h:x=b<;>simp[h,eq_comm]
 rw[e]
 by_cases h:b∈ks
 ·rw[Ee (EC h),Ee h,Fi]
  apply F4
  intro k _;simp only[Function.comp];split<;>rfl
 ·rw[Ed (by simp[h]),Ed h,EE]
  rfl
theorem Av (ks:List Int)(b:Int):(db (rg ks) (Sum.inl b:bR)).isSome=decide (b∈ks):=by
 rw[<-jg];unfold rg;rw[List.any_map]
 induction ks with
 | nil=>rfl
 | cons x r ih=>rw[F8,ih];by_cases h:x=b<;>simp[h,eq_comm]
section
variable {H:Hp}
abbrev C8 (H:Hp)(cs:List Addr)(ci:List (Int×List Int)):Prop:=Paired (fun a (x:Int×List Int)=>H a=some (.dK (rg x.2))) cs ci
theorem jm:∀ {cs:List Addr}{ci:List (Int×List Int)}(a:Int),C8 H cs ci ->
  (db (dW cs ci) (Sum.inl a:bR)=none/\k9 ci a=[]/\∀ b,bN ci a b=ci++[(a,[b])]) \/
  ∃ ad,ad∈cs/\db (dW cs ci) (Sum.inl a:bR)=some (.ref ad)/\H ad=some (.dK (rg (k9 ci a))) /\
   ∀ b (H':Hp),cs.Nodup->(∀ x∈cs,x≠ad->∀ o,H x=some o->H' x=some o)->H' ad=some (.dK (rg (jy (k9 ci a) b)))->C8 H' cs (bN ci a b)/\dW cs (bN ci a b)=dW cs ci
 | _,_,a,.nil=>.inl ⟨rfl,rfl,fun b=>rfl⟩
 | c::cs,x::ci,a,.cons e r=>by
  by_cases h:x.1=a
  ·refine .inr ⟨c,Ep,ji (p:=((Sum.inl x.1:bR),V.ref c)) (by rw[h]),by simp only[k9,Ee h];exact e,fun b H' nd k k'=>?_⟩
   simp only[k9,Ee h]at k';simp only[bN,Ee h];refine⟨.cons k' (kx r fun y hy o z=>k y (Ek _ hy) (fun q=>(EQ.mp nd).1 (by rw[<-q];exact hy)) o z),rfl⟩
  ·have hk:db (dW (c::cs) (x::ci)) (Sum.inl a:bR)=db (dW cs ci) (Sum.inl a:bR):=jh (p:=((Sum.inl x.1:bR),V.ref c)) (fun z=>h (Sum.inl.inj z))
   have hc:k9 (x::ci) a=k9 ci a:=by simp only[k9,Ed h]
   rcases jm a r with ⟨h1,h2,h3⟩ | ⟨ad,h1,h2,h3,h4⟩
   ·exact .inl ⟨by rw[hk];exact h1,by rw[hc];exact h2,fun b=>by simp only[bN,Ed h,h3 b,List.cons_append]⟩
   ·refine .inr ⟨ad,Ek _ h1,by rw[hk];exact h2,by rw[hc];exact h3,fun b H' nd k k'=>?_⟩
    rw[hc]at k';obtain⟨n1,n2⟩:=EQ.mp nd;obtain⟨q1,q2⟩:=h4 b H' n2 (fun y hy=>k y (Ek _ hy)) k';simp only[bN,Ed h];refine⟨.cons (k c Ep (fun z=>n1 (by rw[z];exact h1)) _ e) q1,?_⟩
    show _::dW cs (bN ci a b)=_::dW cs ci
    rw[q2]
theorem oj:∀ {cs:List Addr}{ci:List (Int×List Int)}(a:Int)(ks:List Int)(l:Addr),cs.length=ci.length->dW (cs++[l]) (ci++[(a,ks)])=dW cs ci++[(Sum.inl a,V.ref l)]
 | [],[],_,_,_,_=>rfl
 | c::cs,x::ci,a,ks,l,h=>by
  show _::dW (cs++[l]) (ci++[(a,ks)])=_
  rw[oj a ks l (by simpa using h)];rfl
theorem qk:∀ {cs:List Addr}{ci:List (Int×List Int)},cs.length=ci.length->(dW cs ci).length=ci.length
 | [],[],_=>rfl
 | c::cs,x::ci,h=>by show (dW cs ci).length+1=_;rw[qk (by simpa using h)];rfl
end
end Wz
namespace L2
open PySem PySem.Spec PyProof.Rows
def BE (td ty tx:TE):TE:=fun σ H Q=>td σ H fun x H1=>∃ a,x=.ref a/\BX H1 a/\ty σ H1 fun y H2=>tx σ H2 fun z H3=>∃ kvs k,H3 a=some (.dK kvs)/\y=kV k/\kvs.length<sizeLine /\
 (∀ v,db kvs k=some v->Q v H3)/\(db kvs k=none->Q z (upd H3 a (.dK (fb kvs k z))))
theorem yS {X:Cx}{o e f:Expr}{apos cpos:Pos}{td ty tx:TE}(ho:PE X o td)(he:PE X e ty)(hf:PE X f tx)(m:M2 X o "setdefault" apos e f cpos):PE X (.Call (.Attribute o "setdefault" apos) [e,f] [] cpos) (BE td ty tx):=by
 intro pins s σ H Q I h;refine wpAny_Call_method m.base m.few m.line PySem.F.plainAttrs_dict PySem.F.slot_dict_setdefault PySem.F.type_dict_setdefault (bA (ho pins s σ H _ I h) fun u s1 ⟨x,H1,I1,rx,a,ex,d,q1⟩=>?_);subst ex;obtain rfl:u=Value.ref a:=rx;obtain⟨t1,t2,_⟩:=rc I1 d;refine⟨t1,t2,?_⟩;rw[m.trees]
 refine FP rfl (Fl (EZ (bA (he pins s1 σ H1 _ I1 q1) fun iv s2 ⟨y,H2,I2,ry,q2⟩ =>
  EZ (bA (hf pins s2 σ H2 _ I2 q2) fun fv s3 ⟨z,H3,I3,rz,kvs,k,ea,ey,hlt,q3,q4⟩=>Fv ?_))))
 subst ey;obtain⟨hz,hd,vs,rel,dd⟩:=yf I3.hok ea
 refine call_meetsIn PySem.F.slot_dict_setdefault dd.typeIs PySem.F.entry_dict_setdefault (PySem.F.args_dict_setdefault_3 _ _ _) (kt_meets_setdefault (bH X.prog X.w) a (kC ry) hd fv)
  ⟨vs,dd,by rw[<-rel.length];exact hz,fun v' hv'=>?_,fun hn h' dd' hs=>?_⟩
 ·cases l:db kvs k with
  | none=>have:=rel.val k;rw[l,hv']at this;exact this.elim
  | some v =>
   have:=rel.val k;rw[l,hv']at this;exact⟨v,H3,I3.tok _,this,q3 v l⟩
 ·cases l:db kvs k with
  | some v=>have:=rel.val k;rw[l,hn]at this;exact this.elim
  | none =>
   have he:∃ q,h'.get? a=some q:=let ⟨q,_,_,hq,_⟩:=dd';⟨q,hq⟩;exact⟨z,_,m8 I3 (by rw[ea];exact True.intro) hs he (uH (by have:=iS kvs k z;omega) hd (rel.put k rz) dd'),rz,q4 l⟩
end L2
namespace Wz
open PySem L2
theorem zA {A:Around}{k n:Nat}(hr:b8 k A)(h:n<=200):A.units+n<cLine:=by have:=hr.un;omega
theorem cc:decide (V.str "come" = V.str "come")=true:=by decide +kernel
theorem cg:decide (V.str "come" = V.str "go")=false:=by decide +kernel
theorem ce:decide (V.str "come" = V.str "exchange")=false:=by decide +kernel
theorem gc:decide (V.str "go" = V.str "come")=false:=by decide +kernel
theorem gg:decide (V.str "go" = V.str "go")=true:=by decide +kernel
theorem ge:decide (V.str "go" = V.str "exchange")=false:=by decide +kernel
theorem ec:decide (V.str "exchange" = V.str "come")=false:=by decide +kernel
theorem eg:decide (V.str "exchange" = V.str "go")=false:=by decide +kernel
theorem ee:decide (V.str "exchange" = V.str "exchange")=true:=by decide +kernel
def dq:ay->Str
 | .come _=>"come"
 | .go _=>"go"
 | .exch _ _=>"exchange"
def b9 (d:ay):List V:=V.str (dq d)::(names d).map V.int
theorem jo (d:ay):cx d=.tup (b9 d):=by cases d<;>rfl
theorem yc (d:ay):mP (b9 d) (some 1) none=(names d).map V.int:=by cases d<;>rfl
theorem zK (d:ay):¬ (HT.sIx (b9 d).length 0 (some 1)=0/\HT.sIx (b9 d).length (b9 d).length none=(b9 d).length):=by cases d<;>(intro h;have h1:=h.1;simp[b9,names,HT.sIx]at h1)
def bS (w:List (Int×Int))(m:Int->Int->Bool):ay->zy
 | .come g=>if (look w g).isSome then .already else .done
 | .go g=>match look w g with | none=>.noguest g | some x=>if x=g then .done else .masked
 | .exch a b=>match look w a with
  | none=>.noguest a
  | some _=>match look w b with
   | none=>.noguest b
   | some _=>if a=b then .same else if m a b then .met else .done
theorem zY (st:bZ)(d:ay):aX st d=bS st.worn (iU st.circ) d:=by cases d<;>rfl
theorem re {w:List (Int×Int)}{m m':Int->Int->Bool}(h:∀ a b,m a b=m' a b)(d:ay):bS w m d=bS w m' d:=by cases d<;>simp only[bS,h]
def gv (a b:Int):Int×Int:=if b<a then (b,a) else (a,b)
def pL (ml:List (Int×Int))(a b:Int):Bool:=decide (gv a b∈ml)
def wu (ml:List (Int×Int)):List (List bR×V):=ml.map fun p=>([Sum.inl p.1,Sum.inl p.2],V.bl true)
def nY (ml:List (Int×Int))(p:Int×Int):List (Int×Int):=if p∈ml then ml else ml++[p]
def Bj:zy->List V
 | .done=>[.str "done",.non]
 | .already=>[.str "AlreadyIn",.non]
 | .masked=>[.str "Masked",.non]
 | .same=>[.str "Same",.non]
 | .met=>[.str "Met",.non]
 | .noguest g=>[.str "NoGuest",.int g]
def qN (w:List (Int×Int)):ay->List (Int×Int)
 | .come g=>put w g g
 | .go g=>b7 w g
 | .exch a b=>put (put w a (wr w b)) b (wr w a)
def nZ (ml:List (Int×Int)):ay->List (Int×Int)
 | .come _=>ml
 | .go _=>ml
 | .exch a b=>nY ml (gv a b)
theorem uD (st:bZ)(d:ay):(after st d).worn=qN st.worn d:=by cases d<;>rfl
theorem wv (ml:List (Int×Int))(p:Int×Int):((wu ml).any fun kv=>decide (kv.1=([Sum.inl p.1,Sum.inl p.2]:List bR)))=decide (p∈ml):=by
 unfold wu;rw[List.any_map]
 induction ml with
 | nil=>rfl
 | cons x r ih =>
  rw[F8,ih]
  have:(decide ((([Sum.inl x.1,Sum.inl x.2]:List bR))=[Sum.inl p.1,Sum.inl p.2]))=decide (p=x):=by
   by_cases h:p=x
   ·subst h;simp
   ·rw[EA h,EA]
    intro z;simp only[List.cons.injEq,Sum.inl.injEq,and_true]at z;exact h (FZ z.1.symm z.2.symm)
  simp only[Function.comp];rw[this]
  by_cases h:p=x<;>simp[h]
theorem Ab (ml:List (Int×Int))(p:Int×Int):(db (wu ml) ([Sum.inl p.1,Sum.inl p.2]:List bR)).isSome=decide (p∈ml):=by rw[<-jg,wv]
theorem Aa (ml:List (Int×Int))(p:Int×Int):fb (wu ml) ([Sum.inl p.1,Sum.inl p.2]:List bR) (V.bl true)=wu (nY ml p):=by
 unfold fb nY;rw[wv]
 by_cases h:p∈ml
 ·rw[Ee (EC h),Ee h]
  unfold wu;rw[Fi]
  apply F4
  intro x _;simp only[Function.comp];split<;>rfl
 ·rw[Ed (by simp[h]),Ed h]
  unfold wu;rw[EE];rfl
theorem yy {w:List (Int×Int)}{m:Int->Int->Bool}{d:ay}{i:Nat}{x:Int}(hc:dq d≠"come")(hp:∀ y∈(names d).take i,(look w y).isSome=true)(hi:(names d)[i]? = some x)(hx:look w x=none):bS w m d=.noguest x:=by
 cases d with
 | come g=>exact absurd rfl hc
 | go g =>
  cases i with
  | zero=>simp[names]at hi;subst hi;simp[bS,hx]
  | succ i=>simp[names]at hi
 | exch a b =>
  cases i with
  | zero=>simp[names]at hi;subst hi;simp[bS,hx]
  | succ i =>
   cases i with
   | zero =>
    simp[names]at hi;subst hi;have:=hp a (by simp[names]);obtain⟨v,hv⟩:=EL.mp this;simp[bS,hv,hx]
   | succ i=>simp[names]at hi
inductive ug (vs:List V) (H:Hp) (Q:VK) (E_:XK):Prop
 | mk (a b:Int) (h_0:vs=[.int a,.int b]) (h_1:∀ t,H t=none->Q (.ref t) (upd H t (.tup [.int (gv a b).1,.int (gv a b).2]))):ug vs H Q E_
inductive wH (vs:List V) (H:Hp) (Q:VK) (E_:XK):Prop
 | mk (w m t:Addr) (wl ml:List (Int×Int)) (d:ay) (h_0:vs=[.ref w,.ref m,.ref t]) (h_1:H w=some (.dK (dk wl))) (h_2:H m=some (.dT (wu ml))) (h_3:H t=some (cx d)) (h_4:∀ (r:Addr)(H':Hp),H r=none->aF H H'->H' r=some (.tup (Bj (bS wl (pL ml) d)))->Q (.ref r) H'):wH vs H Q E_
inductive nk (vs:List V) (H:Hp) (Q:VK) (E_:XK):Prop
 | mk (w m t:Addr) (wl ml:List (Int×Int)) (d:ay) (h_0:vs=[.ref w,.ref m,.ref t]) (h_1:H w=some (.dK (dk wl))) (h_2:H m=some (.dT (wu ml))) (h_3:H t=some (cx d)) (h_4:wl.length<=1000) (h_5:ml.length<=4000) (h_6:bS wl (pL ml) d=.done) (h_7:∀ H',H' w=some (.dK (dk (qN wl d)))->H' m=some (.dT (wu (nZ ml d)))->(∀ b o,H b=some o->b≠w->b≠m->H' b=some o)->Q .non H'):nk vs H Q E_
structure d9 (st:bZ):Prop where
 wn:(aD st.worn).Nodup
 wh:∀ g m,look st.worn g=some m↔look st.hold m=some g
 ow:∀ g m,look st.worn g=some m->m∈aD st.worn
 sm:∀ g m,look st.worn g=some m->cK m
 cy:∀ a b,iU st.circ a b=iU st.circ b a
def bI (st:bZ)(d:ay):bZ:=if aX st d=.done then after st d else st
inductive r0 (c:HX) (vs:List V) (H:Hp) (Q:VK) (E:XK):Prop
 | mk (p t:Addr) (A:HA) (st:bZ) (d:ay) (h_0:vs=[.ref p,.ref t]) (h_1:H t=some (cx d)) (h_2:aH c.C H p A st) (h_3:wZ st) (h_4:d9 st) (h_5:(∀ g∈names d,cK g)) (h_6:pJ c H p A st d Q E):r0 c vs H Q E
def bP (m c:Int):List Int:=(List.range m.toNat).map fun (k:Nat)=>uN (k:Int) c
theorem xn (k c:Int):cK (uN k c):=by
 unfold cK uN;have h:∀ x:Int,0<=x%2147483647/\x%2147483647<2147483647:=fun x=>⟨FY _ (by decide),FB _ (by decide)⟩;dsimp only;generalize hx:(k*(1+iH c*1234567891%2147483646)+iH c/2147483646)%2147483647=x;have:=h (k*(1+iH c*1234567891%2147483646)+iH c/2147483646);rw[hx]at this
 have e:(10:Nat) ^ 100=10 ^ 15*10 ^ 85:=by rw[<-Nat.pow_add]
 have e2:(0:Nat)<10 ^ 85:=Nat.pow_pos (by decide)
 have:x.natAbs<10 ^ 15/\(x+997852516353).natAbs<10 ^ 15:=by constructor<;>omega
 split
 ·calc _<10 ^ 15:=this.2
   _<=10 ^ 15*10 ^ 85:=Nat.le_mul_of_pos_right _ e2
   _=10 ^ 100:=e.symm
 ·calc _<10 ^ 15:=this.1
   _<=10 ^ 15*10 ^ 85:=Nat.le_mul_of_pos_right _ e2
   _=10 ^ 100:=e.symm
theorem qP (x:Int):∀ (c:List (Int×List Int))(a b:Int),k9 (bN c a b) x=if x=a then jy (k9 c a) b else k9 c x
 | [],a,b=>by
  by_cases h:x=a
  ·subst h;simp[bN,k9,jy]
  ·simp[bN,k9,h,Ex h]
 | y::r,a,b=>by
  unfold bN
  by_cases h:y.1=a
  ·rw[Ee h]
   by_cases hx:x=a
   ·subst hx;simp[k9,h]
   ·have:¬ y.1=x:=fun z=>hx (z.symm.trans h)
    simp[k9,hx,this]
  ·rw[Ed h]
   by_cases hx:x=a
   ·subst hx
    simp only[k9,Ed h,if_true];rw[qP x r x b,Ee rfl]
   ·simp only[k9,qP x r a b,Ed hx]
theorem sZ {ks:List Int}{b y:Int}:y∈jy ks b↔y∈ks\/y=b:=by
 unfold jy;split
 ·rename_i h
  constructor
  ·exact .inl
  ·rintro (z | z)
   ·exact z
   ·rw[z];exact h
 ·simp
theorem wt (c:List (Int×List Int))(a b x y:Int):iU (bN c a b) x y=(iU c x y||(decide (x=a)&&decide (y=b))):=by
 unfold iU;rw[qP]
 by_cases h:x=a
 ·subst h
  rw[Ee rfl]
  by_cases hy:y=b
  ·have:y∈jy (k9 c x) b:=sZ.mpr (.inr hy)
   simp[hy,this];rw[hy]at this;exact this
  ·have:(y∈jy (k9 c x) b)↔y∈k9 c x:=by rw[sZ];simp[hy]
   simp[hy,this]
 ·rw[Ed h];simp[h]
theorem rl (c:List (Int×List Int))(a b x y:Int):iU (bN (bN c a b) b a) x y=(iU c x y||(decide (x=a)&&decide (y=b))||(decide (x=b)&&decide (y=a))):=by rw[wt,wt]
theorem lA {l:List (Int×Int)}(h:(aD l).Nodup)(g m:Int):(aD (put l g m)).Nodup:=by
 rw[sQ];split
 ·exact h
 ·rename_i n
  exact ni h n
theorem wA {l:List (Int×Int)}(h:(aD l).Nodup)(g:Int):(aD (b7 l g)).Nodup:=by
 unfold aD b7 at *;exact (List.filter_sublist.map _).nodup h
theorem jR:d9 ⟨[],[],[],[]⟩:=by
 refine⟨Gg,fun g m=>?_,fun g m h=>?_,fun g m h=>?_,fun a b=>rfl⟩
 ·simp[look]
 ·simp[look]at h
 ·simp[look]at h
theorem lj {st:bZ}{d:ay}(G:d9 st)(sm:∀ g∈names d,cK g):d9 (bI st d):=by
 unfold bI
 by_cases hd:aX st d=.done
 ·rw[Ee hd]
  have kw:∀ g m,look st.worn g=some m->g∈aD st.worn:=fun g m h=>bU.mp (by rw[h];rfl)
  cases d with
  | come g =>
   have hn:look st.worn g=none:=by
    cases e:look st.worn g with
    | none=>rfl
    | some m=>simp[aX,e]at hd
   have hh:look st.hold g=none:=by
    cases e:look st.hold g with
    | none=>rfl
    | some m =>
     have:=G.ow m g ((G.wh m g).mpr e);rw[<-bU,hn]at this;cases this
   refine⟨lA G.wn g g,fun x m=>?_,fun x m h=>?_,fun x m h=>?_,G.cy⟩
   ·show look (put st.worn g g) x=some m↔look (put st.hold g g) m=some x
    rw[bE,bE]
    by_cases hx:x=g
    ·subst hx
     by_cases hm:m=x
     ·subst hm;simp
     ·rw[Ee rfl,Ed hm]
      constructor
      ·intro z;exact absurd (Ei z).symm hm
      ·intro z
       have:=(G.wh x m).mpr z;rw[hn]at this;cases this
    ·rw[Ed hx]
     by_cases hm:m=g
     ·subst hm
      rw[Ee rfl];constructor
      ·intro z
       have:=(G.wh x m).mp z;rw[hh]at this;cases this
      ·intro z;exact absurd (Ei z).symm hx
     ·rw[Ed hm];exact G.wh x m
   ·have h:look (put st.worn g g) x=some m:=h
    show m∈aD (put st.worn g g)
    rw[bE]at h;rw[<-bU,bE]
    by_cases hx:x=g
    ·rw[Ee hx]at h;cases h;rw[Ee rfl];rfl
    ·rw[Ed hx]at h
     have:=G.ow x m h;rw[<-bU]at this;split
     ·rfl
     ·exact this
   ·have h:look (put st.worn g g) x=some m:=h
    rw[bE]at h
    by_cases hx:x=g
    ·rw[Ee hx]at h;cases h;exact sm g (by simp[names])
    ·rw[Ed hx]at h;exact G.sm x m h
  | go g =>
   have hg:look st.worn g=some g:=by
    cases e:look st.worn g with
    | none=>simp[aX,e]at hd
    | some m =>
     by_cases z:m=g
     ·rw[z]
     ·simp[aX,e,z]at hd
   have hh:look st.hold g=some g:=(G.wh g g).mp hg;refine⟨wA G.wn g,fun x m=>?_,fun x m h=>?_,fun x m h=>?_,G.cy⟩
   ·show look (b7 st.worn g) x=some m↔look (b7 st.hold g) m=some x
    rw[er,er]
    by_cases hx:x=g
    ·subst hx
     rw[Ee rfl]
     by_cases hm:m=x
     ·rw[Ee hm];simp
     ·rw[Ed hm]
      constructor
      ·intro z;cases z
      ·intro z
       have:=(G.wh x m).mpr z;rw[hg]at this;exact absurd (Ei this).symm hm
    ·rw[Ed hx]
     by_cases hm:m=g
     ·subst hm
      rw[Ee rfl];constructor
      ·intro z
       have:=(G.wh x m).mp z;rw[hh]at this;exact absurd (Ei this).symm hx
      ·intro z;cases z
     ·rw[Ed hm];exact G.wh x m
   ·have h:look (b7 st.worn g) x=some m:=h
    show m∈aD (b7 st.worn g)
    rw[er]at h
    by_cases hx:x=g
    ·rw[Ee hx]at h;cases h
    ·rw[Ed hx]at h
     refine lv.mpr ⟨G.ow x m h,fun z=>?_⟩;rw[z]at h;have:=(G.wh x g).mp h;rw[hh]at this;exact hx (Ei this).symm
   ·have h:look (b7 st.worn g) x=some m:=h
    rw[er]at h
    by_cases hx:x=g
    ·rw[Ee hx]at h;cases h
    ·rw[Ed hx]at h;exact G.sm x m h
  | exch a b =>
   obtain⟨ma,ea⟩:∃ m,look st.worn a=some m:=by
    cases e:look st.worn a with
    | none=>simp[aX,e]at hd
    | some m=>exact⟨m,rfl⟩
   obtain⟨mb,eb⟩:∃ m,look st.worn b=some m:=by
    cases e:look st.worn b with
    | none=>simp[aX,ea,e]at hd
    | some m=>exact⟨m,rfl⟩
   have hab:a≠b:=fun z=>by simp[aX,ea,eb,z]at hd
   have wa:wr st.worn a=ma:=by unfold wr;rw[ea];rfl
   have wb:wr st.worn b=mb:=by unfold wr;rw[eb];rfl
   have ha:=(G.wh a ma).mp ea;have hb:=(G.wh b mb).mp eb
   have hmm:ma≠mb:=fun z=>by rw[z,hb]at ha;exact hab (Ei ha).symm
   have lw:∀ x,look (put (put st.worn a mb) b ma) x=if x=b then some ma else if x=a then some mb else look st.worn x:=fun x=>by rw[bE,bE]
   have lh:∀ x,look (put (put st.hold mb a) ma b) x=if x=ma then some b else if x=mb then some a else look st.hold x:=fun x=>by rw[bE,bE]
   show d9 { worn:=put (put st.worn a (wr st.worn b)) b (wr st.worn a),hold:=put (put st.hold (wr st.worn b) a) (wr st.worn a) b,circ:=bN (bN st.circ a b) b a,deeds:=st.deeds++[.exch a b] }
   rw[wa,wb];refine⟨lA (lA G.wn a mb) b ma,fun x m=>?_,fun x m h=>?_,fun x m h=>?_,fun x y=>?_⟩
   ·show look (put (put st.worn a mb) b ma) x=some m↔look (put (put st.hold mb a) ma b) m=some x
    rw[lw,lh]
    by_cases hxb:x=b
    ·subst hxb
     rw[Ee rfl]
     by_cases hm:m=ma
     ·rw[Ee hm,hm];simp
     ·rw[Ed hm]
      constructor
      ·intro z;exact absurd (Ei z).symm hm
      ·intro z
       by_cases hm2:m=mb
       ·rw[Ee hm2]at z;exact absurd (Ei z) hab
       ·rw[Ed hm2]at z
        have:=(G.wh x m).mpr z;rw[eb]at this;exact absurd (Ei this).symm hm2
    ·rw[Ed hxb]
     by_cases hxa:x=a
     ·subst hxa
      rw[Ee rfl]
      by_cases hm:m=ma
      ·rw[Ee hm]
       constructor
       ·intro z;exact absurd ((Ei z).trans hm).symm hmm
       ·intro z;exact absurd (Ei z).symm hab
      ·rw[Ed hm]
       by_cases hm2:m=mb
       ·rw[Ee hm2,hm2];simp
       ·rw[Ed hm2]
        constructor
        ·intro z;exact absurd (Ei z).symm hm2
        ·intro z
         have:=(G.wh x m).mpr z;rw[ea]at this;exact absurd (Ei this).symm hm
     ·rw[Ed hxa]
      by_cases hm:m=ma
      ·rw[Ee hm]
       constructor
       ·intro z
        have:=(G.wh x m).mp z;rw[hm,ha]at this;exact absurd (Ei this).symm hxa
       ·intro z;exact absurd (Ei z).symm hxb
      ·rw[Ed hm]
       by_cases hm2:m=mb
       ·rw[Ee hm2]
        constructor
        ·intro z
         have:=(G.wh x m).mp z;rw[hm2,hb]at this;exact absurd (Ei this).symm hxb
        ·intro z;exact absurd (Ei z).symm hxa
       ·rw[Ed hm2];exact G.wh x m
   ·have h:look (put (put st.worn a mb) b ma) x=some m:=h
    show m∈aD (put (put st.worn a mb) b ma)
    have key:∀ y,y∈aD st.worn->y∈aD (put (put st.worn a mb) b ma):=fun y hy=>by
     rw[<-bU]at hy ⊢;rw[lw];split
     ·rfl
     ·split
      ·rfl
      ·exact hy
    rw[lw]at h;split at h
    ·cases h;exact key _ (G.ow a _ ea)
    ·split at h
     ·cases h;exact key _ (G.ow b _ eb)
     ·exact key _ (G.ow x m h)
   ·have h:look (put (put st.worn a mb) b ma) x=some m:=h
    rw[lw]at h;split at h
    ·cases h;exact G.sm a _ ea
    ·split at h
     ·cases h;exact G.sm b _ eb
     ·exact G.sm x m h
   ·show iU (bN (bN st.circ a b) b a) x y=iU (bN (bN st.circ a b) b a) y x
    rw[rl,rl,G.cy x y];cases decide (x=a)<;>cases decide (x=b)<;>cases decide (y=a)<;>cases decide (y=b)<;>simp
 ·rw[Ed hd];exact G
theorem Ao {K:PySem.W.Frag}{H:Hp}{l:Addr}{ns:List Int}(h:bz K H l (ns.map V.int)):RD K H 2 (.ref l) (Cp ns):=by
 refine RD.lst h ?_;clear h
 induction ns with
 | nil=>exact .nil
 | cons n r ih=>exact .cons (RD.flat rfl 1) ih
def zk (xs:List V):Dt:=.sq true (xs.map fun v=>.at v)
theorem eX {K:PySem.W.Frag}{H:Hp}{l:Addr}{xs:List V}(h:H l=some (.tup xs))(hf:∀ x∈xs,gL x=true):RD K H 2 (.ref l) (zk xs):=by
 refine RD.tup (dv.of h) ?_;clear h
 induction xs with
 | nil=>exact .nil
 | cons n r ih=>exact .cons (RD.flat (hf n Ep) 1) (ih fun x hx=>hf x (Ek _ hx))
theorem kW {xs ys:List V}:zk xs=zk ys↔xs=ys:=by
 constructor
 ·intro h
  unfold zk at h;injection h with _ h;revert ys
  induction xs with
  | nil=>intro ns h;cases ns with | nil=>rfl | cons _ _=>cases h
  | cons m ms ih =>
   intro ns h
   cases ns with
   | nil=>cases h
   | cons n ns =>
    rw[EF,EF]at h;injection h with h1 h2;injection h1 with h1;rw[h1,ih h2]
 ·intro h;rw[h]
def BQ (P:Program)(w:World)(K:PySem.W.Frag)(mg:Str->Option Value)(base:Heap)(c:HX):Prop:=∃ (fI:Addr)(fd:FuncData),Mk K c.C fI/\aW P w K mg base dB 1 fI fd ["self"] (wJ c.C)/\d8 K fd ["self"] []
theorem AB {X:Cx}{c:HX}{p pos:Pos}(M:BQ X.prog X.w X.K X.mg X.base c)(U:HT X.K X.mg c)(hr:b8 2 X.A)(hg:Gl X "Hall"):PE X (.Call (.Name "Hall" p) [] [] pos) (AG c.C (wJ c.C) [] E0 pX):=by
 obtain⟨fI,fd,M,G,hb⟩:=M;exact yT M G hr hg U.mC hb .nil fM
structure Ev (c:HX)(H0 H:Hp)(x:Addr)(B:HA)(st:bZ):Prop where
 same:aF H0 H
 hall:aH c.C H x B st
 good:d9 st
 nfp:∀ b∈B.fp,H0 b=none
theorem Ev.on {c:HX}{H0 H H':Hp}{x:Addr}{B:HA}{st:bZ}(e:Ev c H0 H x B st)(s:aF H H'):Ev c H0 H' x B st:=⟨e.same.trans s,e.hall.mono s,e.good,e.nfp⟩
theorem Ev.moved {c:HX}{H0 H H':Hp}{x:Addr}{B:HA}{st st':bZ}(e:Ev c H0 H x B st)(m:p7 c.C H x B st' H')(g:d9 st') :
  ∃ B',Ev c H0 H' x B' st'/\(∀ y o,H y=some o->y∉B.fp->H' y=some o/\y∉B'.fp)/\Tr H H':=by
 obtain⟨B',S,k,f,t⟩:=m;refine⟨B',⟨fun b o q=>k b o (e.same b o q) (fun z=>by rw[e.nfp b z]at q;cases q),S,g,fun b hb=>?_⟩,fun y o q n=>⟨k y o q n,fun z=>?_⟩,t⟩
 ·rcases f b hb with z | z
  ·exact e.nfp b z
  ·exact e.same.free z
 ·rcases f y z with z | z
  ·exact n z
  ·rw[q]at z;cases z
theorem Ev.write {c:HX}{H0 H H':Hp}{x:Addr}{B:HA}{st:bZ}{ws:List Addr}(e:Ev c H0 H x B st)(k:Kp ws H H')(h1:∀ y∈ws,y∉B.fp)(h2:x∉ws)(h3:∀ y∈ws,H0 y=none)(h4:∀ b xs,H b=some (.tup xs)->b∉ws):Ev c H0 H' x B st :=
 ⟨fun b o q=>k b o (e.same b o q) (fun z=>by rw[h3 b z]at q;cases q),e.hall.kept k h2 (fun b hb z=>h1 b z hb) h4,e.good,e.nfp⟩
theorem Ev.fits {st:bZ}(h1:st.worn.length<=100)(h2:st.hold.length<=100)(h3:st.circ.length<=900)(h4:∀ x∈st.circ,x.2.length<=900)(h5:st.deeds.length<=900):wZ st:=⟨by omega,by omega,by omega,fun x hx=>by have:=h4 x hx;omega,by omega⟩
def Of (L:List Int)(st:bZ):Prop:=(∀ g∈aD st.worn,g∈L)/\(∀ g∈aD st.hold,g∈L)/\(aD st.hold).Nodup
theorem of_empty {L:List Int}:Of L ⟨[],[],[],[]⟩:=⟨fun g h=>by simp[aD]at h,fun g h=>by simp[aD]at h,Gg⟩
theorem gQ {l:List (Int×Int)}{g m x:Int}:x∈aD (put l g m)↔x∈aD l\/x=g:=by
 rw[sQ];split
 ·rename_i h
  constructor
  ·exact .inl
  ·rintro (z | z)
   ·exact z
   ·rw[z];exact h
 ·simp
theorem rA {L:List Int}{st:bZ}{d:ay}(G:d9 st)(o:Of L st)(hn:∀ g∈names d,g∈L):Of L (bI st d):=by
 unfold bI
 by_cases hd:aX st d=.done
 ·rw[Ee hd]
  obtain⟨o1,o2,o3⟩:=o
  cases d with
  | come g =>
   refine⟨fun x hx=>?_,fun x hx=>?_,lA o3 g g⟩
   ·rcases gQ.mp (show x∈aD (put st.worn g g) from hx) with z | z
    ·exact o1 x z
    ·rw[z];exact hn g (by simp[names])
   ·rcases gQ.mp (show x∈aD (put st.hold g g) from hx) with z | z
    ·exact o2 x z
    ·rw[z];exact hn g (by simp[names])
  | go g =>
   exact⟨fun x hx=>o1 x (lv.mp (show x∈aD (b7 st.worn g) from hx)).1,fun x hx=>o2 x (lv.mp (show x∈aD (b7 st.hold g) from hx)).1,wA o3 g⟩
  | exch a b =>
   obtain⟨ma,ea⟩:∃ m,look st.worn a=some m:=by
    cases e:look st.worn a with
    | none=>simp[aX,e]at hd
    | some m=>exact⟨m,rfl⟩
   obtain⟨mb,eb⟩:∃ m,look st.worn b=some m:=by
    cases e:look st.worn b with
    | none=>simp[aX,ea,e]at hd
    | some m=>exact⟨m,rfl⟩
   have wa:wr st.worn a=ma:=by unfold wr;rw[ea];rfl
   have wb:wr st.worn b=mb:=by unfold wr;rw[eb];rfl
   refine⟨fun x hx=>?_,fun x hx=>?_,lA (lA o3 _ _) _ _⟩
   ·rcases gQ.mp (show x∈aD (put (put st.worn a (wr st.worn b)) b (wr st.worn a)) from hx) with z | z
    ·rcases gQ.mp z with z | z
     ·exact o1 x z
     ·rw[z];exact hn a (by simp[names])
    ·rw[z];exact hn b (by simp[names])
   ·rcases gQ.mp (show x∈aD (put (put st.hold (wr st.worn b) a) (wr st.worn a) b) from hx) with z | z
    ·rcases gQ.mp z with z | z
     ·exact o2 x z
     ·rw[z,wb];exact o1 _ (G.ow b mb eb)
    ·rw[z,wa];exact o1 _ (G.ow a ma ea)
 ·rw[Ed hd];exact o
theorem vi {L:List Int}{st:bZ}(G:d9 st)(o:Of L st):st.worn.length<=L.length/\st.hold.length<=L.length:=by
 have e1:st.worn.length=(aD st.worn).length:=by simp[aD]
 have e2:st.hold.length=(aD st.hold).length:=by simp[aD]
 exact⟨by rw[e1];exact eC G.wn o.1,by rw[e2];exact eC o.2.2 o.2.1⟩
theorem vf (st:bZ)(d:ay):(bI st d).deeds.length<=st.deeds.length+1:=by
 unfold bI;split
 ·cases d<;>simp[after]
 ·omega
theorem xI (st:bZ)(d:ay):(bI st d).worn=if aX st d=.done then qN st.worn d else st.worn:=by
 unfold bI;split
 ·exact uD st d
 ·rfl
def Cu:zy->Str
 | .done=>"done"
 | .already=>"AlreadyIn"
 | .masked=>"Masked"
 | .same=>"Same"
 | .met=>"Met"
 | .noguest _=>"NoGuest"
theorem Dq (o:zy):(Bj o)[0]? = some (V.str (Cu o)):=by cases o<;>rfl
theorem xL (o:zy):decide (V.str (Cu o)=V.str "done")=decide (o=.done):=by
 cases o with
 | done=>exact (show decide (V.str "done" = V.str "done")=true by decide +kernel)
 | already=>exact (show decide (V.str "AlreadyIn" = V.str "done")=false by decide +kernel)
 | masked=>exact (show decide (V.str "Masked" = V.str "done")=false by decide +kernel)
 | same=>exact (show decide (V.str "Same" = V.str "done")=false by decide +kernel)
 | met=>exact (show decide (V.str "Met" = V.str "done")=false by decide +kernel)
 | noguest g =>
  rw[EA (show ¬ zy.noguest g=.done by simp)];exact (show decide (V.str "NoGuest" = V.str "done")=false by decide +kernel)
theorem qm (m c:Int):(bP m c).length=m.toNat:=by unfold bP;simp
theorem Ev.track {c:HX}{H0 H:Hp}{x:Addr}{B:HA}{st:bZ}(e:Ev c H0 H x B st){y:Addr}(h:H y=none):y∉B.fp:=fun z=>by
 obtain⟨o,q⟩:=e.hall.tracked z;rw[h]at q;cases q
inductive nv (vs:List V) (H:Hp) (Q:VK) (E_:XK):Prop
 | mk (dr m c:Int) (h_0:vs=[.int dr,.int m,.int c]) (h_1:(0<=dr/\dr<=100000)) (h_2:(2<=m/\m<=40)) (h_3:∀ (t:Addr)(d:ay),H t=none->(∀ g∈names d,g∈bP 40 c)->Q (.ref t) (upd H t (cx d))):nv vs H Q E_
inductive nu (vs:List V) (H:Hp) (Q:VK) (E_:XK):Prop
 | mk (c:Int) (h_0:vs=[.int c]) (h_1:∀ m:Int,2<=m/\m<=40->Q (.int m) H):nu vs H Q E_
theorem uO {k c:Int}(h:0<=k/\k<40):uN k c∈bP 40 c:=by
 unfold bP;rw[EG];exact⟨k.toNat,EX.mpr (by omega),by rw[Int.toNat_of_nonneg h.1]⟩
theorem oq {H:Hp}{l t:Addr}{as:List Addr}{ds:List ay}(hl:H l=some (.lst (as.map V.ref)))(hp:Paired (fun a x=>H a=some (cx x)) as ds)(ht:H t=none)(d:ay):bT (upd (upd H t (cx d)) l (.lst (as.map V.ref++[.ref t]))) l (ds++[d]):=by
 have tl:t≠l:=fun z=>by rw[z,hl]at ht;cases ht
 refine⟨as++[t],by rw[ag,EE];rfl,be (Paired.mapP hp fun b y e=>?_) (.cons (by rw[ae tl,ag]) .nil)⟩;obtain⟨xs,ex⟩:=cD y;rw[ae (fun z=>by rw[z,hl,ex]at e;cases e),ae (ak e ht)];exact e
inductive ju (C:Addr) (vs:List V) (H:Hp) (Q:VK) (E_:XK):Prop
 | mk (p:Addr) (A:HA) (st:bZ) (h_0:vs=[.ref p]) (h_1:aH C H p A st) (h_2:∀ (l:Addr)(H':Hp),H l=none->aF H H'->bT H' l st.deeds->Q (.ref l) H'):ju C vs H Q E_
theorem zZ {a b x y:Int}:gv x y=gv a b↔(x=a/\y=b)\/(x=b/\y=a):=by
 unfold gv
 by_cases h1:y<x<;>by_cases h2:b<a
 ·rw[Ee h1,Ee h2,Prod.mk.injEq];omega
 ·rw[Ee h1,Ed h2,Prod.mk.injEq];omega
 ·rw[Ed h1,Ee h2,Prod.mk.injEq];omega
 ·rw[Ed h1,Ed h2,Prod.mk.injEq];omega
theorem yF {ml:List (Int×Int)}{p q:Int×Int}:q∈nY ml p↔q∈ml\/q=p:=by
 unfold nY;split
 ·rename_i h
  constructor
  ·exact .inl
  ·rintro (z | z)
   ·exact z
   ·rw[z];exact h
 ·simp
def sx (st:bZ)(ml:List (Int×Int)):Prop:=∀ a b,iU st.circ a b=pL ml a b
theorem sF:sx ⟨[],[],[],[]⟩ []:=fun a b=>by unfold iU pL;simp[k9]
def jH (st:bZ)(ml:List (Int×Int))(d:ay):List (Int×Int):=if aX st d=.done then nZ ml d else ml
theorem uE {st:bZ}{ml:List (Int×Int)}{d:ay}(h:sx st ml):sx (bI st d) (jH st ml d):=by
 unfold bI jH
 by_cases hd:aX st d=.done
 ·rw[Ee hd,Ee hd]
  cases d with
  | come g=>exact h
  | go g=>exact h
  | exch a b =>
   intro x y
   show iU (bN (bN st.circ a b) b a) x y=pL (nY ml (gv a b)) x y
   rw[rl,h x y];unfold pL
   have e:decide (gv x y∈nY ml (gv a b))=(decide (gv x y∈ml)||decide ((x=a/\y=b)\/(x=b/\y=a))):=by
    rw[<-Bool.decide_or]
    congr 1
    rw[yF,zZ]
   rw[e,Bool.decide_or,Bool.decide_and,Bool.decide_and,Bool.or_assoc]
 ·rw[Ed hd,Ed hd];exact h
theorem sP {st:bZ}{ml:List (Int×Int)}(h:sx st ml)(d:ay):bS st.worn (pL ml) d=aX st d:=by rw[zY];exact re (fun a b=>(h a b).symm) d
structure Sz (n:Nat)(st:bZ):Prop where
 c:st.circ.length<=2*n
 k:∀ x∈st.circ,x.2.length<=2*n
 d:st.deeds.length<=n
theorem CC:Sz 0 ⟨[],[],[],[]⟩:=⟨Eh _,(fun x hx=>nomatch hx),Eh _⟩
theorem sj {n:Nat}{st:bZ}(h:Sz n st)(d:ay):Sz (n+1) (bI st d):=by
 have keep:Sz (n+1) st:=⟨by have:=h.c;omega,fun x hx=>by have:=h.k x hx;omega,by have:=h.d;omega⟩;refine⟨?_,?_,by have:=vf st d;have:=h.d;omega⟩
 ·unfold bI
  split
  ·cases d with
   | come g=>exact keep.c
   | go g=>exact keep.c
   | exch a b =>
    show (bN (bN st.circ a b) b a).length<=_
    have:=kE (bN st.circ a b) b a;have:=kE st.circ a b;have:=h.c;omega
  ·exact keep.c
 ·unfold bI
  split
  ·cases d with
   | come g=>exact keep.k
   | go g=>exact keep.k
   | exch a b =>
    intro x hx;have:=nV (n:=2*n+1) (nV (n:=2*n) (a:=a) (b:=b) h.k (by omega)) (by omega) x hx;omega
  ·exact keep.k
theorem v8 {L:List Int}{n:Nat}{st:bZ}(G:d9 st)(o:Of L st)(hL:L.length<=100)(z:Sz n st)(hn:n<=400):wZ st:=by
 have:=vi G o;exact Ev.fits (by omega) (by omega) (by have:=z.c;omega) (fun x hx=>by have:=z.k x hx;omega) (by have:=z.d;omega)
theorem xh {d e:ay}(h:b9 d=b9 e):d=e:=by
 cases d<;>cases e<;>simp[b9,names,dq]at h<;>first | (subst h;rfl) | (obtain⟨rfl,rfl⟩:=h;rfl) | (exact absurd h (by decide +kernel)) | (exact absurd h.1 (by decide +kernel))
theorem jp (d:ay):∀ x∈b9 d,gL x=true:=by
 cases d<;>(intro x hx;simp[b9,names]at hx)
 ·rcases hx with rfl | rfl<;>rfl
 ·rcases hx with rfl | rfl<;>rfl
 ·rcases hx with rfl | rfl | rfl<;>rfl
theorem xi {H:Hp}{l t:Addr}{as:List Addr}{ds:List ay}{d:ay}(hl:H l=some (.lst (as.map V.ref)))(hp:Paired (fun a x=>H a=some (cx x)) as ds)(ht:H t=some (cx d)):bT (upd H l (.lst (as.map V.ref++[.ref t]))) l (ds++[d]):=by
 have nt:∀ b y,H b=some (cx y)->b≠l:=fun b y e z=>by obtain⟨xs,ex⟩:=cD y;rw[z,hl,ex]at e;cases e
 refine⟨as++[t],by rw[ag,EE];rfl,be (Paired.mapP hp fun b y e=>?_) (.cons (by rw[ae (nt t d ht)];exact ht) .nil)⟩;rw[ae (nt b y e)];exact e
theorem Ac (st:bZ)(d:ay):(bI st d).deeds=if aX st d=.done then st.deeds++[d] else st.deeds:=by
 unfold bI;split
 ·cases d<;>rfl
 ·rfl
theorem f7 {m c g:Int}(h:g∈bP m c):cK g:=by
 unfold bP at h;obtain⟨k,_,rfl⟩:=EG.mp h;exact xn _ _
end Wz
namespace L2
open PySem PySem.Spec PyProof.Rows
theorem qv {X:Cx}{P:Program}{w:World}:dU (eY P w) X (fun _ _ _=>False):=by
 intro pins σ H s e s' I hc;obtain⟨ea,C,od,H',B,rfl,fl,un,hok,os,bare,hsB,trB,hE⟩:=hc;exact hE.elim
end L2
namespace Wz
open PySem L2
def bb (ds:List ay):bZ:=ds.foldl after ⟨[],[],[],[]⟩
theorem jv (ds:List ay)(d:ay):bb (ds++[d])=after (bb ds) d:=by unfold bb;rw[List.foldl_append];rfl
def cz (ds:List ay):Prop:=∀ i d,ds[i]? = some d->aX (bb (ds.take i)) d=.done
theorem sL:cz []:=fun i d h=>by simp at h
theorem qU {ds:List ay}{d:ay}(h:cz ds)(hd:aX (bb ds) d=.done):cz (ds++[d]):=by
 intro i e he
 by_cases hi:i<ds.length
 ·rw[List.getElem?_append_left hi]at he
  rw[List.take_append_of_le_length (by omega)];exact h i e he
 ·have hl:=(List.getElem?_eq_some_iff.mp he).1
  rw[Ew,Fh]at hl
  have e1:i=ds.length:=by omega
  subst e1;simp at he;subst he;simpa using hd
theorem sE (st:bZ)(d:ay):(after st d).deeds=st.deeds++[d]:=by cases d<;>rfl
structure w8 (H0 H:Hp)(w m ls:Addr)(st:bZ)(ml:List (Int×Int)):Prop where
 hw:H w=some (.dK (dk st.worn))
 hm:H m=some (.dT (wu ml))
 hs:bT H ls st.deeds
 w0:H0 w=none
 m0:H0 m=none
 s0:H0 ls=none
theorem w8.on {H0 H H':Hp}{w m ls:Addr}{st:bZ}{ml:List (Int×Int)}(e:w8 H0 H w m ls st ml)(s:aF H H'):w8 H0 H' w m ls st ml:=⟨s _ _ e.hw,s _ _ e.hm,dQ e.hs s,e.w0,e.m0,e.s0⟩
theorem w8.ws {H0 H:Hp}{w m ls:Addr}{st:bZ}{ml:List (Int×Int)}(e:w8 H0 H w m ls st ml):w≠ls:=by obtain⟨as,h,_⟩:=e.hs;exact cQ e.hw h (by intro z;cases z)
theorem w8.ms {H0 H:Hp}{w m ls:Addr}{st:bZ}{ml:List (Int×Int)}(e:w8 H0 H w m ls st ml):m≠ls:=by obtain⟨as,h,_⟩:=e.hs;exact cQ e.hm h (by intro z;cases z)
theorem w8.done {H0 H H1:Hp}{w m ls:Addr}{st:bZ}{ml:List (Int×Int)}{d:ay}(e:w8 H0 H w m ls st ml)(hj:aX st d=.done)
  (h1:H1 w=some (.dK (dk (qN st.worn d)))) (h2:H1 m=some (.dT (wu (nZ ml d)))) (k:∀ b o,H b=some o->b≠w->b≠m->H1 b=some o)
  {as:List Addr} (hl:H ls=some (.lst (as.map V.ref))) (hp:Paired (fun a x=>H a=some (cx x)) as st.deeds) {t:Addr} (ht:H t=some (cx d)) :
  w8 H0 (upd H1 ls (.lst (as.map V.ref++[.ref t]))) w m ls (bI st d) (jH st ml d)/\H1 ls=some (.lst (as.map V.ref)):=by
 have nt:∀ b y,H b=some (cx y)->b≠w/\b≠m:=fun b y q=>by
  obtain⟨xs,ex⟩:=cD y;rw[ex]at q;exact⟨cQ q e.hw (by intro z;cases z),cQ q e.hm (by intro z;cases z)⟩
 have hl1:=k _ _ hl (Ex e.ws) (Ex e.ms);have d1:bT (upd H1 ls (.lst (as.map V.ref++[.ref t]))) ls (st.deeds++[d]):=xi hl1 (Paired.mapP hp fun b y q=>k _ _ q (nt b y q).1 (nt b y q).2) (k _ _ ht (nt t d ht).1 (nt t d ht).2);refine⟨⟨?_,?_,?_,e.w0,e.m0,e.s0⟩,hl1⟩
 ·rw[ae e.ws,xI,Ee hj];exact h1
 ·rw[ae e.ms];unfold jH;rw[Ee hj];exact h2
 ·rw[Ac,Ee hj];exact d1
inductive kT (c:HX) (vs:List V) (H:Hp) (Q:VK) (E_:XK):Prop
 | mk (l:Addr) (ds:List ay) (L:List Int) (h_0:vs=[.ref l]) (h_1:bT H l ds) (h_2:cz ds) (h_3:ds.length<=88) (h_4:L.length<=100) (h_5:(∀ d∈ds,∀ g∈names d,g∈L/\cK g)) (h_6:∀ (x:Addr)(B:HA)(H':Hp),H x=none->Ev c H H' x B (bb ds)->Q (.ref x) H'):kT c vs H Q E_
end Wz
namespace L2
open PySem PySem.Spec PyProof.Rows
theorem aw.turned2 {X:Cx}{pins:List (Addr×Obj)}{σ:St}{H:Hp}{s:Shared}{h':Heap}{t':Nat}{e it:Addr}(I:aw X pins σ H s)(k:∀ b o,b≠e->b≠it->s.heap.get? b=some o->h'.get? b=some o)(fe:iP X pins H e)(fi:iP X pins H it):aw X pins σ H { s with heap:=h',toks:=t' }:=by
 obtain⟨e0,e1,e2,e3,e4,e5⟩:=fe;obtain⟨i0,i1,i2,i3,i4,i5⟩:=fi;have nit:∀ b u,H b=some u->b≠e/\b≠it:=fun b u q=>⟨(fun z=>by rw[z,e0]at q;cases q),(fun z=>by rw[z,i0]at q;cases q)⟩
 have nn:∀ b,b∉[e,it]->b≠e/\b≠it:=fun b hb=>by simpa using hb
 refine I.step (g':=s.gens) (d':=s.drawn) (ch:=[e,it]) (fun b hb=>?_) (fun b o _ _ hc q _=>k b o (nn b hc).1 (nn b hc).2 q) (fun b o _ _ hc q _=>⟨o.slots,k b o (nn b hc).1 (nn b hc).2 q⟩) (fun _ _ _ _ n=>n)
  (fun b o hc q=>⟨o,k b o (nn b hc).1 (nn b hc).2 q⟩) (fun _ _ q=>q) (fun _ _ _ q=>q) (fun b ps q=>⟨#[],by rw[q];simp⟩) (fun m hm=>?_) (fun b u q=>?_) I.bare
 ·have hb:b=e\/b=it:=by simpa using hb
  rcases hb with rfl | rfl
  ·exact⟨e3,e1,e4,e5⟩
  ·exact⟨i3,i1,i4,i5⟩
 ·obtain⟨o,es,ep,ho,r⟩:=hm
  exact⟨o,es,ep,k _ o (Ex e1) (Ex i1) ho,r⟩
 ·refine (I.hok b u q).stay (fun c v hc z=>k c v ?_ ?_ z) (fun _ z=>z) fun _ _ z=>z
  ·rcases hc with z | z
   ·rw[z];exact (nit b u q).1
   ·exact (nit c _ z).1
  ·rcases hc with z | z
   ·rw[z];exact (nit b u q).2
   ·exact (nit c _ z).2
def BZ (K:PySem.W.Frag)(l:Addr):It :=
 ⟨fun i H=>∃ xs x,bz K H l xs/\xs[i]? = some x,fun i H y H'=>∃ T x,H T=none/\y=.ref T/\H'=upd H T (.tup [.int i,x])/\∀ xs,bz K H l xs->xs[i]? = some x,fun i H=>∃ xs,bz K H l xs/\xs.length<=i⟩
theorem xX {P:Program}{w:World}{K:PySem.W.Frag}{elts:List Expr} {kk}{pos:Pos}(e it l:Addr)(hne:e≠it):xa P w K (.Tuple elts kk pos) (BZ K l) [e,it] e (fun i h=>(∃ old,IsEnum h e it (i:Nat) old)/\h.IsListIter it l i) where
 mem:=by simp
 obj:=fun i h st b hb=>by
  obtain⟨⟨old,he⟩,⟨o,eo,c,d⟩⟩:=st
  have hb:b=e\/b=it:=by simpa using hb
  rcases hb with rfl | rfl
  ·exact⟨_,he,fun v z=>by cases z⟩
  ·exact⟨o,eo,fun v z=>by rw[d]at z;cases z⟩
 keep:=fun i h h' st k=>⟨st.1.elim fun old he=>⟨old,k e (by simp) _ he⟩,st.2.at fun o x=>k it (by simp) o x⟩
 item:=by
  intro X hP hw hK hc i pins s σ H E I hf st hg;subst hP hw hK;obtain⟨xs,x,hq,hx⟩:=hg;obtain⟨its,rv,p,hz⟩:=I.list hq;obtain⟨u,hu,ru⟩:=rv.get hx;obtain⟨⟨old,he⟩,hit⟩:=st;have fe:=hf e (by simp);have fi:=hf it (by simp);have lte:e<s.heap.objs.size:=Em he
  have lti:it<s.heap.objs.size:=by obtain⟨_,q,_⟩:=id hit;exact Em q
  refine wpAny_pyNext_enum_item he hit p.isList (x:=u) (by simpa using hu) hne fun h' ho hit' hT hsz hk=>⟨.ref s.heap.objs.size,rfl,?_⟩;refine wpAny_letOwnedTupleGo_enum (s:={ s with heap:=h',toks:=s.toks+1 }) ho fun h2 he2 sb2=>?_;have hfr:H s.heap.objs.size=none:=I.hok.fresh (Eh _)
  have IL:aw X pins σ (upd H s.heap.objs.size (.tup [.int i,x])) { s with heap:=s.heap.push { cls:=.type "tuple",data:=.seq #[.int i s.toks,u] },toks:=s.toks } :=
   I.laid (fun b o q=>Heap.get?_push_of_some _ q) (Eh _) ⟨by show 2<=sizeLine;decide,[.int i s.toks,u],.cons ⟨_,rfl⟩ (.cons ru .nil),⟨_,Heap.get?_push_size _ rfl,rfl,_,rfl⟩⟩
  have fp':∀ b,b<s.heap.objs.size->iP X pins H b->iP X pins (upd H s.heap.objs.size (.tup [.int i,x])) b:=fun b hb ⟨f0,f1,f2,f3,f4,f5⟩=>⟨by rw[ae (Eu hb)];exact f0,f1,f2,f3,f4,f5⟩
  have I2:aw X pins σ (upd H s.heap.objs.size (.tup [.int i,x])) { s with heap:=h2,toks:=s.toks+1 }:=IL.turned2 (t':=s.toks+1) (h':=h2) (fun b o n1 n2 q=>by
   refine (sb2.2 b n1).trans ?_
   show h'.get? b=some o
   by_cases hb:b=s.heap.objs.size
   ·subst hb
    have q:(s.heap.push { cls:=.type "tuple",data:=.seq #[.int i s.toks,u] }).get? s.heap.objs.size=some o:=q;rw[Heap.get?_push_size _ rfl]at q;cases q;exact hT
   ·have q:(s.heap.push { cls:=.type "tuple",data:=.seq #[.int i s.toks,u] }).get? b=some o:=q
    refine hk b o n1 n2 ?_;rw[Heap.get?_push_ne _ _ _ hb]at q
    exact q) (fp' e lte fe) (fp' it lti fi)
  refine⟨.ref s.heap.objs.size,_,I2,rfl,⟨s.heap.objs.size,x,hfr,rfl,rfl,fun ys hy=>by rw[I.list_inj hy hq];exact hx⟩,⟨⟨_,by simpa using he2⟩,hit'.at fun o q=>(sb2.2 it (Ex hne)).trans q⟩,fun b hb=>?_⟩
  have hb':b=e\/b=it:=by simpa using hb
  rcases hb' with rfl | rfl
  ·exact (fp' _ lte fe).1
  ·exact (fp' _ lti fi).1
 done:=by
  intro X hP hw hK hc i pins s σ H E I hf st hg;subst hP hw hK;obtain⟨xs,hq,hx⟩:=hg;obtain⟨its,rv,p,hz⟩:=I.list hq;obtain⟨⟨old,he⟩,hit⟩:=st;obtain⟨f0,f1,f2,f3,f4,f5⟩:=hf it (by simp);have hl:=rv.length;exact wpAny_pyNext_enum_end (I.ok.hd hc) he hit p.isList (by simp;omega) fun h' eb=>⟨rfl,I.turned (t':=s.toks) (fun b o hb q=>eb b o hb q) f0 f1 f3 f4 f5⟩
 self:=fun _ _ _ _ _ st h=>st.1.elim fun old he=>wpAny_pyIter_enum he h
def Ci (K:PySem.W.Frag)(t:TA):TI:=fun σ H R=>t σ H fun vs H1=>∃ l,vs=[.ref l]/\(∃ xs,bz K H1 l xs)/\R (BZ K l) H1
theorem Ai {X:Cx}{elts:List Expr} {kk}{tpos:Pos}{a:Expr}{ta:TA}{p pos:Pos}(hg:Gl X "enumerate")(hm:X.mg "enumerate" = none)(ha:PA X [a] ta)
  (he:starEach [a] X.env=(false,eval a X.env)::starEach [] X.env:=by rfl) (hpl:(backTo pos (starEach [] X.env)).any (·.1)=false:=by rfl):PI X (.Tuple elts kk tpos) (.Call (.Name "enumerate" p) [a] [] pos) (Ci X.K ta):=by
 intro pins s σ H R I h;refine Ft (jT I hg hm boot_enumerate ?_ (by decide) (by decide));refine FR (bA (ha pos pins s σ H _ I h) fun us s1 ⟨vs,H1,I1,r1,l,e1,⟨xs,hq⟩,q⟩=>?_) he hpl;subst e1;obtain⟨u,rfl,rx⟩:=mI r1;cases rx;obtain⟨its,rv,pl,hz⟩:=I1.list hq;refine call_enumerate_list pl.isList fun h' hE hI hsz hk=>?_;have I2:aw X pins σ H1 { s1 with heap:=h',toks:=s1.toks }:=I1.kept hk;refine wpAny_pyIter_enum (s:={ s1 with heap:=h' }) hE ?_;refine⟨s1.heap.objs.size+1,[s1.heap.objs.size+1,s1.heap.objs.size],_,_,H1,rfl,I2,xX _ _ l (Nat.succ_ne_self _),⟨⟨_,hE⟩,hI⟩,fun b hb=>?_,q⟩
 have hb:b=s1.heap.objs.size+1\/b=s1.heap.objs.size:=by simpa using hb
 rcases hb with rfl | rfl
 ·exact I1.fpOk (F9 _) (I1.hok.fresh (F9 _))
 ·exact I1.fpOk (Eh _) (I1.hok.fresh (Eh _))
theorem yp {K:PySem.W.Frag}{a:Addr}{xs:List V}{g:TG}{tb:TS}{D:k6}{σ:St}{H:Hp}(Pv:Nat->St->Hp->Prop)(h0:Pv 0 σ H)(hl:∀ i σ H,i<=xs.length->Pv i σ H->bz K H a xs)
  (hs:∀ i x σ H T,xs[i]? = some x->Pv i σ H->H T=none->g (.ref T) σ (upd H T (.tup [.int i,x])) fun σ2 H2=>tb { D with nx:=Pv (i+1),ct:=Pv (i+1),bk:=D.nx } σ2 H2) (hd:∀ σ H,Pv xs.length σ H->D.nx σ H) :
  ∃ W:Nat->Nat->St->Hp->Prop,(∃ m,W 0 m σ H)/\∀ i m σ H,W i m σ H ->
   ((BZ K a).stop i H/\D.nx σ H)\/((BZ K a).go i H/\∃ N:St->Hp->Prop,(∀ σ' H',N σ' H'->∃ m',m'<m/\W (i+1) m' σ' H')/\∀ x H',(BZ K a).yld i H x H'->g x σ H' fun σ2 H2=>tb { D with nx:=N,ct:=N,bk:=D.nx } σ2 H2):=by
 refine⟨fun i m σ H=>m=xs.length-i/\i<=xs.length/\Pv i σ H,⟨xs.length,by simp,EK _,h0⟩,?_⟩;rintro i m σ H ⟨rfl,hi,p⟩;have q:=hl i σ H hi p
 by_cases hlt:i<xs.length
 ·refine .inr ⟨⟨xs,xs[i],q,by simp[hlt]⟩,Pv (i+1),fun σ' H' p'=>⟨xs.length-(i+1),by omega,rfl,hlt,p'⟩,fun y H' z=>?_⟩
  obtain⟨T,x,hT,e1,e2,hx⟩:=z;subst e1 e2;exact hs i x σ _ T (hx xs q) p hT
 ·have e:i=xs.length:=by omega
  subst e;exact .inl ⟨⟨xs,q,Eh _⟩,hd σ H p⟩
end L2
namespace Qs
open PySem PySem.W PyProof.Rows
structure Eb (n:Nat)(lt:Nat->Nat->Bool):Prop where
 irr:∀ i,lt i i=false
 tot:∀ i j,i<n->j<n->i≠j->lt i j=true\/lt j i=true
 tr:∀ i j k,lt i j=true->lt j k=true->lt i k=true
def ask {α:Type}(lt:Nat->Nat->Bool):KasT α->α
 | .ret a=>a
 | .ask i j k=>ask lt (k (lt i j))
def DI {α:Type}(n:Nat)(lt:Nat->Nat->Bool):KasT α->Prop
 | .ret _=>True
 | .ask i j k=>i<n/\j<n/\DI n lt (k (lt i j))
def Ec {α:Type}(n:Nat)(lt:Nat->Nat->Bool)(t:KasT α)(R:α->Prop):Prop:=DI n lt t/\R (ask lt t)
section
variable {n:Nat}{lt:Nat->Nat->Bool}{p:Array Nat}
def Pm (n:Nat)(p:Array Nat):Prop:=p.Perm (List.toArray (List.range n))
def Up (lt:Nat->Nat->Bool)(p:Array Nat)(k:Nat):Prop:=∀ i j,i<j->j<k->lt (p.getD i 0) (p.getD j 0)=true
def Dn (lt:Nat->Nat->Bool)(p:Array Nat)(k:Nat):Prop:=∀ i j,i<j->j<k->lt (p.getD j 0) (p.getD i 0)=true
end
def DT (p q:Int×Int):Bool:=decide (p.1<q.1\/(p.1=q.1/\p.2<q.2))
def DY (ps:List (Int×Int))(i j:Nat):Bool:=DT (ps.getD i (0,0)) (ps.getD j (0,0))
def AZ (h:Heap)(v:Value)(p:Int×Int):Prop:=∃ (b:Addr)(o:Obj)(n:Nat)(t u:Tok),v=.ref b/\h.get? b=some o/\o.cls=.type "tuple"/\o.data=.seq #[.int p.1 t,.int p.2 u] n
section
variable {prog:Program}{w:World}{A:Around}{E:Value->Shared->Prop}{s:Shared}
theorem mz {α β:Type}{F:α->β->Prop}{d:α}{e:β}:∀ {l:List α}{m:List β},Paired F l m->∀ i,i<l.length->F (l.getD i d) (m.getD i e)
 | _::_,_::_,.cons h _,0,_=>h
 | _::l,_::m,.cons _ r,i+1,hi=>mz r i (by simpa using hi)
def Dd (vs:List Value)(ps:List (Int×Int))(out:List Value):Prop:=∃ ix:List Nat,ix.Perm (List.range vs.length)/\out=ix.map (fun i=>vs.getD i Value.none)/\(ix.map fun i=>ps.getD i (0,0)).Pairwise (fun a b=>DT a b=true)
end
def DO (h:Heap)(d:Addr)(es:Array DictEntry)(ep:Nat):Prop:=∃ o,h.get? d=some o/\o.ExactDict/\o.data=.dict es ep
end Qs
namespace Wz
open PySem PySem.Spec PyProof.Rows L2
theorem mD {α β γ:Type}{F:β->γ->Prop}{f:α->β}{g:α->γ}:∀ (l:List α),(∀ x∈l,F (f x) (g x))->Paired F (l.map f) (l.map g)
 | [],_=>.nil
 | x::l,h=>.cons (h x Ep) (mD l fun y hy=>h y (Ek _ hy))
theorem uL {α:Type}(d:α)(l:List α):(List.range l.length).map (fun i=>l.getD i d)=l:=by
 apply List.ext_getElem?
 intro i;rw[List.getElem?_map]
 by_cases hi:i<l.length
 ·rw[List.getElem?_range hi];simp[hi]
 ·rw[List.getElem?_eq_none (by simp;omega),List.getElem?_eq_none (by omega)];rfl
open PySem L2
structure CT (L:List Int)(st:bZ):Prop where
 kn:(st.circ.map (·.1)).Nodup
 kl:∀ x∈st.circ,x.1∈L/\x.2.Nodup/\∀ b∈x.2,b∈L
theorem Di {L:List Int}:CT L ⟨[],[],[],[]⟩:=⟨Gg,fun x h=>by cases h⟩
theorem zH {L ks:List Int}{b:Int}(h:ks.Nodup/\∀ x∈ks,x∈L)(hb:b∈L):(jy ks b).Nodup/\∀ x∈jy ks b,x∈L:=by
 unfold jy;split
 ·exact h
 ·rename_i n
  refine⟨ni h.1 n,fun x hx=>?_⟩;rcases EB.mp hx with z | z
  ·exact h.2 x z
  ·rw[El.mp z];exact hb
theorem qM {L:List Int}{a b:Int}(ha:a∈L)(hb:b∈L):∀ {ci:List (Int×List Int)},(ci.map (·.1)).Nodup->(∀ x∈ci,x.1∈L/\x.2.Nodup/\∀ y∈x.2,y∈L) ->
  ((bN ci a b).map (·.1)).Nodup/\(∀ x∈bN ci a b,x.1∈L/\x.2.Nodup/\∀ y∈x.2,y∈L)/\∀ k,k∈(bN ci a b).map (·.1)->k∈ci.map (·.1)\/k=a
 | [],_,_=>by
  refine⟨by simp[bN],fun x hx=>?_,fun k hk=>?_⟩
  ·simp[bN]at hx
   subst hx;exact⟨ha,by simp,fun y hy=>by simp at hy;rw[hy];exact hb⟩
  ·simp[bN]at hk
   exact .inr hk
 | x::r,hn,hl=>by
  rw[EF,EQ]at hn;unfold bN
  by_cases h:x.1=a
  ·rw[Ee h]
   refine⟨by rw[EF,EQ];exact hn,fun y hy=>?_,fun k hk=>.inl (by simpa using hk)⟩;rcases En.mp hy with z | z
   ·subst z
    obtain⟨h1,h2,h3⟩:=hl x Ep;exact⟨h1,zH ⟨h2,h3⟩ hb⟩
   ·exact hl y (Ek _ z)
  ·rw[Ed h]
   obtain⟨i1,i2,i3⟩:=qM ha hb (ci:=r) hn.2 (fun y hy=>hl y (Ek _ hy));refine⟨?_,fun y hy=>?_,fun k hk=>?_⟩
   ·rw[EF,EQ]
    refine⟨fun z=>?_,i1⟩;rcases i3 _ z with z | z
    ·exact hn.1 z
    ·exact h z
   ·rcases En.mp hy with z | z
    ·subst z;exact hl _ Ep
    ·exact i2 y z
   ·rw[EF]at hk
    rcases En.mp hk with z | z
    ·exact .inl (by rw[z];simp)
    ·rcases i3 k z with z | z
     ·exact .inl (Ek _ z)
     ·exact .inr z
theorem ya {L:List Int}{st:bZ}{d:ay}(h:CT L st)(hn:∀ g∈names d,g∈L):CT L (bI st d):=by
 unfold bI;split
 ·cases d with
  | come g=>exact⟨h.kn,h.kl⟩
  | go g=>exact⟨h.kn,h.kl⟩
  | exch a b =>
   have ha:=hn a (by simp[names]);have hb:=hn b (by simp[names]);obtain⟨j1,j2,_⟩:=qM ha hb h.kn h.kl;obtain⟨k1,k2,_⟩:=qM hb ha j1 j2;exact⟨k1,k2⟩
 ·exact h
structure x4 (ml:List (Int×Int)):Prop where
 nd:ml.Nodup
 lo:∀ p∈ml,p.1<p.2
theorem DZ:x4 []:=⟨Gg,fun p h=>by cases h⟩
theorem z9 {st:bZ}{ml:List (Int×Int)}(h:x4 ml)(d:ay):x4 (jH st ml d):=by
 unfold jH;split
 ·rename_i hj
  cases d with
  | come g=>exact h
  | go g=>exact h
  | exch a b =>
   have hab:a≠b:=fun e=>by
    subst e
    cases e:look st.worn a with
    | none=>simp[aX,e]at hj
    | some m=>simp[aX,e]at hj
   show x4 (nY ml (gv a b))
   unfold nY;split
   ·exact h
   ·rename_i n
    refine⟨?_,fun p hp=>?_⟩
    ·rw[FI]
     exact⟨h.nd,by simp,fun x hx y hy e=>n (by rw[El.mp hy]at e;rw[<-e];exact hx)⟩
    ·rcases EB.mp hp with z | z
     ·exact h.lo p z
     ·rw[El.mp z]
      unfold gv;split
      ·assumption
      ·show a<b
       omega
 ·exact h
def pK:ay->Bool
 | .exch _ _=>true
 | _=>false
inductive kQ (K:PySem.W.Frag) (vs:List V) (H:Hp) (Q:VK) (E_:XK):Prop
 | mk (a:Addr) (ns:List Int) (h_0:vs=[.ref a]) (h_1:bz K H a (ns.map V.int)) (h_2:∀ (l:Addr)(H':Hp)(ds:List ay),H l=none->aF H H'->bT H' l ds->(∀ d∈ds,∀ g∈names d,g∈bP 40 (gu ns 1))->ds.length<=88->(ds.filter pK).length<=48->Q (.ref l) H'):kQ K vs H Q E_
theorem uZ (st:bZ)(ml:List (Int×Int))(d:ay):(jH st ml d).length<=ml.length+(if pK d then 1 else 0):=by
 unfold jH;split
 ·cases d with
  | come g=>exact Eh _
  | go g=>exact Eh _
  | exch a b=>show (nY ml _).length<=_;unfold nY;split<;>simp[pK]
 ·omega
def lx (ds:List ay):List (Int×Int):=ds.foldl nZ []
theorem xC (ds:List ay)(d:ay):lx (ds++[d])=nZ (lx ds) d:=by unfold lx;rw[List.foldl_append];rfl
theorem oB:∀ (ds:List ay)(st:bZ),(ds.foldl after st).deeds=st.deeds++ds
 | [],st=>by simp
 | d::ds,st=>by rw[List.foldl_cons,oB ds,sE,Fg];rfl
theorem j8 (ds:List ay):(bb ds).deeds=ds:=by unfold bb;rw[oB];rfl
structure Ca (L:List Int)(ds:List ay):Prop where
 good:d9 (bb ds)
 of:Of L (bb ds)
 sz:Sz ds.length (bb ds)
 al:sx (bb ds) (lx ds)
 ci:CT L (bb ds)
 mo:x4 (lx ds)
 ml:(lx ds).length<=(ds.filter pK).length
theorem Dr {L:List Int}:Ca L []:=⟨jR,of_empty,CC,sF,Di,DZ,Eh _⟩
theorem oR {ds:List ay}{d:ay}(hj:aX (bb ds) d=.done):bI (bb ds) d=bb (ds++[d]):=by unfold bI;rw[Ee hj,jv]
theorem oQ {ds:List ay}{d:ay}(hj:aX (bb ds) d=.done):jH (bb ds) (lx ds) d=lx (ds++[d]):=by unfold jH;rw[Ee hj,xC]
theorem Ca.next {L:List Int}{ds:List ay}{d:ay}(h:Ca L ds)(hj:aX (bb ds) d=.done)(hn:∀ g∈names d,g∈L/\cK g):Ca L (ds++[d]):=by
 have e1:=oR hj;have e2:=oQ hj;refine⟨?_,?_,?_,?_,?_,?_,?_⟩
 ·rw[<-e1];exact lj h.good fun g hg=>(hn g hg).2
 ·rw[<-e1];exact rA h.good h.of fun g hg=>(hn g hg).1
 ·rw[<-e1,Ew];exact sj h.sz d
 ·rw[<-e1,<-e2];exact uE h.al
 ·rw[<-e1];exact ya h.ci fun g hg=>(hn g hg).1
 ·rw[<-e2];exact z9 h.mo d
 ·rw[<-e2,List.filter_append,Ew]
  have h1:=uZ (bb ds) (lx ds) d;have h2:=h.ml;cases e:pK d<;>simp[e]at h1 ⊢<;>omega
theorem rM {L:List Int}{ds:List ay}(hd:cz ds)(hn:∀ d∈ds,∀ g∈names d,g∈L/\cK g):∀ i,Ca L (ds.take i)
 | 0=>Dr
 | i+1=>by
  have ih:=rM hd hn i;rw[EU]
  cases e:ds[i]? with
  | none=>simpa using ih
  | some d=>rw[E9];exact ih.next (hd i d e) (hn d (EN e))
inductive im (K:PySem.W.Frag) (vs:List V) (H:Hp) (Q:VK) (E_:XK):Prop
 | mk (a:Addr) (ns:List Int) (h_0:vs=[.ref a]) (h_1:bz K H a (ns.map V.int)) (h_2:∀ (t w m ls:Addr)(H':Hp)(es:List ay),aF H H'->H' t=some (.tup [.ref w,.ref m,.ref ls])->w8 H H' w m ls (bb es) (lx es)->cz es->(∀ d∈es,∀ g∈names d,g∈bP 40 (gu ns 1))->es.length<=88->(es.filter pK).length<=48->Q (.ref t) H'):im K vs H Q E_
def BR (f:Int->Int):Prop:=∀ a b,f a=f b->a=b
theorem su {w:List (Int×Int)}{g:Int}(h:g∉aD w):wr w g=g:=by
 unfold wr
 cases e:look w g with
 | none=>rfl
 | some m=>exact absurd (bU.mp (by rw[e];rfl)) h
def bB (f:Int->Int):Nat->Int->Int
 | 0,g=>g
 | n+1,g=>f (bB f n g)
theorem kB (f:Int->Int)(m:Nat):∀ (n:Nat)(g:Int),bB f (n+m) g=bB f n (bB f m g)
 | 0,_=>by rw[Nat.zero_add];rfl
 | n+1,g=>by
  rw[Nat.add_right_comm]
  show f (bB f (n+m) g)=f (bB f n (bB f m g))
  rw[kB f m n g]
theorem oH {f:Int->Int}(h:BR f):∀ (n:Nat){a b:Int},bB f n a=bB f n b->a=b
 | 0,_,_,e=>e
 | n+1,_,_,e=>oH h n (h _ _ e)
theorem nh {f:Int->Int}{ks:List Int}(hk:∀ g∈ks,f g∈ks){g:Int}(hg:g∈ks):∀ n,bB f n g∈ks
 | 0=>hg
 | n+1=>hk _ (nh hk hg n)
theorem lC:∀ {l:List Int},¬ l.Nodup->∃ i j:Nat,i<j/\∃ x,l[i]? = some x/\l[j]? = some x
 | [],h=>absurd Gg h
 | a::r,h=>by
  by_cases ha:a∈r
  ·obtain⟨n,hn,e⟩:=Fp ha
   exact⟨0,n+1,Nat.succ_pos _,a,rfl,by rw[List.getElem?_cons_succ,List.getElem?_eq_getElem hn,e]⟩
  ·have hr:¬ r.Nodup:=fun z=>h (EQ.mpr ⟨ha,z⟩)
   obtain⟨i,j,hij,x,e1,e2⟩:=lC hr;exact⟨i+1,j+1,Nat.succ_lt_succ hij,x,by simpa using e1,by simpa using e2⟩
theorem uG {f:Int->Int}(hf:BR f){ks:List Int}(hk:∀ g∈ks,f g∈ks){g:Int}(hg:g∈ks):∃ n,0<n/\n<=ks.length/\bB f n g=g:=by
 have h:¬ ((List.range (ks.length+1)).map fun n=>bB f n g).Nodup:=fun nd=>by
  have:=eC nd (m:=ks) fun x hx=>by
   obtain⟨n,_,rfl⟩:=EG.mp hx;exact nh hk hg n
  rw[Eg,FJ]at this;omega
 obtain⟨i,j,hij,x,e1,e2⟩:=lC h;rw[List.getElem?_map]at e1 e2
 have hj:j<ks.length+1:=by
  have:=(List.getElem?_eq_some_iff.mp (show ((List.range (ks.length+1)).map fun n=>bB f n g)[j]? = some x by rw[List.getElem?_map];exact e2)).1;simpa using this
 have hi:i<ks.length+1:=by omega
 rw[List.getElem?_range hi]at e1;rw[List.getElem?_range hj]at e2;have e1':bB f i g=x:=Ei e1;have e2':bB f j g=x:=Ei e2;refine⟨j-i,by omega,by omega,?_⟩
 have e3:bB f (i+(j-i)) g=bB f i g:=by rw[show i+(j-i)=j by omega,e2',e1']
 rw[kB]at e3;exact oH hf i e3
theorem uK {f:Int->Int}{g:Int}:∀ (n:Nat),0<n->bB f n g=g->∃ m,0<m/\m<=n/\bB f m g=g/\∀ k,0<k->k<m->bB f k g≠g:=by
 intro n
 induction n using Nat.strongRecOn with
 | _ n ih =>
  intro hn he
  by_cases h:∃ k,0<k/\k<n/\bB f k g=g
  ·obtain⟨k,k0,kn,ke⟩:=h
   obtain⟨m,m0,mk,me,mf⟩:=ih k kn k0 ke;exact⟨m,m0,by omega,me,mf⟩
  ·exact⟨n,hn,Eh _,he,fun k k0 kn ke=>h ⟨k,k0,kn,ke⟩⟩
def iF (f:Int->Int)(g:Int)(m:Nat):List Int:=(List.range m).map fun i=>bB f i g
theorem pc {f:Int->Int}(hf:BR f){g:Int}{m:Nat}(hm:∀ k,0<k->k<m->bB f k g≠g):(iF f g m).Nodup:=by
 cases Classical.em (iF f g m).Nodup with
 | inl h=>exact h
 | inr h =>
  obtain⟨i,j,hij,x,e1,e2⟩:=lC h;unfold iF at e1 e2
  have hj:j<m:=by
   have:=(List.getElem?_eq_some_iff.mp e2).1;simpa using this
  rw[List.getElem?_map,List.getElem?_range (by omega)]at e1;rw[List.getElem?_map,List.getElem?_range hj]at e2;have e1':bB f i g=x:=Ei e1;have e2':bB f j g=x:=Ei e2
  have e3:bB f (i+(j-i)) g=bB f i g:=by rw[show i+(j-i)=j by omega,e2',e1']
  rw[kB]at e3;exact absurd (oH hf i e3) (hm (j-i) (by omega) (by omega))
theorem mF {f:Int->Int}{g:Int}{m:Nat}(hm:0<m)(he:bB f m g=g){x:Int}(hx:x∈iF f g m):f x∈iF f g m:=by
 unfold iF at hx ⊢;obtain⟨i,hi,rfl⟩:=EG.mp hx;have hi:=EX.mp hi
 by_cases h:i+1<m
 ·exact EG.mpr ⟨i+1,EX.mpr h,rfl⟩
 ·refine EG.mpr ⟨0,EX.mpr hm,?_⟩
  have:i+1=m:=by omega
  rw[<-this]at he;exact he.symm
theorem ue (l:List Int):(gU l).Perm l:=F3 l _
def k7 (f:Int->Int)(g:Int)(m:Nat):Prop:=0<m/\bB f m g=g/\∀ k,0<k->k<m->bB f k g≠g
def tU (f:Int->Int)(N:Nat)(g:Int):Nat:=((List.range N).find? fun i=>decide (bB f (i+1) g=g)).getD 0+1
def fQ (f:Int->Int)(N:Nat)(g:Int):List Int:=iF f g (tU f N g)
theorem oz (p:Nat->Bool):∀ (N m:Nat),m<N->p m=true->(∀ k,k<m->p k=false)->(List.range N).find? p=some m
 | 0,m,h,_,_=>by omega
 | N+1,m,h,hm,hk=>by
  rw[List.range_succ,List.find?_append]
  by_cases e:m<N
  ·rw[oz p N m e hm hk];rfl
  ·have e:m=N:=by omega
   subst e;rw[List.find?_eq_none.mpr fun x hx=>by rw[hk x (EX.mp hx)];simp];simp[hm]
theorem yM {f:Int->Int}{g:Int}{m N:Nat}(h:k7 f g m)(hN:m<=N):tU f N g=m:=by
 obtain⟨h0,h1,h2⟩:=h;unfold tU;rw[oz _ N (m-1) (by omega) (by rw[show m-1+1=m by omega];exact EC h1) fun k hk=>EA (h2 (k+1) (by omega) (by omega))];simp;omega
theorem qh {f:Int->Int}(hf:BR f){K:List Int}(hk:∀ g∈K,f g∈K){g:Int}(hg:g∈K){N:Nat}(hN:K.length<=N):k7 f g (tU f N g):=by
 obtain⟨n,n0,n1,n2⟩:=uG hf hk hg;obtain⟨m,m0,m1,m2,m3⟩:=uK n n0 n2;have R:k7 f g m:=⟨m0,m2,m3⟩;rw[yM R (by omega)];exact R
theorem kN {f:Int->Int}{g x:Int}{m:Nat}:x∈iF f g m↔∃ i,i<m/\x=bB f i g:=by
 unfold iF;rw[EG];constructor
 ·rintro⟨i,hi,rfl⟩;exact⟨i,EX.mp hi,rfl⟩
 ·rintro⟨i,hi,rfl⟩;exact⟨i,EX.mpr hi,rfl⟩
theorem mi {f:Int->Int}{S:List Int}(h:∀ x∈S,f x∈S):∀ (n:Nat){x:Int},x∈S->bB f n x∈S
 | 0,_,hx=>hx
 | n+1,_,hx=>h _ (mi h n hx)
theorem vv {f:Int->Int}{g:Int}{m:Nat}(R:k7 f g m){S:List Int}(hS:∀ x∈S,f x∈S)(hg:g∉S):∀ x∈iF f g m,x∉S:=fun x hx z=>by
 obtain⟨i,hi,rfl⟩:=kN.mp hx;have:=mi hS (m-i) z;rw[<-kB,show m-i+i=m by omega,R.2.1]at this;exact hg this
def cJ (f:Int->Int)(N:Nat):List Int->List Int->List (List Int)
 | [],_=>[]
 | g::ks,S=>if g∈S then cJ f N ks S else fQ f N g::cJ f N ks (S++fQ f N g)
theorem kO {f:Int->Int}(hf:BR f){K:List Int}(hk:∀ g∈K,f g∈K){N:Nat}(hN:K.length<=N):∀ (ks S:List Int),(∀ x∈ks,x∈K)->(∀ x∈S,f x∈S) ->
  (cJ f N ks S).flatten.Nodup/\(∀ x∈(cJ f N ks S).flatten,x∉S/\x∈K)/\(∀ x∈ks,x∈S\/x∈(cJ f N ks S).flatten)/\∀ r∈cJ f N ks S,∃ g∈ks,r=fQ f N g/\k7 f g (tU f N g)
 | [],S,_,_=>by simp[cJ]
 | g::ks,S,h1,h2=>by
  have hgK:=h1 g Ep;have h1':∀ x∈ks,x∈K:=fun x hx=>h1 x (Ek _ hx);unfold cJ
  by_cases hg:g∈S
  ·rw[Ee hg]
   obtain⟨a,b,c,d⟩:=kO hf hk hN ks S h1' h2;refine⟨a,b,fun x hx=>?_,fun r hr=>?_⟩
   ·rcases En.mp hx with rfl | z
    ·exact .inl hg
    ·exact c x z
   ·obtain⟨q,hq,e⟩:=d r hr
    exact⟨q,Ek _ hq,e⟩
  ·rw[Ed hg]
   have R:=qh hf hk hgK hN;have ap:=vv R h2 hg;have cl:∀ x∈fQ f N g,f x∈fQ f N g:=fun x hx=>mF R.1 R.2.1 hx
   have inK:∀ x∈fQ f N g,x∈K:=fun x hx=>by
    obtain⟨i,hi,rfl⟩:=kN.mp hx;exact nh hk hgK i
   have g0:g∈fQ f N g:=kN.mpr ⟨0,R.1,rfl⟩
   obtain⟨a,b,c,d⟩:=kO hf hk hN ks (S++fQ f N g) h1' fun x hx=>by
    rcases EB.mp hx with z | z
    ·exact EB.mpr (.inl (h2 x z))
    ·exact EB.mpr (.inr (cl x z))
   rw[List.flatten_cons];refine⟨?_,fun x hx=>?_,fun x hx=>?_,fun r hr=>?_⟩
   ·rw[FI]
    exact⟨pc hf R.2.2,a,fun x hx y hy e=>(b y hy).1 (EB.mpr (.inr (by rw[<-e];exact hx)))⟩
   ·rcases EB.mp hx with z | z
    ·exact⟨ap x z,inK x z⟩
    ·exact⟨fun q=>(b x z).1 (EB.mpr (.inl q)),(b x z).2⟩
   ·rcases En.mp hx with rfl | z
    ·exact .inr (EB.mpr (.inl g0))
    ·rcases c x z with q | q
     ·rcases EB.mp q with q | q
      ·exact .inl q
      ·exact .inr (EB.mpr (.inl q))
     ·exact .inr (EB.mpr (.inr q))
   ·rcases En.mp hr with rfl | z
    ·exact⟨g,Ep,rfl,R⟩
    ·obtain⟨q,hq,e⟩:=d r z
     exact⟨q,Ek _ hq,e⟩
theorem xz {f:Int->Int}{N:Nat}{g:Int}:(fQ f N g).length=tU f N g:=by unfold fQ iF;rw[Eg,FJ]
theorem Paired.mapP' {α β:Type}{F G:α->β->Prop}:∀ {l₁:List α}{l₂:List β},Paired F l₁ l₂->(∀ a b,a∈l₁->F a b->G a b)->Paired G l₁ l₂
 | _,_,.nil,_=>.nil
 | _,_,.cons e r,h=>.cons (h _ _ Ep e) (Paired.mapP' r fun a b ha=>h a b (Ek _ ha))
structure zF (W:List (Int×Int)):Prop where
 inj:BR (wr W)
 cl:∀ g∈aD W,wr W g∈aD W
 nd:(aD W).Nodup
theorem kF {W:List (Int×Int)}{g:Int}(h:g∈aD W):look W g=some (wr W g):=by
 obtain⟨m,e⟩:=EL.mp (bU.mpr h);unfold wr;rw[e];rfl
theorem tY {st:bZ}(G:d9 st):zF st.worn:=by
 refine⟨fun a b e=>?_,fun g hg=>G.ow g _ (kF hg),G.wn⟩
 by_cases ha:a∈aD st.worn
 ·have ea:=kF ha
  by_cases hb:b∈aD st.worn
  ·have eb:=kF hb
   have h1:=(G.wh a _).mp ea;have h2:=(G.wh b _).mp eb;rw[e,h2]at h1;exact (Ei h1).symm
  ·have:=G.ow a _ ea
   rw[e,su hb]at this;exact absurd this hb
 ·by_cases hb:b∈aD st.worn
  ·have:=G.ow b _ (kF hb)
   rw[<-e,su ha]at this;exact absurd this ha
  ·rw[su ha,su hb]at e
   exact e
theorem sV (W:List (Int×Int)):(aD W).length=W.length:=by unfold aD;rw[Eg]
theorem zF.ring {W:List (Int×Int)}(P:zF W){g:Int}(hg:g∈aD W):k7 (wr W) g (tU (wr W) W.length g):=qh P.inj P.cl hg (by rw[sV];exact Eh _)
theorem zF.ord_le {W:List (Int×Int)}(P:zF W){g:Int}(hg:g∈aD W):tU (wr W) W.length g<=W.length:=by
 have h:=eC (pc P.inj (P.ring hg).2.2) (m:=aD W) fun x hx=>by
  obtain⟨i,_,rfl⟩:=kN.mp hx;exact nh P.cl hg i
 rw[sV]at h;unfold iF at h
 rwa [Eg,FJ]at h
def vw (W:List (Int×Int)):List (List Int):=cJ (wr W) W.length (bK W) []
theorem zF.wrong {W:List (Int×Int)}(P:zF W):(∀ g∈bK W,g∈aD W/\wr W g≠g)/\(bK W).Nodup/\(∀ g∈bK W,wr W g∈bK W)/\(bK W).length<=W.length:=by
 have m:∀ g,g∈bK W↔g∈aD W/\wr W g≠g:=fun g=>by
  unfold bK;rw[FW,(ue _).mem_iff];simp
 refine⟨fun g hg=>(m g).mp hg,((ue _).nodup_iff.mpr P.nd).filter _,fun g hg=>(m _).mpr ⟨P.cl g ((m g).mp hg).1,fun z=>((m g).mp hg).2 (P.inj _ _ z)⟩,qF W⟩
def wL (f:Int->Int)(N:Nat)(q:List Int×List (List Int))(g:Int):List Int×List (List Int):=if g∈q.1 then q else (q.1++fQ f N g,q.2++[fQ f N g])
theorem hV (f:Int->Int)(N:Nat):∀ (ks S:List Int)(rs:List (List Int)),ks.foldl (wL f N) (S,rs)=(S++(cJ f N ks S).flatten,rs++cJ f N ks S)
 | [],S,rs=>by simp[cJ]
 | g::ks,S,rs=>by
  rw[List.foldl_cons];unfold wL cJ
  by_cases h:g∈S
  ·rw[Ee h,Ee h];exact hV f N ks S rs
  ·rw[Ed h,Ed h]
   have:=hV f N ks (S++fQ f N g) (rs++[fQ f N g]);unfold wL at this;rw[this,List.flatten_cons];simp
def qR (W:List (Int×Int))(i:Nat):List Int×List (List Int):=((bK W).take i).foldl (wL (wr W) W.length) ([],[])
theorem Bo (W:List (Int×Int)){n:Nat}(h:(bK W).length<=n):(qR W n).2=vw W:=by unfold qR;rw[FQ h,hV];rfl
theorem Cv {W:List (Int×Int)}(P:zF W)(i:Nat):(qR W i).1.Nodup/\(∀ x∈(qR W i).1,x∈bK W)/\(∀ x∈(qR W i).1,wr W x∈(qR W i).1)/\(qR W i).1.length<=W.length/\(qR W i).2.length<=i:=by
 obtain⟨w1,w2,w3,w4⟩:=P.wrong;have sub:∀ x∈(bK W).take i,x∈bK W:=fun x hx=>List.mem_of_mem_take hx;obtain⟨a,b,c,d⟩:=kO P.inj w3 w4 ((bK W).take i) [] sub (fun x h=>by cases h)
 have e:qR W i=((cJ (wr W) W.length ((bK W).take i) []).flatten,cJ (wr W) W.length ((bK W).take i) []):=by unfold qR;rw[hV];rfl
 rw[e];refine⟨a,fun x hx=>(b x hx).2,fun x hx=>?_,EI (eC a fun x hx=>(b x hx).2) w4,?_⟩
 ·obtain⟨r,hr,hxr⟩:=List.mem_flatten.mp hx
  obtain⟨g,_,rfl,R⟩:=d r hr;exact List.mem_flatten.mpr ⟨_,hr,mF R.1 R.2.1 hxr⟩
 ·have:∀ (ks S:List Int),(cJ (wr W) W.length ks S).length<=ks.length:=by
   intro ks
   induction ks with
   | nil=>intro S;exact Eh _
   | cons g ks ih =>
    intro S;unfold cJ;split
    ·exact Nat.le_succ_of_le (ih S)
    ·rw[EO,EO]
     have:=ih (S++fQ (wr W) W.length g);omega
  have h1:=this ((bK W).take i) [];rw[E8]at h1
  show (cJ (wr W) W.length ((bK W).take i) []).length<=i
  omega
theorem t7 {W:List (Int×Int)}(P:zF W):(vw W).length<=W.length/\∀ r∈vw W,r.length<=W.length:=by
 obtain⟨w1,w2,w3,w4⟩:=P.wrong;have h:=Cv P (bK W).length;rw[Bo W (Eh _)]at h;refine⟨by omega,fun r hr=>?_⟩;obtain⟨g,hg,rfl,R⟩:=(kO P.inj w3 w4 (bK W) [] (fun x h=>h) (fun x h=>by cases h)).2.2.2 r hr;rw[xz];exact P.ord_le (w1 g hg).1
end Wz
namespace L2
open PySem PySem.Spec PyProof.Rows
theorem wE {X:Cx}{pos:Pos}(K:PySem.W.Frag){es:List Expr}{k:Nat}{t:zz}{n:Nat}(hc:X.calm=true)(h:B9 X es t)(hK:X.K=K:=by rfl)
  (hn:(assignEach es X.env).length=n:=by rfl) (hst:(assignEach es X.env).findIdx? (·.1)=none:=by rfl):PG X (.Tuple es k pos) (A9 K n t):=by
 subst hK;exact jX hc h hn hst
end L2
namespace Wz
open PySem L2
theorem ze {HH:Hp}{q t:Addr}{ds:List Addr}{ps:List (Int×Int)}{a b:Int}(h1:HH q=some (.lst (ds.map V.ref)))(h2:Paired (fun b (e:Int×Int)=>HH b=some (.tup [.int e.1,.int e.2])) ds ps)(ht:HH t=none) :
  dD (upd (upd HH t (.tup [.int a,.int b])) q (.lst (ds.map V.ref++[V.ref t]))) q (ps++[(a,b)]):=by
 refine⟨ds++[t],by rw[ag,EE];rfl,?_⟩;exact be (Paired.mapP h2 fun b e y=>by rw[ae (cQ y h1 (by intro u;cases u))];exact (ao ht) _ _ y) (.cons (by rw[ae ((ak h1 ht).symm),ag]) .nil)
end Wz
namespace L2
open PySem
theorem b8.m {j k:Nat}{A:Around}(r:b8 k A)(h:j<=k:=by decide):b8 j A:=r.mono h
theorem ki {X:Cx}{e:Expr}{t:TE}(h:PE X e t)(hs:starEach [e] X.env=(false,eval e X.env)::starEach [] X.env:=by rfl):PA X [e] (mH t pX):=ar h ax hs
theorem ie {X:Cx}{e e2:Expr}{t t2:TE}(h:PE X e t)(h2:PE X e2 t2)(hs:starEach [e,e2] X.env=(false,eval e X.env)::starEach [e2] X.env:=by rfl)(hs2:starEach [e2] X.env=(false,eval e2 X.env)::starEach [] X.env:=by rfl):PA X [e,e2] (mH t (mH t2 pX)):=ar h (ar h2 ax hs2) hs
theorem Af {X:Cx}{e e2 e3:Expr}{t t2 t3:TE}(h:PE X e t)(h2:PE X e2 t2)(h3:PE X e3 t3)(hs:starEach [e,e2,e3] X.env=(false,eval e X.env)::starEach [e2,e3] X.env:=by rfl)(hs2:starEach [e2,e3] X.env=(false,eval e2 X.env)::starEach [e3] X.env:=by rfl)(hs3:starEach [e3] X.env=(false,eval e3 X.env)::starEach [] X.env:=by rfl):PA X [e,e2,e3] (mH t (mH t2 (mH t3 pX))):=ar h (ar h2 (ar h3 ax hs3) hs2) hs
theorem bW {X:Cx}{pos:Pos}(i:Nat){x:Str}{e:Expr}{te:TE}{pos':Pos}(hN:X.N.Nodup)(he:PE X e te)(hi:X.N[i]? = some x:=by rfl)(hx:BS X.env.scope x:=by first | exact Or.inl rfl | exact Or.inr rfl)(hs:swapsWith e (some (.Name x pos')) pos.line X.env=pure false:=by rfl)(hf:X.fn x=true\/X.env.scope.names.lookup x=some .local:=by first | exact .inl rfl | exact .inr rfl | assumption) :
  PS X (.Assign [.Name x pos'] e pos) (Bw te (ky i)):=dw hN hi hx he hs hf
theorem jY {X:Cx}{pos:Pos}(i:Nat){x:Str}(hN:X.N.Nodup)(hi:X.N[i]? = some x:=by rfl)(hx:BS X.env.scope x:=by first | exact Or.inl rfl | exact Or.inr rfl)(hf:X.fn x=true\/X.env.scope.names.lookup x=some .local:=by first | exact .inl rfl | exact .inr rfl | assumption):PG X (.Name x pos) (ky i):=js hN hi hx hf
theorem Cb {so sc:Scope}{N N':List Str}{src:List (Option Nat)}(a:sc.kind=.function:=by rfl)(b:∀ y∈sc.names,y.2≠.cell:=by decide +kernel)(c:∀ y∈sc.names,y.2=.local->sc.names.lookup y.1=some .local:=by decide +kernel)(d:∀ y∈sc.names,y.2=.free->so.names.lookup y.1=some .cell\/so.names.lookup y.1=some .free:=by decide +kernel)(e:N'.Nodup:=by decide +kernel)(f:src.length=N'.length:=by rfl)
  (g:∀ p∈N'.zip src,(match p.2 with | none=>true | some j=>decide (N[j]? = some p.1/\sc.names.lookup p.1=some .free))=true:=by decide +kernel):vK so sc N N' src:=⟨a,b,c,d,e,f,g⟩
theorem iE {N P:List Str}{sc:Scope}(a:sc.kind=.function:=by rfl)(b:sc.isCoroutine=false:=by rfl)(c:sc.isGenerator=false:=by rfl)(d:N.Nodup:=by decide +kernel)(e:N.take P.length=P:=by rfl)(f:∀ x∈P,sc.names.lookup x=some .local\/sc.names.lookup x=some .cell:=by decide +kernel)(g:∀ y∈sc.names,y.2≠.free:=by decide +kernel):az N P sc:=⟨a,b,c,d,e,f,g⟩
end L2
namespace Wz
open PySem L2
def bw (K:PySem.W.Frag)(x:Str)(st:Stmt):Prop:=∃ (f:Addr)(fd:FuncData),PySem.W.nsIn K mainGlobals x=some (some (.ref f))/\eR K x x st f fd
theorem fact_mk {K:PySem.W.Frag}{x:Str}{st:Stmt}{f:Addr}{oc:Value}{od an:Option Addr}{osl:Array (Option Value)}{kV doc pm cdv ct:Value}(a:PySem.W.nsIn K mainGlobals x=some (some (.ref f)))(l:K.lookup f=some ⟨oc,od,.func (PySem.W.fnOf x x (fo st) (df st) (au st) .none kV doc pm an cdv ct),osl⟩)
  (c:PySem.W.codeIn K cdv x=true) (k:PySem.W.keepIn K (.ref f)=true):bw K x st:=⟨f,_,a,yq l c k⟩
def dP (K:PySem.W.Frag)(C:Addr)(m q:Str)(st:Stmt):Prop:=∃ (f:Addr)(fd:FuncData),PySem.W.findIn K (.ref C) m=some (some (.ref f))/\PySem.W.isFn K (.ref f)=true/\eR K m q st f fd
theorem mfact_mk {K:PySem.W.Frag}{C:Addr}{m q:Str}{st:Stmt}{f:Addr}{oc:Value}{od an:Option Addr}{osl:Array (Option Value)}{kV doc pm cdv ct:Value}(a:PySem.W.findIn K (.ref C) m=some (some (.ref f)))(i:PySem.W.isFn K (.ref f)=true)(l:K.lookup f=some ⟨oc,od,.func (PySem.W.fnOf m q (fo st) (df st) (au st) .none kV doc pm an cdv ct),osl⟩)
  (c:PySem.W.codeIn K cdv q=true) (k:PySem.W.keepIn K (.ref f)=true):dP K C m q st:=⟨f,_,a,i,yq l c k⟩
section
variable {P:Program}{w:World}{K:PySem.W.Frag}{h base:Heap}{mg:Str->Option Value}{x m q:Str}{st:Stmt}{k:Nat}{ps:List Str}{sp:Sp}{C:Addr}{CX:qG}
theorem zB {n:Nat}{P:List Value->Prop}(h:∀ (a:Value)(vs:List Value),vs.length=n->P (a::vs)):∀ us:List Value,us.length=n+1->P us
 | a::vs,e=>h a vs (Nat.succ.inj e)
theorem z6 {P:List Value->Prop}(h:P []):∀ us:List Value,us.length=0->P us
 | [],_=>h
theorem rm (X:K.In h)(G:h.Ns mainGlobals mg)(F:bw K x st)(ok:∀ f fd,eR K x x st f fd->aW P w K mg base dB k f fd ps sp)
  (hb:∀ (kV doc pm:Value)(an:Option Addr)(cdv ct:Value)(us:List Value),us.length=ps.length->bindArgs (PySem.W.fnOf x x (fo st) (df st) (au st) .none kV doc pm an cdv ct) ⟨us,[]⟩=pure (ps.zip us):=by intro _ _ _ _ _ _;(repeat refine zB fun _=>?_);exact z6 rfl):aK P w K mg base x k ps sp:=by
 obtain⟨f,fd,a,g⟩:=F;exact⟨f,fd,ok f fd g,Fc X G a,g.kp,g.binds hb⟩
theorem CZ (X:K.In h)(G:h.Ns mainGlobals mg)(F:bw K x st)(ok:∀ f fd,eR K x x st f fd->aW P w K mg base (eY P w) k f fd ps sp)
  (hb:∀ (kV doc pm:Value)(an:Option Addr)(cdv ct:Value)(us:List Value),us.length=ps.length->bindArgs (PySem.W.fnOf x x (fo st) (df st) (au st) .none kV doc pm an cdv ct) ⟨us,[]⟩=pure (ps.zip us):=by intro _ _ _ _ _ _;(repeat refine zB fun _=>?_);exact z6 rfl):dI P w K mg base x k ps sp:=by
 obtain⟨f,fd,a,g⟩:=F;exact⟨f,fd,ok f fd g,Fc X G a,g.kp,g.binds hb⟩
theorem kh (F:dP K C m q st)(ok:∀ f fd,eR K m q st f fd->aW P w K mg base CX k f fd ps sp)
  (hb:∀ (kV doc pm:Value)(an:Option Addr)(cdv ct:Value)(us:List Value),us.length=ps.length->bindArgs (PySem.W.fnOf m q (fo st) (df st) (au st) .none kV doc pm an cdv ct) ⟨us,[]⟩=pure (ps.zip us):=by intro _ _ _ _ _ _;(repeat refine zB fun _=>?_);exact z6 rfl):av P w K mg base CX C m k ps sp:=by
 obtain⟨f,fd,a,i,g⟩:=F;exact⟨f,fd,ok f fd g,⟨a,i,g.kp⟩,g.binds hb⟩
end
end Wz
namespace PySem
open Sem (wp)
section
variable {M:Model}{A:Around}{E:Value->Shared->Prop}{s:Shared}{env:Env}
def BU (M:Model)(A:Around)(E:Value->Shared->Prop)(use:Option (Value->Sem Unit))(Q:Value->Shared->Prop)(acc:Value)(C:Addr)(fr:Option Addr)(r:Result)(s':Shared):Prop :=
 match r,use with
 | .ok _,none=>∃ m,s'.heap.Ns C m/\∀ h',Heap.SameBut C s'.heap h'->Q acc { s' with heap:=h' }
 | .ok _,some u=>wpAny M A (u acc) (fun _ s''=>∃ m,s''.heap.Ns C m/\∀ h',Heap.SameBut C s''.heap h'->Q .none { s'' with heap:=h' }) E s'
 | .error x,_=>∃ m,s'.heap.Ns C m/\∀ h',Heap.SameBut C s'.heap h'->∀ cenv:Env,cenv.frame=fr->wpAny M A (passOn "comprehension.variables-let-go" x cenv:Sem Value) (fun _ _=>False) E { s' with heap:=h' }
end
end PySem
namespace Wz
open PySem L2
def Mu (H:Hp)(b:Addr):Prop:=(∃ k,H b=some (.dK k))\/(∃ k,H b=some (.dT k))\/∃ l,H b=some (.lst l)
theorem aH.mu {C:Addr}{H:Hp}{p:Addr}{A:HA}{st:bZ}(x:aH C H p A st):∀ b∈A.fp,Mu H b:=by
 intro b hb;simp only[HA.fp,En]at hb;rcases hb with rfl | rfl | rfl | rfl | hb
 ·exact .inl ⟨_,x.w⟩
 ·exact .inl ⟨_,x.h⟩
 ·exact .inl ⟨_,x.c⟩
 ·obtain⟨as,h,_⟩:=x.d
  exact .inr (.inr ⟨_,h⟩)
 ·obtain⟨i,hi,rfl⟩:=Fp hb
  obtain⟨y,_,q⟩:=bj x.cs (List.getElem?_eq_getElem hi);exact .inl ⟨_,q⟩
end Wz
namespace L2
open PySem PySem.Spec PyProof.Rows
open AutoSeq1 (wpAny_loadPart')
theorem zR (a v:Value):checkTypeCall "enumerate" ⟨[a],[("start",v)]⟩=pure ():=by kernel_rfl
theorem A7 (a v:Value):checkBuiltinCall "enumerate.__new__" ⟨[.type "enumerate",a],[("start",v)]⟩=pure ():=by kernel_rfl
theorem zQ (o a v:Value):argsOk "object.__init__" ⟨[o,a],[("start",v)]⟩:=by unfold argsOk;kernel_rfl
theorem ym (l:Addr)(items:Array Value)(n:Nat)(dct:Option Addr)(sl:Array (Option Value))(t:Tok) :
  Meets (Builtin.«enumerate.__new__» ⟨[.type "enumerate",.ref l],[("start",.int 1 t)]⟩) (fun _ R s=>s.heap.get? l=some { cls:=.type "list",dict:=dct,data:=.seq items n,slots:=sl } /\
   R (.ok (.ret (.ref (s.heap.push { cls:=.type "list_iterator",data:=.fields #[.ref l,.int 0 0] }).objs.size)))
    { s with heap:=(s.heap.push { cls:=.type "list_iterator",data:=.fields #[.ref l,.int 0 0] }).push { cls:=.type "enumerate",data:=.fields #[.none,.bool false,.ref s.heap.objs.size,rawInt 1,.none,.none] } }) :=
 .of_wp fun prog w A R s h=>by
  obtain⟨hp,g,d,tk,os⟩:=s;obtain⟨hl,h⟩:=h;have hsub:=sub_enumerate;have hL:Heap.IsList (Shared.heap ⟨hp,g,d,tk,os⟩) l items:=⟨_,hl,rfl,n,rfl⟩
  wp_walk using wpAny_loadPart' hl
  refine wpAny_stack_any fun st=>Et ?_;split
  ·rename_i c _ _ _ _ _
   cases (c == Value.type "enumerate")
   ·wp_walk using wpAny_loadPart' hl,Gb hL
    exact⟨_,rfl,h⟩
   ·wp_walk using wpAny_loadPart' hl,Gb hL
    exact⟨_,rfl,h⟩
  ·wp_walk using wpAny_loadPart' hl,Gb hL
   exact⟨_,rfl,h⟩
section
variable {prog:Program}{w:World}{A:Around}{E:Value->Shared->Prop}{s:Shared}
theorem uI {self a v:Value}:Meets (Builtin.«object.__init__» ⟨[self,a],[("start",v)]⟩) (fun _ R s=>s.TypeIs self "enumerate"/\R (.ok (.ret .none)) s):=by
 refine Meets.of_wp fun prog w A R s hs=>?_;obtain⟨hT,hq⟩:=hs;have hl:=(F.called_enumerate).init.lookup;have hm:=(F.called_enumerate).made
 repeat (any_goals (first | assumption | wp_step))
 exact⟨_,rfl,hq⟩
theorem zP {l:Addr}{items:Array Value}{t:Tok}{Q:Value->Shared->Prop}(hL:s.heap.IsList l items)
  (h:∀ h',IsEnum h' (s.heap.objs.size+1) s.heap.objs.size 1 .none->h'.IsListIter s.heap.objs.size l 0->(∀ b o,s.heap.get? b=some o->h'.get? b=some o)->Q (.ref (s.heap.objs.size+1)) { s with heap:=h' }) :
  wpAny (model prog w) A (call (.type "enumerate") [.ref l] [("start",.int 1 t)]) Q E s:=by
 obtain⟨⟨c,dct,dt,sl⟩,hl,hc,n,hd⟩:=hL
 replace hc:c=.type "list":=hc
 replace hd:dt=.seq items n:=hd
 subst hc hd;have ft:=F.called_enumerate;obtain⟨c,tl,hmro⟩:=ft.mro;have hmade:=ft.made;have hsub:=ft.sub;refine Gh (codeAny_of_tree ?_)
 show wpAny _ _ (callAny (.type "enumerate") _) _ _ _
 refine Et ⟨Code.quiet_builtin _ (by decide +kernel),codeAny_builtin F.entry_type_call ?_⟩;rw[Around.under_plain (weight_type_call_type _ _ _) (units_type_call_type _ _ _)];have h1:=ft.notType;have h2:=ft.canCreate;have hct:=zR (.ref l) (.int 1 t)
 repeat (any_goals (first | assumption | wp_step))
 have hz:(s.heap.push { cls:=.type "list_iterator",data:=.fields #[.ref l,.int 0 0] }).objs.size=s.heap.objs.size+1:=Gf ..;refine FS (codeAny_call_builtin ft.plain F.entry_enumerate_new (wpAny_of_eq (A7 _ _) (ym l items n dct sl t prog w A.in1 (wants (fun obj s₁=>s₁.TypeIs obj "enumerate"/\Q obj s₁) E) s ⟨hl,?_⟩))) fun r s₁ hr=>?_
 ·show _/\_
  have he:IsEnum ((s.heap.push { cls:=.type "list_iterator",data:=.fields #[.ref l,.int 0 0] }).push
    { cls:=.type "enumerate",data:=.fields #[.none,.bool false,.ref s.heap.objs.size,rawInt 1,.none,.none] }) (s.heap.objs.size+1) s.heap.objs.size 1 .none:=by
   have:=Heap.get?_push_size (s.heap.push { cls:=.type "list_iterator",data:=.fields #[.ref l,.int 0 0] })
    (o:={ cls:=.type "enumerate",data:=.fields #[.none,.bool false,.ref s.heap.objs.size,rawInt 1,.none,.none] }) rfl
   rw[hz]at this;exact this
  rw[hz];exact⟨⟨_,he,rfl⟩,h _ he ⟨_,Heap.get?_push_of_some _ (Heap.get?_push_size _ rfl),rfl,rfl⟩ fun b o x=>Heap.get?_push_of_some _ (Heap.get?_push_of_some _ x)⟩
 ·cases r with
  | error e=>exact hr
  | ok fl =>
   cases fl with
   | ret obj =>
    obtain⟨hT,hQ⟩:=hr;have hli:=ft.init.lookup;have hbi:=ft.init.bind obj
    repeat (any_goals (first | assumption | wp_step))
    refine FS (codeAny_call_builtin ft.init.plain F.entry_object_init (ft.init.check _ _ _ _ _ _ _ _ hT (zQ _ _ _) (uI prog w A.in1 (wants (fun r s₂=>r=.none/\Q obj s₂) E) s₁ ⟨hT,rfl,hQ⟩))) fun r₂ s₂ hr₂=>?_
    cases r₂ with
    | error e=>exact hr₂
    | ok fl₂ =>
     cases fl₂ with
     | ret r =>
      obtain⟨rfl,hq⟩:=hr₂
      repeat (any_goals (first | assumption | wp_step))
     | _=>exact hr₂.elim
   | _=>exact hr.elim
end
theorem yg {prog:Program}{w:World}{A:Around}{it:Addr}{fp:List Addr}{n:Nat}{P:Nat->Value->Prop}{St:Nat->Heap->Prop}(D:Draws prog w A it fp n P St):Draws prog w A it fp (n+1) (fun j v=>P (j-1) v) (fun j h=>1<=j/\St (j-1) h) where
 live:=fun i h st=>D.live _ h st.2
 frame:=fun i h h' st k=>⟨st.1,D.frame _ h h' st.2 k⟩
 item:=fun i s Q E hi st hQ=>D.item (i-1) s Q E (by have:=st.1;omega) st.2 fun x h' tk hp hs hb=>hQ x h' tk hp ⟨by omega,by have:=st.1;rw[show i+1-1=i-1+1 by omega];exact hs⟩ hb
 done:=fun s Q E st hE=>D.done s Q E st.2 hE
theorem xj {prog:Program}{w:World}{A:Around}(hh:A.handled=none)(it l:Addr)(items:Array Value){i:Nat}(hx:items[i]? = none):Draws prog w A it [it,l] (i+1) (fun _ _=>False) (fun j h=>j=i+1/\h.IsListIter it l i/\h.IsList l items) where
 live:=fun j h st=>let ⟨o,ho,_⟩:=st.2.1;⟨o,ho⟩
 frame:=fun j h h' st k=>⟨st.1,st.2.1.at fun o x=>k it (by simp) o x,st.2.2.at fun o x=>k l (by simp) o x⟩
 item:=fun j s Q E hj st hQ=>by have:=st.1;omega
 done:=fun s Q E st hE=>wpAny_nextOf_list_end hh st.2.1 st.2.2 hx hE
def B0 (K:PySem.W.Frag)(l:Addr):It :=
 ⟨fun i H=>∃ xs x,bz K H l xs/\xs[i]? = some x,fun i H y H'=>∃ T x,H T=none/\y=.ref T/\H'=upd H T (.tup [.int ((i:Int)+1),x])/\∀ xs,bz K H l xs->xs[i]? = some x,fun i H=>∃ xs,bz K H l xs/\xs.length<=i⟩
theorem vF {P:Program}{w:World}{K:PySem.W.Frag}{elts:List Expr} {kk}{pos:Pos}(e it l:Addr)(hne:e≠it):xa P w K (.Tuple elts kk pos) (B0 K l) [e,it] e (fun i h=>(∃ old,IsEnum h e it ((i+1:Nat):Int) old)/\h.IsListIter it l i) where
 mem:=by simp
 obj:=fun i h st b hb=>by
  obtain⟨⟨old,he⟩,⟨o,eo,c,d⟩⟩:=st
  have hb:b=e\/b=it:=by simpa using hb
  rcases hb with rfl | rfl
  ·exact⟨_,he,fun v z=>by cases z⟩
  ·exact⟨o,eo,fun v z=>by rw[d]at z;cases z⟩
 keep:=fun i h h' st k=>⟨st.1.elim fun old he=>⟨old,k e (by simp) _ he⟩,st.2.at fun o x=>k it (by simp) o x⟩
 item:=by
  intro X hP hw hK hc i pins s σ H E I hf st hg;subst hP hw hK;obtain⟨xs,x,hq,hx⟩:=hg;obtain⟨its,rv,p,hz⟩:=I.list hq;obtain⟨u,hu,ru⟩:=rv.get hx;obtain⟨⟨old,he⟩,hit⟩:=st;have fe:=hf e (by simp);have fi:=hf it (by simp);have lte:e<s.heap.objs.size:=Em he
  have lti:it<s.heap.objs.size:=by obtain⟨_,q,_⟩:=id hit;exact Em q
  obtain⟨ol,hol,hcl,_⟩:=id p.isList
  have nl:l≠it:=fun z=>by
   obtain⟨oi,hoi,hci,_⟩:=id hit;rw[<-z,hol]at hoi;cases hoi;rw[hcl]at hci;exact absurd (Value.type.inj hci) (by decide)
  have nle:e≠l:=fun z=>by
   have q:s.heap.get? e=some _:=he;rw[z,hol]at q;cases q;exact absurd (Value.type.inj hcl) (by decide)
  refine wpAny_pyNext_enum_itemD (yg (Draws.list (A:=X.A.in1) (I.ok.hd hc) it l nl its.toArray)) he ⟨by omega,hit,p.isList⟩ (by have:=(List.getElem?_eq_some_iff.mp hu).1;simp;omega) hne (by simp[hne,nle]) fun u' h' tk hu' ho hst' hT hsz hk=>⟨.ref s.heap.objs.size,rfl,?_⟩
  have eu:u'=u:=by
   have:its.toArray[i+1-1]? = some u':=hu';rw[show i+1-1=i by omega]at this
   have h2:its.toArray[i]? = some u:=by simpa using hu
   rw[this]at h2;exact Ei h2
  subst eu;have hit':h'.IsListIter it l (i+1):=hst'.2.1;refine wpAny_letOwnedTupleGo_enum (s:={ s with heap:=h',toks:=tk+1 }) ho fun h2 he2 sb2=>?_;have hfr:H s.heap.objs.size=none:=I.hok.fresh (Eh _)
  have IL:aw X pins σ (upd H s.heap.objs.size (.tup [.int ((i:Int)+1),x])) { s with heap:=s.heap.push { cls:=.type "tuple",data:=.seq #[.int ((i+1:Nat):Int) tk,u'] },toks:=s.toks } :=
   I.laid (fun b o q=>Heap.get?_push_of_some _ q) (Eh _) ⟨by show 2<=sizeLine;decide,[.int ((i+1:Nat):Int) tk,u'],.cons ⟨_,rfl⟩ (.cons ru .nil),⟨_,Heap.get?_push_size _ rfl,rfl,_,rfl⟩⟩
  have fp':∀ b,b<s.heap.objs.size->iP X pins H b->iP X pins (upd H s.heap.objs.size (.tup [.int ((i:Int)+1),x])) b:=fun b hb ⟨f0,f1,f2,f3,f4,f5⟩=>⟨by rw[ae (Eu hb)];exact f0,f1,f2,f3,f4,f5⟩
  have I2:aw X pins σ (upd H s.heap.objs.size (.tup [.int ((i:Int)+1),x])) { s with heap:=h2,toks:=tk+1 }:=IL.turned2 (t':=tk+1) (h':=h2) (fun b o n1 n2 q=>by
   refine (sb2.2 b n1).trans ?_
   show h'.get? b=some o
   by_cases hb:b=s.heap.objs.size
   ·subst hb
    have q:(s.heap.push { cls:=.type "tuple",data:=.seq #[.int ((i+1:Nat):Int) tk,u'] }).get? s.heap.objs.size=some o:=q;rw[Heap.get?_push_size _ rfl]at q;cases q;exact hT
   ·have q:(s.heap.push { cls:=.type "tuple",data:=.seq #[.int ((i+1:Nat):Int) tk,u'] }).get? b=some o:=q
    refine hk b o n1 n2 ?_;rw[Heap.get?_push_ne _ _ _ hb]at q
    exact q) (fp' e lte fe) (fp' it lti fi)
  refine⟨.ref s.heap.objs.size,_,I2,rfl,⟨s.heap.objs.size,x,hfr,rfl,rfl,fun ys hy=>by rw[I.list_inj hy hq];exact hx⟩,⟨⟨_,by simpa using he2⟩,hit'.at fun o q=>(sb2.2 it (Ex hne)).trans q⟩,fun b hb=>?_⟩
  have hb':b=e\/b=it:=by simpa using hb
  rcases hb' with rfl | rfl
  ·exact (fp' _ lte fe).1
  ·exact (fp' _ lti fi).1
 done:=by
  intro X hP hw hK hc i pins s σ H E I hf st hg;subst hP hw hK;obtain⟨xs,hq,hx⟩:=hg;obtain⟨its,rv,p,hz⟩:=I.list hq;obtain⟨⟨old,he⟩,hit⟩:=st;obtain⟨f0,f1,f2,f3,f4,f5⟩:=hf it (by simp);have hl:=rv.length;exact wpAny_pyNext_enum_endD (xj (A:=X.A.in1) (I.ok.hd hc) it l its.toArray (i:=i) (by simp;omega)) he ⟨rfl,hit,p.isList⟩ fun h' eb=>⟨rfl,I.turned (t':=s.toks) (fun b o hb q=>eb b o hb q) f0 f1 f3 f4 f5⟩
 self:=fun _ _ _ _ _ st h=>st.1.elim fun old he=>wpAny_pyIter_enum he h
theorem mO {M:Model}{A:Around}{E:Value->Shared->Prop}{s:Shared}{env:Env}{pos:Pos}{T:String}{Q:Value->Shared->Prop}{e:Expr}{rest:List Expr}{kws:List Keyword}(hall:(backToKw pos (keywordEach kws env)).all (·.1.isSome)=true)
  (h:wpAny M A (spliced (backTo pos (starEach (e::rest) env))) (fun vs s₁=>wpAny M A (evalAll ((backToKw pos (keywordEach kws env)).map (·.2)))
   (fun ks s₂=>wpAny M A (call (.type T) vs (((backToKw pos (keywordEach kws env)).filterMap (·.1)).zip ks)) Q E s₂) E s₁) E s)
  (hplain:((backTo pos (starEach (e::rest) env)).any (·.1)||(backToKw pos (keywordEach kws env)).any (·.1.isNone))=false:=by rfl) (he:starEach (e::rest) env=(false,eval e env)::starEach rest env:=by rfl) :
  wpAny M A (callWith pos (.type T) [] (backTo pos (starEach (e::rest) env)) (backToKw pos (keywordEach kws env))) Q E s:=by
 unfold callWith;refine Ef (FK (E4 (evalArgs_kw2 (Q:=fun a s₁=>wpAny M A (call (.type T) a.pos a.kw) Q E s₁) hall h he) (fun a s₁ h₁=>Ef (F7 ?_)) fun _ _ x=>x));simp only[hplain];refine Ef (Et ?_);exact Ef (E4 h₁ (fun r s₂ hr=>Ef (FK (wpAny_point (Et hr)))) fun _ _ x=>x)
def Ba (K:PySem.W.Frag)(t:TA):TI:=fun σ H R=>t σ H fun vs H1=>∃ l,vs=[.ref l]/\(∃ xs,bz K H1 l xs)/\R (B0 K l) H1
theorem yX {X:Cx}{elts:List Expr} {kk}{tpos:Pos}{a:Expr}{ta:TA}{p pos cp kp:Pos}{cj:Nat}(hg:Gl X "enumerate")(hm:X.mg "enumerate" = none)(ha:PA X [a] ta)
  (he:starEach [a] X.env=(false,eval a X.env)::starEach [] X.env:=by rfl)
  (hpl:((backTo pos (starEach [a] X.env)).any (·.1)||(backToKw pos (keywordEach [⟨some "start",.Constant (.int 1) cj cp,kp⟩] X.env)).any (·.1.isNone))=false:=by rfl) :
  PI X (.Tuple elts kk tpos) (.Call (.Name "enumerate" p) [a] [⟨some "start",.Constant (.int 1) cj cp,kp⟩] pos) (Ba X.K ta):=by
 intro pins s σ H R I h;refine Ft (jT I hg hm boot_enumerate ?_ (by decide) (by decide));refine mO (by rfl) (bA (ha pos pins s σ H _ I h) fun us s1 ⟨vs,H1,I1,r1,l,e1,⟨xs,hq⟩,q⟩=>?_) hpl he;subst e1;obtain⟨u,rfl,rx⟩:=mI r1;cases rx;refine bA ((Aj aj Bm:PK X [⟨some "start",.Constant (.int 1) cj cp,kp⟩] _) pos pins s1 σ H1 (fun vs H2=>vs=[.int 1]/\H2=H1) I1 ⟨rfl,rfl⟩) fun ws s2 ⟨zs,H2,I2,rz,ez,eh⟩=>?_;subst ez eh;obtain⟨u2,rfl,rx2⟩:=mI rz;obtain⟨t,rfl⟩:=rx2;obtain⟨its,rv,pl,hz⟩:=I2.list hq;refine zP pl.isList fun h' hE hI hk=>?_;have I3:aw X pins σ H2 { s2 with heap:=h',toks:=s2.toks }:=I2.kept hk;refine wpAny_pyIter_enum (s:={ s2 with heap:=h' }) hE ?_;refine⟨s2.heap.objs.size+1,[s2.heap.objs.size+1,s2.heap.objs.size],_,_,H2,rfl,I3,vF _ _ l (Nat.succ_ne_self _),⟨⟨_,hE⟩,hI⟩,fun b hb=>?_,q⟩
 have hb:b=s2.heap.objs.size+1\/b=s2.heap.objs.size:=by simpa using hb
 rcases hb with rfl | rfl
 ·exact I2.fpOk (F9 _) (I2.hok.fresh (F9 _))
 ·exact I2.fpOk (Eh _) (I2.hok.fresh (Eh _))
theorem xm {K:PySem.W.Frag}{a:Addr}{xs:List V}{g:TG}{tb:TS}{D:k6}{σ:St}{H:Hp}(Pv:Nat->St->Hp->Prop)(h0:Pv 0 σ H)(hl:∀ i σ H,i<=xs.length->Pv i σ H->bz K H a xs)
  (hs:∀ i x σ H T,xs[i]? = some x->Pv i σ H->H T=none->g (.ref T) σ (upd H T (.tup [.int ((i:Int)+1),x])) fun σ2 H2=>tb { D with nx:=Pv (i+1),ct:=Pv (i+1),bk:=D.nx } σ2 H2) (hd:∀ σ H,Pv xs.length σ H->D.nx σ H) :
  ∃ W:Nat->Nat->St->Hp->Prop,(∃ m,W 0 m σ H)/\∀ i m σ H,W i m σ H ->
   ((B0 K a).stop i H/\D.nx σ H)\/((B0 K a).go i H/\∃ N:St->Hp->Prop,(∀ σ' H',N σ' H'->∃ m',m'<m/\W (i+1) m' σ' H')/\∀ x H',(B0 K a).yld i H x H'->g x σ H' fun σ2 H2=>tb { D with nx:=N,ct:=N,bk:=D.nx } σ2 H2):=by
 refine⟨fun i m σ H=>m=xs.length-i/\i<=xs.length/\Pv i σ H,⟨xs.length,by simp,EK _,h0⟩,?_⟩;rintro i m σ H ⟨rfl,hi,p⟩;have q:=hl i σ H hi p
 by_cases hlt:i<xs.length
 ·refine .inr ⟨⟨xs,xs[i],q,by simp[hlt]⟩,Pv (i+1),fun σ' H' p'=>⟨xs.length-(i+1),by omega,rfl,hlt,p'⟩,fun y H' z=>?_⟩
  obtain⟨T,x,hT,e1,e2,hx⟩:=z;subst e1 e2;exact hs i x σ _ T (hx xs q) p hT
 ·have e:i=xs.length:=by omega
  exact .inl ⟨⟨xs,q,by omega⟩,hd σ H (e▸p)⟩
abbrev uW (qual:Str)(scope:Scope)(s:Shared)(f c':Addr)(y:Str)(cy:Addr):Env:=PySem.W.envX qual scope s.heap.objs.size f (.ref c') [(y,cy)]
def vW (CX:qG)(P:Program)(w:World)(K:PySem.W.Frag)(mg:Str->Option Value)(base:Heap)(N:List Str)(qual:Str)(scope:Scope)(f c':Addr)(y:Str)(cy:Addr)(A:Around)(outer:List Env)(s:Shared)(H:Hp)(E:XK):Cx where
 prog:=P
 w:=w
 K:=K
 mg:=mg
 base:=base
 A:=A.deeper (uW qual scope s f c' y cy)
 N:=N
 s₀:=s
 H₀:=H
 env:=uW qual scope s f c' y cy
 outer:=outer
 stack:=uW qual scope s f c' y cy::outer
 ex:=[]
 calm:=true
 fn:=fun _=>false
 pn:=[]
 xe:=fun e s'=>wpAny (model P w) (A.deeper (uW qual scope s f c' y cy)) (leaving (uW qual scope s f c' y cy) e) (fun _ s''=>CX outer H s E e s'') (fun e' s''=>CX outer H s E e' s'') s'
structure sD (ps:List Str)(y:Str)(sc:Scope):Prop where
 kind:sc.kind=.function
 co:sc.isCoroutine=false
 gen:sc.isGenerator=false
 nd:(ps++[y]).Nodup
 par:∀ x∈ps,sc.names.lookup x=some .local
 nocell:∀ z∈sc.names,z.2≠.cell
 fr:∀ x,sc.names.lookup x=some .free->x=y
 fry:sc.names.lookup y=some .free
structure km (base:Heap)(qual:Str)(params:Arguments)(body:Expr)(scope:Scope)(y:Str)(vy:V)(f c' cy:Addr)(pm ct:Value):Prop where
 ob:base.get? f=some (PySem.W.kla_obj "<lambda>" qual params body scope [(y,cy)] pm c' ct)
 cell:∃ u,aT vy u/\base.IsCell cy (some u)
def jA (H:Hp)(c':Addr)(qual:Str):Prop:=∃ oc vs t,H c'=some (.frz oc (.own c'))/\oc.data=.fields vs/\vs[1]? = some (.str qual t)
theorem jA.rec {P:Program}{w:World}{H:Hp}{h:Heap}{c':Addr}{qual:Str}(x:jA H c' qual)(ok:iJ P w H h):h.CodeRec (.ref c') qual:=by
 obtain⟨oc,vs,t,e,d,v⟩:=x;exact⟨c',oc,vs,t,rfl,(ok c' _ e).1,d,v⟩
theorem wk {α:Type}{x:Str}{u:α}:∀ {l:List (Str×α)},(l.map (·.1)).Nodup->(x,u)∈l->l.lookup x=some u
 | p::l,nd,h=>by
  rw[EF,EQ]at nd;rw[EY];rcases En.mp h with e | e
  ·rw[<-e];simp
  ·have ne:(x == p.1)=false:=by
    rw[Fo];exact fun z=>nd.1 (by rw[<-z];exact FL (f:=(·.1)) e)
   rw[ne];exact wk nd.2 e
theorem zx {ps:List Str}{us:List Value}{i:Nat}{x:Str}{u:Value}(nd:ps.Nodup)(hl:ps.length=us.length)(h1:ps[i]? = some x)(h2:us[i]? = some u):(ps.zip us).reverse.lookup x=some u:=by
 refine wk ?_ ?_
 ·rw[List.map_reverse,List.map_fst_zip (by omega)]
  exact (List.reverse_perm ps).nodup_iff.mpr nd
 ·rw[List.mem_reverse]
  exact EN (i:=i) (List.getElem?_zip_eq_some.mpr ⟨h1,h2⟩)
theorem xx {CX:qG}{P:Program}{w:World}{K:PySem.W.Frag}{mg:Str->Option Value}{base:Heap}{ps:List Str}{y:Str}{qual:Str}{params:Arguments}{body:Expr}{scope:Scope}{vy:V}{f c' cy:Addr}{pm ct:Value}{A:Around}{outer:List Env}{s:Shared}{h1:Heap}{tk:Nat}{H:Hp}{E:XK}{us:List Value}{vs:List V}
  (S:sD ps y scope) (Lm:km base qual params body scope y vy f c' cy pm ct) (hd:A.handled=none) (e0:qI P w K mg base A outer s H) (hl:vs.length=ps.length) (r:aU vs us)
  (hns:h1.Ns s.heap.objs.size (fun x=>(ps.zip us).reverse.lookup x)) (hk:∀ b o,s.heap.get? b=some o->h1.get? b=some o) :
  aw (vW CX P w K mg base (ps++[y]) qual scope f c' y cy A outer s H E) [] (vs.map some++[some vy]) H { s with heap:=h1,toks:=tk }:=by
 have noA:∀ b:Addr,b∉(vW CX P w K mg base (ps++[y]) qual scope f c' y cy A outer s H E).ex:=fun b z=>absurd (show b∈([]:List Addr) from z) (by simp);obtain⟨uy,ry,oc,hoc,hdc⟩:=Lm.cell
 have lk:∀ x c,List.lookup x [(y,cy)]=some c->x=y/\c=cy:=fun x c h=>by
  rw[EY]at h
  cases e:x == y with
  | true=>rw[e]at h;cases h;exact⟨eq_of_beq e,rfl⟩
  | false=>rw[e]at h;cases h
 have lky:List.lookup y [(y,cy)]=some cy:=by rw[EY,beq_self_eq_true]
 refine⟨⟨e0.mod,S.kind,rfl,rfl,Eh _,fun x z c h1 h2=>?_,fun x hx=>?_,fun x c h=>?_,fun _=>hd,Around.frames_deeper e0.frames,.inr ⟨rfl,rfl⟩,fun b z=>absurd z (noA b),e0.bs,e0.bsz,fun b _ _=>noA b,fun b z=>absurd z (noA b),e0.funs,e0.frf⟩,
  rfl,e0.bare,Un.kept hk,⟨_,hns,fun i x v h1 h2 h3=>?_⟩,fun x c h=>?_,e0.hok.fresh (Eh _),fun x c h=>?_,fun p hp=>absurd (show p∈([]:List (Addr×Obj)) from hp) (by simp),e0.hok.kept hk,?_⟩
 ·rw[(lk x c h1).1,(lk z c h2).1]
 ·have hx:scope.names.lookup x=some .cell\/scope.names.lookup x=some .free:=hx
  rcases hx with q | q
  ·exact absurd rfl (S.nocell _ (Ff q))
  ·exact⟨cy,by rw[S.fr x q];exact lky⟩
 ·cases h
 ·by_cases hi:i<ps.length
  ·have hp:ps[i]? = some x:=by
    have h1:(ps++[y])[i]? = some x:=h1;rw[List.getElem?_append_left hi]at h1;exact h1
   have ha:vs[i]? = some v:=by
    have h2:(vs.map some++[some vy])[i]? = some (some v):=h2;rw[List.getElem?_append_left (by simpa [hl] using hi),List.getElem?_map]at h2
    cases e:vs[i]? with
    | none=>rw[e]at h2;cases h2
    | some a=>rw[e]at h2;cases h2;rfl
   obtain⟨u,hu,rv⟩:=r.get ha;refine⟨u,rv,.inl ⟨S.par x (EN hp),?_⟩⟩;exact zx (FI.mp S.nd).1 (by rw[<-r.length,hl]) hp hu
  ·have h1:(ps++[y])[i]? = some x:=h1
   have hi2:i=ps.length:=by have:=(List.getElem?_eq_some_iff.mp h1).1;simp at this;omega
   have h2:(vs.map some++[some vy])[i]? = some (some v):=h2;rw[hi2,List.getElem?_append_right (Eh _),FU]at h1;rw[hi2,List.getElem?_append_right (by simp[hl]),show ps.length-(vs.map some).length=0 by simp[hl]]at h2;cases h1;cases h2;exact⟨uy,ry,.inr ⟨.inr S.fry,cy,lky,oc,hk _ _ (e0.bs _ _ hoc).1,hdc⟩⟩
 ·obtain⟨rfl,rfl⟩:=lk x c h
  exact⟨_,oc,hk _ _ (e0.bs _ _ hoc).1,hdc⟩
 ·obtain⟨rfl,rfl⟩:=lk x c h
  exact (e0.bs _ _ hoc).2
 ·show (vs.map some++[some vy]).length=(ps++[y]).length
  simp[hl]
theorem yB {CX:qG}{P:Program}{w:World}{K:PySem.W.Frag}{mg:Str->Option Value}{base:Heap}{k:Nat}{ps:List Str}{y:Str}{qual:Str}{params:Arguments}{body:Expr}{scope:Scope}{vy:V}{f c' cy:Addr}{pm ct:Value}{sp:Sp}
  (S:sD ps y scope) (Lm:km base qual params body scope y vy f c' cy pm ct)
  (len:∀ vs H Q E,sp vs H Q E->vs.length=ps.length) (hcd:∀ vs H Q E,sp vs H Q E->jA H c' qual)
  (hbody:∀ (A:Around)(outer:List Env)(s:Shared)(H:Hp)(vs:List V)(Q:VK)(E:XK),b8 k (A.deeper (uW qual scope s f c' y cy))->sp vs H Q E ->
   ∃ t,PE (vW CX P w K mg base (ps++[y]) qual scope f c' y cy A outer s H E) body t/\t (vs.map some++[some vy]) H Q) :
  aW P w K mg base CX (k+1) f (PySem.W.kla_fn "<lambda>" qual params body scope [(y,cy)] pm (.ref c') ct) ps sp:=by
 refine⟨len,fun A outer s H args us vs Q E hr e0 hb r hsp=>?_⟩;have hl:=len _ _ _ _ hsp;have hkp:∀ b o,base.get? b=some o->s.heap.get? b=some o:=fun b o e=>(e0.bs b o e).1;have lim:s.heap.NoLimit:=e0.mod.nolimit.keeps hkp;refine PySem.W.kla_callFunE hr.depth (hkp _ _ Lm.ob) rfl S.co S.gen rfl ((hcd _ _ _ _ hsp).rec e0.hok) (hb _ _ _ _ ?_);refine wpAny_newFunctionEnv S.nocell (fun z hz=>S.par z.1 (List.of_mem_zip hz).1) (fun h1 hns hsb=>⟨lim.fresh _ hsb,?_⟩) S.kind;have hk1:∀ b o,s.heap.get? b=some o->h1.get? b=some o:=fun b o e=>hsb.extBut b o (Eu (Em e)) (Heap.get?_push_of_some _ e)
 show codeAny _ _ (.expr body (uW qual scope s f c' y cy)) _ _
 obtain⟨t,ht,hq⟩:=hbody A outer s H vs Q E (hr.deeper _) hsp;have I:aw (vW CX P w K mg base (ps++[y]) qual scope f c' y cy A outer s H E) [] (vs.map some++[some vy]) H { s with heap:=h1,toks:=s.toks+(ps.zip us).length }:=xx S Lm hr.hd e0 hl r hns hk1;refine PySem.W.kla_codeExpr (E4 (ht [] _ _ H Q I hq) (fun u s' ⟨v,H',J,rv,q⟩=>?_) fun e s' hs=>hs);exact⟨v,H',J.os,J.bare,J.base,J.hok,rv,q⟩
def iC (K:PySem.W.Frag)(c P:Addr):Prop:=∃ (o:Obj)(vs:Array Value)(file:Str)(tf:Tok)(flags:Int)(tg:Tok)(inF:Bool)(text:Int)(tt:Tok),K.lookup c=some o/\o.cls=.type "code"/\o.data=.fields vs/\vs[11]? = some (.ref P)/\vs.getD 11 .none=.ref P/\vs.getD 18 .none=.str file tf /\
  vs.getD 7 .none=.int flags tg/\vs.getD 9 .none=.bool inF/\vs.getD 10 .none=.int text tt/\c≠P
theorem iC.hd {K:PySem.W.Frag}{c P:Addr}{h:Heap}(x:iC K c P)(k:K.In h):PySem.W.CodeHd h c P:=by
 obtain⟨o,vs,file,tf,flags,tg,inF,text,tt,e,r⟩:=x;exact⟨o,vs,file,tf,flags,tg,inF,text,tt,k _ _ e,r⟩
def pI (mg:Str->Option Value)(base:Heap):Prop:=∃ bm ob,mg "__builtins__" = some (.ref bm)/\bm≠builtinsNs/\base.get? bm=some ob/\ob.cls=.type "module"/\ob.dict=some builtinsNs/\ob.data=.plain
def fm (H:Hp)(P:Addr)(pos:Pos)(qual:Str):Prop:=H P=some (.tbl #[])\/∃ c',H P=some (.tbl #[rawInt pos.line,rawInt pos.col,.ref c'])/\jA H c' qual
theorem fm.tbl {H:Hp}{P:Addr}{pos:Pos}{qual:Str}(x:fm H P pos qual):∃ ps,H P=some (.tbl ps):=x.elim (fun e=>⟨_,e⟩) fun ⟨_,e,_⟩=>⟨_,e⟩
theorem fm.same {H H':Hp}{P:Addr}{pos:Pos}{qual:Str}(x:fm H P pos qual)(s:aF H H'):fm H' P pos qual:=by
 rcases x with e | ⟨c',e,oc,vs,t,e2,r⟩
 ·exact .inl (s _ _ e)
 ·exact .inr ⟨c',s _ _ e,oc,vs,t,s _ _ e2,r⟩
section
variable {X:Cx}{pins:List (Addr×Obj)}{σ:St}{H:Hp}{s:Shared}
theorem yA {A:Around}{E:Value->Shared->Prop}{params:Arguments}{body:Expr}{scope:Scope}{pos:Pos}{y:Str}{c0 P cy:Addr}{qual:Str}{Q:Value->Shared->Prop}(I:aw X pins σ H s)(hc:X.env.code=.ref c0)(C:iC X.K c0 P)(B:pI X.mg X.base)(hq:X.env.qual++"<lambda>" = qual)
  (hT:fm H P pos qual) (hdf:defaultsOf params X.env=([],[])) (hcl:closureFor scope X.env=pure [(y,cy)]) (hcy:X.env.cells.lookup y=some cy)
  (h:∀ (f c':Addr)(pm ct:Value)(H':Hp)(s':Shared),aw X pins σ H' s'->s'.heap.get? f=some (PySem.W.kla_obj "<lambda>" qual params body scope [(y,cy)] pm c' ct)->s.heap.objs.size<=f->H' f=none->jA H' c' qual->fm H' P pos qual->(∀ b o,H b=some o->b≠P->H' b=some o) ->
   (∀ b o,s.heap.get? b=some o->b≠P->s'.heap.get? b=some o)->Q (.ref f) s') :
  wpAny (model X.prog X.w) A (eval (.Lambda params body scope pos) X.env) Q E s:=by
 refine PySem.W.kla_eval hdf ?_;rw[hq];have kb:=I.bk;have CH:=C.hd I.kIn;obtain⟨bm,ob,b1,b2,b3,b4,b5,b6⟩:=B;have gN:s.heap.Ns mainGlobals X.mg:=I.ok.mod.glob.keeps kb;obtain⟨ps,hps⟩:=hT.tbl;have hPo:s.heap.get? P=some (PySem.W.tabObj ps):=I.hok P _ hps
 have nP:∀ b o,X.base.get? b=some o->b≠P:=fun b o e z=>by rw[z]at e;rw[(I.bs _ _ e).2]at hps;cases hps
 have gP:mainGlobals≠P:=fun z=>by
  obtain⟨o,es,ep,e,hd,_⟩:=I.ok.mod.glob;exact nP _ _ e z
 have bG:bm≠mainGlobals:=fun z=>by
  obtain⟨o,es,ep,e,hd,_⟩:=I.ok.mod.glob;rw[z,e]at b3;cases b3;rw[hd]at b6;cases b6
 have hb:s.heap.BuiltinsAt X.mg P:=⟨bm,ob,b1,b2,bG,nP _ _ b3,kb _ _ b3,b4,b5,b6⟩;rcases hT with hT | ⟨c',hT,hcf⟩
 ·rw[hps]at hT
  cases hT;refine PySem.W.kla_makeFunction (mg:=X.mg) hcl I.ok.glob gN hc CH hPo (by trivial) rfl gP hb fun c' ctv h' tk hx hge hlt hrec htb=>?_;obtain⟨c1,oc,vs,t,e1,hoc,hdc,hvc⟩:=hrec;cases e1;have hcH:H c'=none:=I.hok.fresh hge
  have cP:c'≠P:=fun z=>by rw[z,hps]at hcH;cases hcH
  have fH:H h'.objs.size=none:=I.hok.fresh (EI hge (Nat.le_of_lt hlt))
  have fP:h'.objs.size≠P:=fun z=>by rw[z,hps]at fH;cases fH
  have fc:h'.objs.size≠c':=Nat.ne_of_gt hlt;have kk:∀ b o,s.heap.get? b=some o->b≠P->(h'.push (PySem.W.kla_obj "<lambda>" qual params body scope [(y,cy)] ((X.mg "__name__").getD .none) c' ctv)).get? b=some o:=fun b o e n=>Heap.get?_push_of_some _ (hx b o n e);have lt0:∀ b o,s.heap.get? b=some o->b≠c':=fun b o e z=>absurd (Ez (Em (z▸e)) hge) (F6 _)
  have ltH:∀ b o,H b=some o->b≠c':=fun b o e z=>by rw[z,hcH]at e;cases e
  have I1:aw X pins σ (upd (upd H P (.tbl (#[]++#[rawInt pos.line,rawInt pos.col,.ref c']))) c' (.frz oc (.own c'))) { s with heap:=h'.push (PySem.W.kla_obj "<lambda>" qual params body scope [(y,cy)] ((X.mg "__name__").getD .none) c' ctv),toks:=tk }:=by
   have hne:∀ b o,H b=some o->b≠P->upd (upd H P (.tbl (#[]++#[rawInt pos.line,rawInt pos.col,.ref c']))) c' (.frz oc (.own c')) b=some o:=fun b o e n=>by rw[ae (ltH b o e),ae n];exact e
   refine I.un ⟨fun b o e n _ _=>kk b o e (fun z=>by rw[z,hps]at n;cases n),fun b o e n _ _=>⟨o.slots,kk b o e (fun z=>by rw[z,hps]at n;cases n)⟩,fun b o e n _=>?_,fun b o e _=>?_,fun b xs e=>hne b _ e (fun z=>by rw[z,hps]at e;cases e),fun b o u e=>hne b _ e (fun z=>by rw[z,hps]at e;cases e),fun b qs e=>?_⟩ fun b u e=>?_
   ·rw[ae (lt0 b o e),ae (fun z=>by rw[z,hps]at n;cases n)];exact n
   ·by_cases z:b=P
    ·exact⟨_,by rw[z];exact Heap.get?_push_of_some _ htb⟩
    ·exact⟨o,kk b o e z⟩
   ·by_cases z:b=P
    ·rw[z,hps]at e;cases e
     exact⟨#[rawInt pos.line,rawInt pos.col,.ref c'],by rw[z,ae (Ex cP),ag]⟩
    ·exact⟨#[],by rw[hne b _ e z];simp⟩
   ·by_cases z:b=c'
    ·rw[z,ag]at e
     cases e;rw[z];exact⟨Heap.get?_push_of_some _ hoc,_,Heap.get?_push_of_some _ hoc⟩
    ·rw[ae z]at e
     by_cases z2:b=P
     ·rw[z2,ag]at e
      cases e;rw[z2];exact Heap.get?_push_of_some _ htb
     ·rw[ae z2]at e
      refine (I.hok b u e).stay (fun d v hd q=>kk d v q ?_) (fun d q=>hne d _ q (fun z=>by rw[z,hps]at q;cases q)) fun d xs q=>hne d _ q (fun z=>by rw[z,hps]at q;cases q);rcases hd with r | r
      ·rw[r];exact z2
      ·exact fun z=>by rw[z,hps]at r;cases r
  have cf:jA (upd (upd H P (.tbl (#[]++#[rawInt pos.line,rawInt pos.col,.ref c']))) c' (.frz oc (.own c'))) c' qual:=⟨oc,vs,t,ag,hdc,hvc⟩;refine h _ c' _ ctv _ _ I1 (Heap.get?_push_size _ rfl) (EI hge (Nat.le_of_lt hlt)) ?_ cf (.inr ⟨c',?_,cf⟩) (fun b o e n=>?_) kk
  ·rw[ae fc,ae fP];exact fH
  ·rw[ae (Ex cP),ag];rfl
  ·rw[ae (ltH b o e),ae n];exact e
 ·rw[hps]at hT
  cases hT;refine PySem.W.kla_makeFunctionHit (cv:=.ref c') (mg:=X.mg) hcl I.ok.glob gN hc CH hPo ?_ ?_ hb fun ctv h' tk hk hsz=>?_
  ·exact True.intro
  ·exact codeAmong_snoc (pos:=pos) (c:=.ref c') [] True.intro rfl
  have fH:H h'.objs.size=none:=I.hok.fresh hsz;have kk:∀ b o,s.heap.get? b=some o->(h'.push (PySem.W.kla_obj "<lambda>" qual params body scope [(y,cy)] ((X.mg "__name__").getD .none) c' ctv)).get? b=some o:=fun b o e=>Heap.get?_push_of_some _ (hk b o e);exact h _ c' _ ctv H _ (I.kept kk) (Heap.get?_push_size _ rfl) hsz fH hcf (.inr ⟨c',hps,hcf⟩) (fun b o e _=>e) (fun b o e _=>kk b o e)
theorem mx {h base base':Heap}:∀ {l:List Env},h.FunFrames base l->(∀ b∈iR l,base'.get? b=none)->h.FunFrames base' l
 | [],_,_=>trivial
 | env::r,hl,hn=>by
  obtain⟨hk,⟨L,o,hf,hb,ho,hd⟩,hr⟩:=hl
  have e:iR (env::r)=L::iR r:=by unfold iR;rw[List.filterMap_cons,hf]
  rw[e]at hn;exact⟨hk,⟨L,o,hf,hn L Ep,ho,hd⟩,mx hr fun b hb=>hn b (Ek _ hb)⟩
def n9 (base h:Heap)(f cy:Addr):Heap:=PySem.W.hideAll h ((List.range h.objs.size).filter fun b=>decide (base.get? b=none/\b≠f/\b≠cy))
theorem jO {base h:Heap}{f cy b:Addr}{o:Obj}(e:h.get? b=some o)(hb:(∃ o,base.get? b=some o)\/b=f\/b=cy):(n9 base h f cy).get? b=some o:=by
 refine PySem.W.hideAll_get _ e fun z=>?_;obtain⟨n1,n2,n3⟩:=FH (FW.mp z).2;rcases hb with ⟨o,q⟩ | q | q
 ·rw[n1]at q;cases q
 ·exact n2 q
 ·exact n3 q
theorem qr {base h:Heap}{f cy b:Addr}{o:Obj}(e:(n9 base h f cy).get? b=some o):h.get? b=some o/\((∃ o,base.get? b=some o)\/b=f\/b=cy):=by
 have e1:=PySem.W.of_hideAll _ e;refine⟨e1,?_⟩
 by_cases z:base.get? b=none/\b≠f/\b≠cy
 ·have:(n9 base h f cy).get? b=none:=PySem.W.hideAll_none _ (FW.mpr ⟨EX.mpr (Em e1),EC z⟩)
  rw[this]at e;cases e
 ·by_cases z1:b=f
  ·exact .inr (.inl z1)
  by_cases z2:b=cy
  ·exact .inr (.inr z2)
  cases q:base.get? b with
  | none=>exact absurd ⟨q,z1,z2⟩ z
  | some o=>exact .inl ⟨o,rfl⟩
theorem Mod.keeps {K:PySem.W.Frag}{mg:Str->Option Value}{base base':Heap}(m:Mod K mg base)(k:∀ b o,base.get? b=some o->base'.get? b=some o):Mod K mg base' :=
 ⟨m.kin.keeps k,m.glob.keeps k,let ⟨mb,h1,h2⟩:=m.blt;⟨mb,h1.keeps k,h2⟩,m.nolimit.keeps k⟩
theorem yz {f cy:Addr}{y:Str}(I:aw X pins σ H s)(hf:H f=none)(hfo:∃ o,s.heap.get? f=some o)(hs0:X.env.locals<f)(hcy:X.env.cells.lookup y=some cy)(hfn:X.fn y=true):qI X.prog X.w X.K X.mg (n9 X.base s.heap f cy) X.A X.stack s H:=by
 have e0:=I.env0
 have nf:∀ b∈iR X.stack,b≠f/\b≠cy:=fun b hb=>by
  rcases En.mp (I.stkSub b hb) with z | z
  ·exact⟨by rw[z];exact Eu hs0,by rw[z];exact (I.cne y cy hcy).symm⟩
  ·obtain⟨_,o,ho,_⟩:=I.ok.funs.mem z
   have l1:=Em ho;have l2:=I.ok.cab y cy hfn hcy;have l3:=I.ok.above;exact⟨Eu (Nat.lt_trans (Ez l1 l3) hs0),Eu (Ez l1 l2)⟩
 refine⟨e0.frames,I.ok.mod.keeps fun b o e=>jO (I.bk b o e) (.inl ⟨o,e⟩),fun b o e=>?_,Nat.le_of_eq (PySem.W.hideAll_size _ _),mx e0.funs fun b hb=>?_,e0.frf,e0.hok,e0.bare⟩
 ·obtain⟨e1,z⟩:=qr e
  refine⟨e1,?_⟩;rcases z with ⟨o',z⟩ | z | z
  ·exact (I.bs b o' z).2
  ·rw[z];exact hf
  ·rw[z];exact I.freeC y cy hcy
 ·cases q:(n9 X.base s.heap f cy).get? b with
  | none=>rfl
  | some o =>
   obtain⟨_,z⟩:=qr q;rcases z with ⟨o',z⟩ | z | z
   ·have:=(I.stack.mem hb).1
    rw[this]at z;cases z
   ·exact absurd z (nf b hb).1
   ·exact absurd z (nf b hb).2
end
section
variable {X:Cx}{CX:qG}{k:Nat}{E:XK}{x y:Str}{p pos:Pos}{e e1 e2:Expr}{es:List Expr}{te t1 t2:TE}{t:TA}
theorem oZ {iy:Nat}{fw c0 P cy:Addr}{fdw:FuncData}{psw:List Str}{sp:Addr->Addr->V->Sp}{params:Arguments}{body:Expr}{scope:Scope}{lpos:Pos}{qual:Str}
  (W:∀ (b':Heap)(f c' cy:Addr)(vy:V)(pm ct:Value),Mod X.K X.mg b'->km b' qual params body scope y vy f c' cy pm ct->aW X.prog X.w X.K X.mg b' CX k fw fdw psw (sp f c' vy))
  (hr:b8 k X.A) (hg:Gl X x) (hm:X.mg x=some (.ref fw)) (hk:PySem.W.keepIn X.K (.ref fw)=true) (hb:d8 X.K fdw psw []) (hx:dU CX X E)
  (h1:PE X e1 t1) (h2:PE X e2 t2) (hc:X.env.code=.ref c0) (C:iC X.K c0 P) (B:pI X.mg X.base) (hq:X.env.qual++"<lambda>" = qual) (hdf:defaultsOf params X.env=([],[])) (hcl:closureFor scope X.env=pure [(y,cy)]) (hcy:X.env.cells.lookup y=some cy)
  (hfn:X.fn y=true) (hN:X.N[iy]? = some y) (hkd:X.env.scope.names.lookup y=some .cell)
  (hdb:(x == ("__debug__" : Str))=false:=by decide) (he:starEach [e1,e2,.Lambda params body scope lpos] X.env=(false,eval e1 X.env)::starEach [e2,.Lambda params body scope lpos] X.env:=by rfl)
  (he2:starEach [e2,.Lambda params body scope lpos] X.env=(false,eval e2 X.env)::starEach [.Lambda params body scope lpos] X.env:=by rfl) (he3:starEach [.Lambda params body scope lpos] X.env=[(false,eval (.Lambda params body scope lpos) X.env)]:=by rfl)
  (hpl:(backTo pos (starEach [e2,.Lambda params body scope lpos] X.env)).any (·.1)=false:=by rfl) :
  PE X (.Call (.Name x p) [e1,e2,.Lambda params body scope lpos] [] pos) (fun σ H Q=>t1 σ H fun x1 H1=>t2 σ H1 fun x2 H2=>fm H2 P lpos qual/\∃ vy,σ[iy]? = some (some vy) /\
   ∀ (f c':Addr)(H3:Hp),jA H3 c' qual->fm H3 P lpos qual->(∀ b o,H2 b=some o->b≠P->H3 b=some o)->sp f c' vy [x1,x2,.ref f] H3 Q E):=by
 intro pins s σ H Q I h;refine Ft (jq I hg hm ?_ hdb);refine PySem.W.callWith_K (h₀:=X.base) I.ok.mod.kin hk (Q:=EP X pins σ Q) ?_ he hpl;rw[he,he2,he3]
 show wpAny _ _ (spliced [(false,eval e1 X.env),(false,eval e2 X.env),(false,eval (.Lambda params body scope lpos) X.env)]) _ _ s
 refine EZ (bA (h1 pins s σ H _ I h) fun u1 s1 ⟨x1,H1,I1,r1,q1⟩=>?_);refine EZ (bA (h2 pins s1 σ H1 _ I1 q1) fun u2 s2 ⟨x2,H2,I2,r2,hT,vy,hσ,q2⟩=>?_);refine EZ (yA I2 hc C B hq hT hdf hcl hcy fun f c' pm ct H3 s3 I3 hfo hsz hfH hcf hT3 hk3 hkk=>?_);refine Fv ⟨I3.kIn,?_⟩;have q3:=q2 f c' H3 hcf hT3 hk3;obtain⟨m,hn,hl⟩:=I3.loc;obtain⟨uy,ry,ly⟩:=hl iy y vy hN hσ (.inr (.inl hkd))
 have cl:s3.heap.IsCell cy (some uy):=by
  rcases ly with ⟨z,_⟩ | ⟨_,c,e,ce⟩
  ·have z:X.env.scope.names.lookup y=some .local:=z
   rw[hkd]at z;cases z
  ·rw[hcy]at e;cases e;exact ce
 obtain⟨oc,hoc,hdc⟩:=cl;have e0:=yz (y:=y) (cy:=cy) I3 hfH ⟨_,hfo⟩ (Ez I2.lt hsz) hcy hfn;have F:=W _ f c' cy vy pm ct e0.mod ⟨jO hfo (.inr (.inl rfl)),uy,ry,oc,jO hoc (.inr (.inr rfl)),hdc⟩;have r3:aU ([x1,x2,.ref f]++[]) ([u1,u2,.ref f]++[]):=aU.append (show aU [x1,x2,.ref f] [u1,u2,.ref f] from .cons r1 (.cons r2 (.cons rfl .nil))) .nil
 have hl3:([u1,u2,.ref f]++[]:List Value).length=psw.length:=by rw[<-r3.length];exact F.len _ _ _ _ q3
 refine Gh (FS (F.run X.A X.stack s3 H3 ⟨[u1,u2,.ref f],[]⟩ ([u1,u2,.ref f]++[]) ([x1,x2,.ref f]++[]) Q E hr e0 (hb s3 [u1,u2,.ref f] I3.kIn hl3) r3 q3) fun r s' hq=>?_)
 cases r with
 | error e=>exact hx pins σ H3 s3 e s' I3 hq
 | ok fl =>
  cases fl with
  | ret u=>exact I3.after hq
  | next=>exact False.elim hq
  | brk=>exact False.elim hq
  | cont=>exact False.elim hq
theorem tV {i:Nat}{f:Addr}{fd:FuncData}{ps:List Str}{sp:Sp}{o:Obj}(F:aW X.prog X.w X.K X.mg X.base CX k f fd ps sp)(hr:b8 k X.A)(hN:X.N[i]? = some x)(hv:CW X.env.scope x)(ho:X.base.get? f=some o)(hd:o.data=.func fd)
  (hb:∀ (s:Shared)(us:List Value),us.length=ps.length->BindsTo s fd ⟨us,[]⟩ (ps.zip us)) (hx:dU CX X E) (ha:PA X (e::es) t)
  (hdb:(x == ("__debug__" : Str))=false:=by decide) (hcd:(x == ("__classdict__" : Str))=false:=by decide) (he:starEach (e::es) X.env=(false,eval e X.env)::starEach es X.env:=by rfl) (hpl:(backTo pos (starEach es X.env)).any (·.1)=false:=by rfl) :
  PE X (.Call (.Name x p) (e::es) [] pos) (fun σ H Q=>σ[i]? = some (some (.ref f))/\t σ H fun vs H1=>sp vs H1 Q E):=by
 intro pins s σ H Q I h;obtain⟨hσ,h⟩:=h;refine Ft (bA (yW hN hv hdb hcd pins s σ H (fun v H'=>v=.ref f/\H'=H) I ⟨_,hσ,rfl,rfl⟩) fun u s1 ⟨v,H1,I1,rv,ev,eh⟩=>?_);subst ev eh;obtain rfl:u=Value.ref f:=rv
 have kp:∀ h:Heap,h.get? f=some o->∃ k,(k=Keeper.frame\/k=Keeper.machine\/k=Keeper.boundFrame)/\PySem.W.Looks (model X.prog X.w) h (keeperOf (.ref f)) k:=fun h q=>by
  obtain⟨oc,od,dt,sl⟩:=o;have hd:dt=.func fd:=hd;subst hd;exact⟨.frame,.inl rfl,(PySem.W.Looks.ld (part:=none) q).andThen .now⟩
 rw[he];refine PySem.W.callWith_of (P:=fun h=>h.get? f=some o) (by show ((false||(backTo pos (starEach es X.env)).any (·.1))||false)=false;rw[hpl];rfl) kp (Fl ?_);have hA:=ha pos pins s1 σ H1 _ I1 h;rw[he]at hA;refine bA hA fun us s2 ⟨vs,H2,I2,r,q⟩=>⟨(I2.bs _ _ ho).1,?_⟩
 have hl:us.length=ps.length:=by rw[<-r.length];exact F.len _ _ _ _ q
 refine Gh (FS (F.run X.A X.stack s2 H2 ⟨us,[]⟩ us vs Q E hr I2.env0 (hb s2 us hl) r q) fun r s' hq=>?_)
 cases r with
 | error e=>exact hx pins σ H2 s2 e s' I2 hq
 | ok fl =>
  cases fl with
  | ret u=>exact I2.after hq
  | next=>exact False.elim hq
  | brk=>exact False.elim hq
  | cont=>exact False.elim hq
end
theorem eR.okXC {P:Program}{w:World}{K:PySem.W.Frag}{mg:Str->Option Value}{base:Heap}{x qual:Str}{st:Stmt}{f c0:Addr}{fd:FuncData}{N ps:List Str}{k:Nat}{sp:Sp}(F:eR K x qual st f fd)(S:az N ps (au st))(hco:fd.code=.ref c0)(len:∀ vs H Q E,sp vs H Q E->vs.length=ps.length)
  (hbody:∀ (A:Around)(outer:List Env)(s:Shared)(H:Hp)(vs:List V)(Q:VK)(E:XK),b8 k (A.deeper (envOfC qual (au st) s.heap.objs.size f (.ref c0)))->sp vs H Q E ->
   ∃ t,vO (mQ (eY P w) P w K mg base N qual (au st) f (.ref c0) A outer s H E) (df st) t/\t { nx:=fun _ H'=>Q .non H',rt:=Q } (jL N vs) H):aW P w K mg base (eY P w) (k+1) f fd ps sp:=by
 obtain⟨oc,od,kV,doc,pm,an,cdv,ct,osl,rfl,lk,hcd⟩:=F.ex;have e:cdv=.ref c0:=hco;subst e;exact yo lk hcd S len fun A outer s H vs Q E hr hsp=>hbody A outer s H vs Q E hr hsp
def bF (st:Stmt):Expr:=match df st with
 | [.Return (some (.Call _ [_,_,l] _ _)) _]=>l
 | _=>.Constant .none 0 ⟨0,0,0,0⟩
def sR (e:Expr):Arguments:=match e with | .Lambda a _ _ _=>a | _=>{ posonlyargs:=[],args:=[],vararg:=none,kwonlyargs:=[],kw_defaults:=[],kwarg:=none,defaults:=[] }
def sS (e:Expr):Expr:=match e with | .Lambda _ b _ _=>b | _=>e
def sU (e:Expr):Scope:=match e with | .Lambda _ _ s _=>s | _=>{ kind:=.function,names:=[],isGenerator:=false,isCoroutine:=false }
def Cn (e:Expr):Pos:=match e with | .Lambda _ _ _ p=>p | _=>⟨0,0,0,0⟩
end L2
namespace Wz
open PySem L2
def ur (lk:bZ->List (Int×Int))(g:Int)(i:Nat)(d:ay)(st:bZ)(W:List (Int×Int)):List (Int×Int) :=
 let W1:=if d=.come g then [] else W
 if (look st.worn g).isSome=true/\(W1=[]\/(W1.getLast?.map (·.2))≠look (lk st) g) then W1++[((i:Int)+1,(look (lk st) g).getD 0)] else W1
def fg (lk:bZ->List (Int×Int))(g:Int):Nat->bZ->List ay->List (Int×Int)->List (Int×Int)
 | _,_,[],W=>W
 | i,st,d::ds,W=>fg lk g (i+1) (bI st d) ds (ur lk g i d (bI st d) W)
theorem pE {lk:bZ->List (Int×Int)}{g:Int}{i:Nat}{st:bZ}{es:List ay}{d:ay}{W:List (Int×Int)}(h:es[i]? = some d):fg lk g i st (es.drop i) W=fg lk g (i+1) (bI st d) (es.drop (i+1)) (ur lk g i d (bI st d) W):=by
 obtain⟨hl,e⟩:=List.getElem?_eq_some_iff.mp h;rw[List.drop_eq_getElem_cons hl,e];rfl
inductive wG (c:HX) (c1:Addr) (qual:Str) (lk:bZ->List (Int×Int)) (g:Int) (vs:List V) (H:Hp) (Q:VK) (E_:XK):Prop
 | mk (p:Addr) (A:HA) (st:bZ) (m:Int) (h_0:vs=[.ref p]) (h_1:aH c.C H p A st) (h_2:cK g) (h_3:jA H c1 qual) (h_4:look (lk st) g=some m) (h_5:Q (.int m) H):wG c c1 qual lk g vs H Q E_
def uB (c:HX)(lk:bZ->List (Int×Int))(H:Hp)(p:Addr)(A:HA)(es:List ay)(L:List Int)(g:Int):Prop:=aH c.C H p A (bb es)/\cz es/\es.length<=200/\L.length<=100/\(∀ d∈es,∀ g∈names d,g∈L/\cK g)/\cK g
inductive lL (c:HX) (lk:bZ->List (Int×Int)) (qual:Str) (fl c1:Addr) (vy:V) (vs:List V) (H:Hp) (Q:VK) (E:XK):Prop
 | mk (p:Addr) (A:HA) (es:List ay) (L:List Int) (g:Int) (h_0:vy=.int g) (h_1:vs=[.ref p,.int g,.ref fl]) (h_2:uB c lk H p A es L g) (h_3:jA H c1 qual) (h_4:if (look (bb es).worn g).isSome=true then ∀ (l:Addr)(H':Hp),H l=none->aF H H'->dD H' l (fg lk g 0 ⟨[],[],[],[]⟩ es [])->Q (.ref l) H' else nU c E H (.noguest g)):lL c lk qual fl c1 vy vs H Q E
def mZ (P:Addr)(H H':Hp):Prop:=∀ b o,H b=some o->b≠P->H' b=some o
inductive io (c:HX) (lk:bZ->List (Int×Int)) (P:Addr) (pos:Pos) (qual:Str) (vs:List V) (H:Hp) (Q:VK) (E:XK):Prop
 | mk (p:Addr) (A:HA) (es:List ay) (L:List Int) (g:Int) (h_0:vs=[.ref p,.int g]) (h_1:uB c lk H p A es L g) (h_2:fm H P pos qual) (h_3:if (look (bb es).worn g).isSome=true then ∀ (l:Addr)(H':Hp),H l=none->mZ P H H'->fm H' P pos qual->dD H' l (fg lk g 0 ⟨[],[],[],[]⟩ es [])->Q (.ref l) H'
  else ∀ (dx:Addr)(H':Hp),mZ P H H'->fm H' P pos qual->H' dx=some (.xd [("guest",.int g)])->E (.ref c.cN) (some dx) H'):io c lk P pos qual vs H Q E
theorem Br {P:Addr->Hp->Prop}{G:Prop}(C:Addr->Hp->Prop)(main:(∀ q HH,C q HH->P q HH)->G)(key:∀ q HH,C q HH->P q HH):G:=main key
theorem mZ.none {P:Addr}{H H':Hp}{pos:Pos}{qual:Str}{l:Addr}(b:mZ P H H')(t:fm H' P pos qual)(h:H' l=none):H l=none:=by
 cases e:H l with
 | none=>rfl
 | some o =>
  by_cases z:l=P
  ·obtain⟨ps,q⟩:=t.tbl
   rw[<-z,h]at q;cases q
  ·rw[b l o e z]at h;cases h
theorem mZ.hall {P C p:Addr}{H H':Hp}{A:HA}{st:bZ}{pos:Pos}{qual:Str}(S:aH C H p A st)(t:fm H P pos qual)(b:mZ P H H'):aH C H' p A st:=by
 obtain⟨ps,q⟩:=t.tbl;refine S.kept (fp:=[P]) (fun y o e n=>b y o e (fun z=>n (by rw[z];exact El.mpr rfl))) (fun z=>?_) (fun y hy z=>?_) (fun y xs e z=>?_)
 ·have ob:=S.ob
  rw[El.mp z,q]at ob;cases ob
 ·have mu:=S.mu y hy
  rw[El.mp z]at mu;rcases mu with ⟨k,e⟩ | ⟨k,e⟩ | ⟨k,e⟩<;>rw[q]at e<;>cases e
 ·rw[El.mp z,q]at e;cases e
theorem mZ.same {P:Addr}{H H1 H2:Hp}(b:mZ P H H1)(s:aF H1 H2):mZ P H H2:=fun x o e n=>s _ _ (b x o e n)
theorem wj {st:bZ}{g:Int}(G:d9 st)(h:(look st.worn g).isSome=true):(look st.hold g).isSome=true:=by
 cases e:look st.hold g with
 | some x=>rfl
 | none =>
  exfalso
  have PW:=tY G
  have nd:(g::(aD st.worn).map (wr st.worn)).Nodup:=by
   rw[EQ];refine⟨fun z=>?_,?_⟩
   ·obtain⟨x,hx,ex⟩:=EG.mp z
    have:=kF hx;rw[ex]at this;rw[(G.wh x g).mp this]at e;cases e
   ·refine List.Pairwise.map _ ?_ PW.nd
    exact fun a b ne q=>ne (PW.inj _ _ q)
  have sub:∀ y∈g::(aD st.worn).map (wr st.worn),y∈aD st.worn:=fun y hy=>by
   rcases En.mp hy with z | z
   ·rw[z];exact bU.mp h
   ·obtain⟨x,hx,ex⟩:=EG.mp z
    rw[<-ex];exact PW.cl x hx
  have:=eC nd sub;simp at this;omega
theorem mZ.get {P b:Addr}{H H':Hp}{pos:Pos}{qual:Str}{o:HO}(k:mZ P H H')(t:fm H P pos qual)(e:H b=some o)(n:∀ ps,o≠.tbl ps):H' b=some o:=by
 obtain⟨ps,q⟩:=t.tbl
 exact k b o e fun z=>by rw[z,q]at e;injection e with e;exact n ps e.symm
end Wz
namespace L2
open PySem PySem.Spec PyProof.Rows
theorem qC {K:PySem.W.Frag}{x:Str}{c P:Addr}(h:PySem.W.tabIn K x=some (c,P)):∃ (f:Addr)(oc:Value)(od:Option Addr)(fd:FuncData)(osl:Array (Option Value))(o:Obj)(vs:Array Value),PySem.W.nsIn K mainGlobals x=some (some (.ref f))/\K.lookup f=some ⟨oc,od,.func fd,osl⟩/\fd.code=.ref c/\K.lookup c=some o/\o.data=.fields vs/\vs[11]? = some (.ref P):=by
 unfold PySem.W.tabIn at h;split at h
 ·rename_i f hf
  split at h
  ·rename_i oc od fd osl hfo
   split at h
   ·rename_i c₂ hc
    split at h
    ·rename_i a1 a2 vs a3 hco
     split at h
     ·rename_i P₂ hv
      cases h;exact⟨f,oc,od,fd,osl,_,vs,hf,hfo,hc,hco,rfl,hv⟩
     ·cases h
    ·cases h
   ·cases h
  ·cases h
 ·cases h
theorem uj {K:PySem.W.Frag}{x qual:Str}{st:Stmt}{c P f:Addr}{fd:FuncData}(h:PySem.W.tabIn K x=some (c,P))(hf:PySem.W.nsIn K mainGlobals x=some (some (.ref f)))(F:eR K x qual st f fd):fd.code=.ref c:=by
 obtain⟨f',oc,od,fd',osl,o,vs,e1,e2,e3,_⟩:=qC h;rw[hf]at e1;cases e1;obtain⟨oc2,od2,kV,doc,pm,an,cdv,ct,osl2,e4,lk,_⟩:=F.ex;rw[e2]at lk;cases lk;exact e3
theorem yb {K:PySem.W.Frag}{x:Str}{c P:Addr}{h:Heap}(ht:PySem.W.tabIn K x=some (c,P))(X:K.In h)(C:PySem.W.CodeHd h c P):iC K c P:=by
 obtain⟨f',oc,od,fd',osl,o,vs,e1,e2,e3,e4,e5,e6⟩:=qC ht;obtain⟨o',vs',file,tf,flags,tg,inF,text,tt,g,r⟩:=C;have:=X _ _ e4;rw[g]at this;cases this;exact⟨o,vs',file,tf,flags,tg,inF,text,tt,e4,r⟩
end L2
namespace Wz
open PySem L2
theorem uF {K:PySem.W.Frag}{te:TE}{Qf:Hp->Prop}{lr q:Addr}{rs:List Int}{f:Int->Bool}{rest:St}{H:Hp}(hq:H q=none)(h1:H lr=some (.lst (rs.map V.int)))(hlen:rs.length<=1000)
  (ht:∀ (r:Int)(HK:Hp)(Q':VK),r∈rs->aF H HK->(∀ H5,aF HK H5->Q' (.bl (f r)) H5)->te (some (.int r)::rest) HK Q')
  (k:∀ (HK:Hp),aF H HK->HK q=some (.lst ((rs.map f).map V.bl))->Qf HK) :
  vM (AX K lr) (ky 0) (BG zj te q) { nx:=fun _ H'=>Qf H',rt:=fun _ _=>False } (none::rest) (upd H q (.lst [])):=by
 refine cY (K:=K) (a:=lr) (xs:=rs.map V.int) (fun i σ HK=>∃ v:Option V,σ=v::rest/\aF H HK/\HK q=some (.lst (((rs.take i).map f).map V.bl)))
  ⟨none,rfl,ao hq,ag⟩ (fun i σ HK _ ⟨_,_,s2,_⟩=>bz.of (s2 _ _ h1)) ?_ ?_
 ·rintro i y σ HK hi ⟨v,rfl,t1,hq2⟩
  obtain⟨r,hr0,rfl⟩:=cO hi;have hil:i<rs.length:=(List.getElem?_eq_some_iff.mp hr0).1;refine nA (ht r HK _ (EN hr0) t1 fun H5 s5=>?_);refine⟨_,s5 _ _ hq2,by rw[Eg,Eg,E8];exact bn (by omega),_,rfl,c8 (t1.trans s5) hq,?_⟩;rw[ag,EU,hr0,E9,EE,EE];rfl
 ·rintro σ HK ⟨v,rfl,t1,hq2⟩
  rw[Eg,Fe]at hq2;exact k HK t1 hq2
end Wz
set_option maxRecDepth 1000000
set_option maxHeartbeats 8000000
namespace Wz
open PySem L2
theorem Bs {P:St->Hp->Prop}{G:Prop}(C:St->Hp->Prop)(main:(∀ σ HH,C σ HH->P σ HH)->G)(key:∀ σ HH,C σ HH->P σ HH):G:=main key
end Wz
set_option maxRecDepth 1000000
set_option maxHeartbeats 8000000
namespace Tm
open PySem PyProof.Rows
def el (xs:Array Keyed)(i:Nat):Keyed:=xs.getD i (.none,.none)
theorem eQ {xs:Array Keyed}{i:Nat}(h:i<xs.size):xs[i]? = some (el xs i):=by unfold el;simp[Array.getD,h]
theorem yj {xs:Array Keyed}{i:Nat}(h:i<xs.size):el xs i∈xs:=by
 have:=eQ h;exact Array.mem_of_getElem? this
theorem eV {xs ys:Array Keyed}{i j:Nat}(h:xs[i]? = ys[j]?):el xs i=el ys j:=by
 unfold el;rw[Array.getD_eq_getD_getElem?,Array.getD_eq_getD_getElem?,h]
structure Ord (P:Program)(w:World)(A:Around)(s:Shared)(κ:SortKind)(a0:Array Keyed)(lt:Keyed->Keyed->Bool):Prop where
 cmp:∀ {x y:Keyed}{E:Value->Shared->Prop}{Q:Bool->Prop},x∈a0->y∈a0->Q (lt x y)->wpAny (model P w) A (keyLt' κ x.1 y.1) (fun b s'=>s'=s/\Q b) E s
 irr:∀ x,lt x x=false
 tr:∀ x y z,lt x y=true->lt y z=true->lt x z=true
 tot:∀ x y,x∈a0->y∈a0->x≠y->lt x y=true\/lt y x=true
 nd:a0.toList.Nodup
structure dc (κ:SortKind)(a0:Array Keyed)(st:SortSt):Prop where
 pm:(arrOf st).Perm a0
 fl:failedOf st=none
 kd:kindOf st=κ
section
variable {P:Program}{w:World}{A:Around}{E:Value->Shared->Prop}{s:Shared}{κ:SortKind}{a0:Array Keyed}{lt:Keyed->Keyed->Bool}{st:SortSt}
theorem dc.sz (B:dc κ a0 st):(arrOf st).size=a0.size:=B.pm.size_eq
theorem dc.mem (B:dc κ a0 st){i:Nat}(h:i<a0.size):el (arrOf st) i∈a0:=B.pm.mem_iff.mp (yj (by rw[B.sz];exact h))
theorem Co {xs:Array Keyed}(nd:xs.toList.Nodup){i j:Nat}(hi:i<xs.size)(hj:j<xs.size)(h:i≠j):el xs i≠el xs j:=fun e=>by
 have h1:xs.toList[i]? = some (el xs i):=by rw[Array.getElem?_toList];exact eQ hi
 have h2:xs.toList[j]? = some (el xs i):=by rw[Array.getElem?_toList,e];exact eQ hj
 exact h ((List.getElem?_inj (by simpa using hi) nd).mp (h1.trans h2.symm))
theorem dc.ne (O:Ord P w A s κ a0 lt)(B:dc κ a0 st){i j:Nat}(hi:i<a0.size)(hj:j<a0.size)(h:i≠j):el (arrOf st) i≠el (arrOf st) j :=
 Co (B.pm.toList.nodup_iff.mpr O.nd) (by rw[B.sz];exact hi) (by rw[B.sz];exact hj) h
theorem Ord.not (O:Ord P w A s κ a0 lt){x y:Keyed}(hx:x∈a0)(hy:y∈a0)(n:x≠y)(h:lt x y=false):lt y x=true:=by
 rcases O.tot x y hx hy n with z | z
 ·rw[h]at z;cases z
 ·exact z
theorem Ord.asym (O:Ord P w A s κ a0 lt){x y:Keyed}(h:lt x y=true):lt y x=false:=by
 cases e:lt y x with
 | false=>rfl
 | true=>have:=O.tr _ _ _ h e;rw[O.irr]at this;cases this
theorem wV (O:Ord P w A s κ a0 lt)(kd:kindOf st=κ){x y:Keyed}(hx:x∈a0)(hy:y∈a0){Q:Option Bool->SortSt->Prop}(h:Q (some (lt x y)) st):wpS (model P w) A E s (lt' x y) Q st:=by
 rw[lt'_eq];refine Es (wpS_get ?_);rw[kd];exact Es (wpS_lift (wpAny_attempt (O.cmp hx hy (Eo h))))
theorem mJ {xs:Array Keyed}{i:Nat}(hi:i<xs.size){Q:Keyed->SortSt->Prop}(h:Q (el xs i) st):wpS (model P w) A E s (elem' xs i) Q st:=by
 rw[elem'_eq,eQ hi];exact Eo h
theorem uu (O:Ord P w A s κ a0 lt)(B:dc κ a0 st){i j:Nat}(hi:i<a0.size)(hj:j<a0.size){Q:Option Bool->SortSt->Prop}(h:Q (some (lt (el (arrOf st) i) (el (arrOf st) j))) st):wpS (model P w) A E s (ltAt' i j) Q st:=by
 rw[ltAt'_eq];refine Es (wpS_get ?_);exact Es (mJ (by rw[B.sz];exact hi) (Es (mJ (by rw[B.sz];exact hj) (wV O B.kd (B.mem hi) (B.mem hj) h))))
def Up (lt:Keyed->Keyed->Bool)(xs:Array Keyed)(lo hi:Nat):Prop:=∀ i j,lo<=i->i<j->j<hi->lt (el xs i) (el xs j)=true
def Dn (lt:Keyed->Keyed->Bool)(xs:Array Keyed)(lo hi:Nat):Prop:=∀ i j,lo<=i->i<j->j<hi->lt (el xs j) (el xs i)=true
def vN (xs ys:Array Keyed)(lo hi:Nat):Prop:=∀ i,i<lo\/hi<=i->el ys i=el xs i
theorem vN.refl (xs:Array Keyed)(lo hi:Nat):vN xs xs lo hi:=fun _ _=>rfl
theorem Up.snoc (O:Ord P w A s κ a0 lt){xs:Array Keyed}{lo n:Nat}(h1:1<=n)(h:Up lt xs lo (lo+n))(z:lt (el xs (lo+n-1)) (el xs (lo+n))=true):Up lt xs lo (lo+(n+1)):=fun i j hi hij hj=>by
 by_cases e:j=lo+n
 ·by_cases e2:i=lo+n-1
  ·rw[e,e2];exact z
  ·rw[e];exact O.tr _ _ _ (h i (lo+n-1) hi (by omega) (by omega)) z
 ·exact h i j hi hij (by omega)
theorem Dn.snoc (O:Ord P w A s κ a0 lt){xs:Array Keyed}{lo n:Nat}(h1:1<=n)(h:Dn lt xs lo (lo+n))(z:lt (el xs (lo+n)) (el xs (lo+n-1))=true):Dn lt xs lo (lo+(n+1)):=fun i j hi hij hj=>by
 by_cases e:j=lo+n
 ·by_cases e2:i=lo+n-1
  ·rw[e,e2];exact z
  ·rw[e];exact O.tr _ _ _ z (h i (lo+n-1) hi (by omega) (by omega))
 ·exact h i j hi hij (by omega)
def x5 (st st':SortSt):Prop:=pendingOf st'=pendingOf st/\gallopOf st'=gallopOf st
theorem xl {xs:Array Keyed}{i j:Nat}(hj:j<=xs.size)(k:Nat):el (mirror xs i j ((j-i)/2)) k=if i<=k/\k<j then el xs (i+j-1-k) else el xs k:=by
 have e:=getElem?_mirror_all (i:=i) hj k
 by_cases h1:i<=k/\k<j
 ·rw[Ee h1]at e ⊢;exact eV e
 ·rw[Ed h1]at e ⊢;exact eV e
theorem BN (B:dc κ a0 st){lo hi:Nat}(h:hi<=a0.size){Q:Unit->SortSt->Prop}(k:∀ st',dc κ a0 st'->x5 st st'->(∀ i,el (arrOf st') i=if lo<=i/\i<hi then el (arrOf st) (lo+hi-1-i) else el (arrOf st) i)->Q () st'):wpS (model P w) A E s (reverseSlice' lo hi) Q st:=by
 rw[reverseSlice'_eq];refine wpS_modify (k _ ⟨(mirror_perm _ _ _ _).trans B.pm,B.fl,B.kd⟩ ⟨rfl,rfl⟩ fun i=>?_);exact xl (by rw[B.sz];exact h) i
theorem zn (O:Ord P w A s κ a0 lt)(B:dc κ a0 st){lo a m:Nat}(ha:1<=a)(ham:a<=m)(hs:lo+m<=a0.size)(u:Up lt (arrOf st) lo (lo+a)){Q:Option (Option Nat)×Nat->SortSt->Prop}
  (k:∀ n,a<=n->n<=m->Up lt (arrOf st) lo (lo+n)->(n<m->lt (el (arrOf st) (lo+n)) (el (arrOf st) (lo+n-1))=true)->Q (none,n) st) :
  wpS (model P w) A E s (forIn [a:m] ((none,a):Option (Option Nat)×Nat) fun x __s=>do
   let __x <-ltAt' (lo+__s.snd) (lo+__s.snd-1)
   match __x with
    | some smaller=>if smaller=true then pure (ForInStep.done (none,__s.snd)) else pure (ForInStep.yield (none,__s.snd+1))
    | x=>pure (ForInStep.done (some none,__s.snd))) Q st:=by
 refine Fb (I:=fun x c st'=>st'=st/\c=(none,x)/\Up lt (arrOf st) lo (lo+x)) ?step ?fin ⟨rfl,rfl,u⟩
 case fin =>
  rintro c st' ⟨rfl,rfl,h3⟩;rw[show max a m=m by omega]at h3 ⊢;exact k m ham (Eh _) h3 (fun z=>by omega)
 case step =>
  rintro x c st' hx1 hx2 ⟨rfl,rfl,h3⟩;dsimp only;refine Es (uu O B (by omega) (by omega) ?_)
  cases e:lt (el (arrOf st') (lo+x)) (el (arrOf st') (lo+x-1)) with
  | true=>exact Eo (k x hx1 (by omega) h3 fun _=>e)
  | false=>exact Eo ⟨rfl,rfl,h3.snoc O (by omega) (O.not (B.mem (by omega)) (B.mem (by omega)) (B.ne O (by omega) (by omega) (by omega)) e)⟩
theorem zp (O:Ord P w A s κ a0 lt)(B:dc κ a0 st){lo m:Nat}(hm:1<=m)(hs:lo+m<=a0.size){Q:Option Nat->SortSt->Prop}
  (k:∀ n st',dc κ a0 st'->x5 st st'->1<=n->n<=m->Up lt (arrOf st') lo (lo+n)->vN (arrOf st) (arrOf st') lo (lo+m)->Q (some n) st'):wpS (model P w) A E s (countRun' lo m) Q st:=by
 rw[countRun'_eq];dsimp only;refine Es (zn O B (Eh 1) hm hs (fun i j h1 h2 h3=>by omega) fun n n1 n2 u1 d1=>?_);dsimp only
 by_cases e1:n=m
 ·rw[Ee (by simpa using e1)]
  exact Eo (k n st B ⟨rfl,rfl⟩ n1 n2 u1 (vN.refl _ _ _))
 rw[Ed (by simpa using e1)]
 by_cases e2:n>1
 ·rw[Ee e2]
  refine Es (uu O B (by omega) (by omega) ?_);rw[u1 lo (lo+n-1) (Eh _) (by omega) (by omega)];exact Eo (k n st B ⟨rfl,rfl⟩ n1 n2 u1 (vN.refl _ _ _))
 rw[Ed e2]
 have en:n=1:=by omega
 subst en;refine Es (wpS_lift (wpAny_rule ⟨rfl,?_⟩));have d2:=d1 (by omega);refine Es (FF (Fb (I:=fun x c st'=>st'=st/\c=(none,x,0)/\Dn lt (arrOf st) lo (lo+x)) (Q:=fun c st'=>st'=st/\∃ n,c=(none,n,0)/\2<=n/\n<=m/\Dn lt (arrOf st) lo (lo+n)) ?step ?fin ⟨rfl,rfl,?ini⟩) ?post)
 case ini =>
  intro i j h1 h2 h3
  have ei:i=lo:=by omega
  have ej:j=lo+1:=by omega
  rw[ei,ej];exact d2
 case fin =>
  rintro c st' ⟨rfl,rfl,h3⟩;exact⟨rfl,_,rfl,by omega,by omega,h3⟩
 case step =>
  rintro x c st' hx1 hx2 ⟨rfl,rfl,h3⟩;dsimp only;refine Es (uu O B (by omega) (by omega) ?_)
  cases e:lt (el (arrOf st') (lo+x)) (el (arrOf st') (lo+x-1)) with
  | true=>exact Eo ⟨rfl,rfl,h3.snoc O (by omega) e⟩
  | false =>
   refine Es (uu O B (by omega) (by omega) ?_);rw[O.not (B.mem (by omega)) (B.mem (by omega)) (B.ne O (by omega) (by omega) (by omega)) e];exact Eo ⟨rfl,x,rfl,hx1,by omega,h3⟩
 case post =>
  rintro c st' ⟨rfl,n,rfl,n2,n3,d3⟩;dsimp only;rw[Ed (by omega)];refine Es (BN B (by omega) fun st2 B2 R2 e2=>?_)
  have u2:Up lt (arrOf st2) lo (lo+n):=fun i j h1 h2 h3=>by
   rw[e2,e2,Ee (by omega),Ee (by omega)];exact d3 _ _ (by omega) (by omega) (by omega)
  refine Es (zn O B2 (by omega) n3 hs u2 fun q q1 q2 u3 _=>?_);refine Eo (k q st2 B2 R2 (by omega) q2 u3 fun i hi=>?_);rw[e2,Ed (by omega)]
theorem xk {xs:Array Keyed}{src d:Nat}(hs:src<xs.size)(hd:d<=src)(k:Nat):el (bubble xs src d) k=if k=src-d then el xs src else if src-d<k/\k<=src then el xs (k-1) else el xs k:=by
 have e:=getElem?_bubble hs d hd k
 by_cases h1:k=src-d
 ·rw[Ee h1]at e ⊢;exact eV e
 ·rw[Ed h1]at e ⊢
  by_cases h2:src-d<k/\k<=src
  ·rw[Ee h2]at e ⊢;exact eV e
  ·rw[Ed h2]at e ⊢;exact eV e
theorem BL (O:Ord P w A s κ a0 lt)(B:dc κ a0 st){lo n ok:Nat}(h1:1<=ok)(hok:ok<=n)(hs:lo+n<=a0.size)(u:Up lt (arrOf st) lo (lo+ok)){Q:Bool->SortSt->Prop}
  (k:∀ st',dc κ a0 st'->x5 st st'->Up lt (arrOf st') lo (lo+n)->vN (arrOf st) (arrOf st') lo (lo+n)->Q true st'):wpS (model P w) A E s (binarySort' lo n ok) Q st:=by
 rw[binarySort'_eq];refine Es (FF (Fb (I:=fun x c st'=>c=(none,())/\dc κ a0 st'/\x5 st st'/\Up lt (arrOf st') lo (lo+min x n)/\vN (arrOf st) (arrOf st') lo (lo+n)) (Q:=fun c st'=>c=(none,())/\dc κ a0 st'/\x5 st st'/\Up lt (arrOf st') lo (lo+n)/\vN (arrOf st) (arrOf st') lo (lo+n)) ?step ?fin ⟨rfl,B,⟨rfl,rfl⟩,by rw[show min (max ok 1) n=ok by omega];exact u,vN.refl _ _ _⟩) ?post)
 case post =>
  rintro c st' ⟨rfl,B',R',u',o'⟩;exact Eo (k st' B' R' u' o')
 case fin =>
  rintro c st' ⟨hc,B',R',u',o'⟩;exact⟨hc,B',R',by rw[show min (max (max ok 1) n) n=n by omega]at u';exact u',o'⟩
 case step =>
  rintro x c st1 hx1 hx2 ⟨rfl,B1,R1,u1,o1⟩;rw[show min x n=x by omega]at u1
  refine Es (FF (Fb (I:=fun y c st'=>st'=st1/\∃ l r,c=(none,l,r)/\l<=r/\r<=x/\r-l<=x-y/\(∀ i,i<l->lt (el (arrOf st1) (lo+i)) (el (arrOf st1) (lo+x))=true)/\(∀ i,r<=i->i<x->lt (el (arrOf st1) (lo+x)) (el (arrOf st1) (lo+i))=true))
   (Q:=fun c st'=>st'=st1/\∃ l,c=(none,l,l)/\l<=x/\(∀ i,i<l->lt (el (arrOf st1) (lo+i)) (el (arrOf st1) (lo+x))=true)/\(∀ i,l<=i->i<x->lt (el (arrOf st1) (lo+x)) (el (arrOf st1) (lo+i))=true)) ?istep ?ifin ⟨rfl,0,x,rfl,by omega,by omega,by omega,fun i hi=>by omega,fun i h1 h2=>by omega⟩) ?ipost)
  case ifin =>
   rintro c st' ⟨rfl,l,r,rfl,a1,a2,a3,a4,a5⟩
   have e:l=r:=by omega
   subst e;exact⟨rfl,l,rfl,a2,a4,a5⟩
  case istep =>
   rintro y c st' _ hy ⟨rfl,l,r,rfl,a1,a2,a3,a4,a5⟩;dsimp only
   by_cases g:l>=r
   ·rw[Ee g]
    have e:l=r:=by omega
    subst e;exact Eo ⟨rfl,l,rfl,a2,a4,a5⟩
   rw[Ed g];refine Es (uu O B1 (by omega) (by omega) ?_)
   cases e:lt (el (arrOf st') (lo+x)) (el (arrOf st') (lo+(l+r)/2)) with
   | true =>
    simp only[if_true];refine Eo ⟨rfl,l,(l+r)/2,rfl,by omega,by omega,by omega,a4,fun i i1 i2=>?_⟩
    by_cases z:i=(l+r)/2
    ·rw[z];exact e
    ·exact O.tr _ _ _ e (u1 _ _ (by omega) (by omega) (by omega))
   | false =>
    simp only[FV,if_false];have e':=O.not (B1.mem (by omega)) (B1.mem (by omega)) (B1.ne O (by omega) (by omega) (by omega)) e;refine Eo ⟨rfl,(l+r)/2+1,r,rfl,by omega,by omega,by omega,fun i i1=>?_,a5⟩
    by_cases z:i=(l+r)/2
    ·rw[z];exact e'
    ·exact O.tr _ _ _ (u1 _ _ (by omega) (by omega) (by omega)) e'
  case ipost =>
   rintro c st' ⟨rfl,l,rfl,a2,a4,a5⟩
   show wpS _ _ _ _ (do moveDown' (lo+x) (lo+l);pure (ForInStep.yield (none,()))) _ _
   rw[moveDown'_eq]
   have hks:lo+x<(arrOf st').size:=by rw[B1.sz];omega
   have eb:∀ i,el (bubble (arrOf st') (lo+x) (lo+x-(lo+l))) i=if i=lo+l then el (arrOf st') (lo+x) else if lo+l<i/\i<=lo+x then el (arrOf st') (i-1) else el (arrOf st') i:=fun i=>by
    rw[xk hks (by omega),show lo+x-(lo+x-(lo+l))=lo+l by omega]
   refine Es (wpS_modify (Eo ⟨rfl,⟨(bubble_perm _ _ _).trans B1.pm,B1.fl,B1.kd⟩,R1,?_,fun i hi=>?_⟩))
   ·rw[show min (x+1) n=x+1 by omega]
    intro i j hi hij hj
    show lt (el (bubble (arrOf st') (lo+x) (lo+x-(lo+l))) i) (el (bubble (arrOf st') (lo+x) (lo+x-(lo+l))) j)=true
    rw[eb,eb]
    by_cases c1:i=lo+l
    ·rw[Ee c1,Ed (by omega),Ee (by omega)]
     have:=a5 (j-1-lo) (by omega) (by omega)
     rwa [show lo+(j-1-lo)=j-1 by omega]at this
    ·rw[Ed c1]
     by_cases c2:j=lo+l
     ·rw[Ee c2,Ed (by omega)]
      have:=a4 (i-lo) (by omega)
      rwa [show lo+(i-lo)=i by omega]at this
     ·rw[Ed c2]
      by_cases c3:lo+l<i/\i<=lo+x
      ·rw[Ee c3,Ee (by omega)];exact u1 _ _ (by omega) (by omega) (by omega)
      ·rw[Ed c3]
       by_cases c4:lo+l<j/\j<=lo+x
       ·rw[Ee c4];exact u1 _ _ (by omega) (by omega) (by omega)
       ·rw[Ed c4];exact u1 _ _ (by omega) (by omega) (by omega)
   ·show el (bubble (arrOf st') (lo+x) (lo+x-(lo+l))) i=_
    rw[eb,Ed (by omega),Ed (by omega)];exact o1 i hi
end
def qW:Bool->Keyed->Array Keyed->Nat->Nat->Nat->StateT SortSt Sem (Option Nat):=sortPriv% PySem.Builtin.gallop
def Bf (lt:Keyed->Keyed->Bool)(left:Bool)(key:Keyed)(xs:Array Keyed)(b i:Nat):Bool:=if left=true then lt (el xs (b+i)) key else !lt key (el xs (b+i))
section
variable {P:Program}{w:World}{A:Around}{E:Value->Shared->Prop}{s:Shared}{κ:SortKind}{a0:Array Keyed}{lt:Keyed->Keyed->Bool}{st:SortSt}
theorem x3 (O:Ord P w A s κ a0 lt)(kd:kindOf st=κ){left:Bool}{key:Keyed}{xs:Array Keyed}{b i:Nat}(hk:key∈a0)(hi:b+i<xs.size)(hx:el xs (b+i)∈a0){Q:Option Bool->SortSt->Prop}(h:Q (some (Bf lt left key xs b i)) st) :
  wpS (model P w) A E s (elem' xs (b+i) >>= fun x=>if left=true then lt' x key else lt' key x >>= fun r=>pure (r.map (!·))) Q st:=by
 refine Es (mJ hi ?_);unfold Bf at h
 by_cases hl:left=true
 ·rw[Ee hl]at h ⊢
  exact wV O kd hx hk h
 ·rw[Ed hl]at h ⊢
  exact Es (wV O kd hk hx (Eo h))
theorem m6 (O:Ord P w A s κ a0 lt){left:Bool}{key:Keyed}{xs:Array Keyed}{b n i j:Nat}(u:Up lt xs b (b+n))(hij:i<=j)(hj:j<n)(h:Bf lt left key xs b j=true):Bf lt left key xs b i=true:=by
 by_cases e:i=j
 ·rw[e];exact h
 have z:=u (b+i) (b+j) (by omega) (by omega) (by omega);unfold Bf at h ⊢
 by_cases hl:left=true
 ·rw[Ee hl]at h ⊢
  exact O.tr _ _ _ z h
 ·rw[Ed hl]at h ⊢
  cases q:lt key (el xs (b+i)) with
  | false=>rfl
  | true=>rw[O.tr _ _ _ q z]at h;cases h
theorem qO (O:Ord P w A s κ a0 lt){left:Bool}{key:Keyed}{xs:Array Keyed}{b n i j:Nat}(u:Up lt xs b (b+n))(hij:i<=j)(hj:j<n)(h:Bf lt left key xs b i=false):Bf lt left key xs b j=false:=by
 cases e:Bf lt left key xs b j with
 | false=>rfl
 | true=>rw[m6 O u hij hj e]at h;cases h
theorem lQ (O:Ord P w A s κ a0 lt)(kd:kindOf st=κ){left:Bool}{key:Keyed}{xs:Array Keyed}{b n hint:Nat}(hk:key∈a0)(hz:b+n<=xs.size)(hm:∀ i,i<n->el xs (b+i)∈a0)(u:Up lt xs b (b+n))(hh:hint<n){Q:Option Nat->SortSt->Prop}
  (k:∀ r,r<=n->(∀ i,i<r->Bf lt left key xs b i=true)->(∀ i,r<=i->i<n->Bf lt left key xs b i=false)->Q (some r) st):wpS (model P w) A E s (qW left key xs b n hint) Q st:=by
 have ask:∀ {i:Nat}{R:Option Bool->SortSt->Prop},i<n->R (some (Bf lt left key xs b i)) st->wpS (model P w) A E s (elem' xs (b+i) >>= fun x=>if left=true then lt' x key else lt' key x >>= fun r=>pure (r.map (!·))) R st:=fun hi h=>x3 O kd hk (by omega) (hm _ hi) h
 have fin:∀ lo hi:Nat,lo<=hi->hi<=n->(∀ i,i<lo->Bf lt left key xs b i=true)->(∀ i,hi<=i->i<n->Bf lt left key xs b i=false) ->
   ∀ {f:Nat->Option (Option Nat)×Nat×Nat->StateT SortSt Sem (ForInStep (Option (Option Nat)×Nat×Nat))} {g:Option (Option Nat)×Nat×Nat->StateT SortSt Sem (Option Nat)},
   (∀ x l h (R:ForInStep (Option (Option Nat)×Nat×Nat)->SortSt->Prop),h<=n->(l>=h->R (.done (none,l,h)) st)->(¬ l>=h->(Bf lt left key xs b (l+(h-l)/2)=true->R (.yield (none,l+(h-l)/2+1,h)) st)/\(Bf lt left key xs b (l+(h-l)/2)=false->R (.yield (none,l,l+(h-l)/2)) st))->wpS (model P w) A E s (f x (none,l,h)) R st) ->
   (∀ l h,g (none,l,h)=pure (some h))->wpS (model P w) A E s (forIn [0:n] ((none,lo,hi):Option (Option Nat)×Nat×Nat) f >>= g) Q st:=by
  intro lo hi h1 h2 h3 h4 f g ef eg
  refine Es (FF (Fb (I:=fun x c st'=>st'=st/\∃ l h,c=(none,l,h)/\l<=h/\h<=n/\h-l<=n-x/\(∀ i,i<l->Bf lt left key xs b i=true)/\(∀ i,h<=i->i<n->Bf lt left key xs b i=false))
   (Q:=fun c st'=>st'=st/\∃ h,c=(none,h,h)/\h<=n/\(∀ i,i<h->Bf lt left key xs b i=true)/\(∀ i,h<=i->i<n->Bf lt left key xs b i=false)) ?step ?fin ⟨rfl,lo,hi,rfl,h1,h2,by omega,h3,h4⟩) ?post)
  case fin =>
   rintro c st' ⟨rfl,l,h,rfl,a1,a2,a3,a4,a5⟩
   have e:l=h:=by omega
   subst e;exact⟨rfl,l,rfl,a2,a4,a5⟩
  case step =>
   rintro x c st' _ hx ⟨rfl,l,h,rfl,a1,a2,a3,a4,a5⟩;refine ef x l h _ a2 (fun g=>?_) (fun g=>⟨fun e=>?_,fun e=>?_⟩)
   ·have e:l=h:=by omega
    subst e;exact⟨rfl,l,rfl,a2,a4,a5⟩
   ·exact⟨rfl,_,h,rfl,by omega,a2,by omega,fun i hi=>m6 O u (by omega) (by omega) e,a5⟩
   ·exact⟨rfl,l,_,rfl,by omega,by omega,by omega,a4,fun i i1 i2=>qO O u i1 i2 e⟩
  case post =>
   rintro c st' ⟨rfl,h,rfl,a2,a4,a5⟩;rw[eg];exact Eo (k h a2 a4 a5)
 unfold qW;refine Es ?_;refine ask hh ?_;dsimp only
 cases eh:Bf lt left key xs b hint with
 | true =>
  rw[Ee rfl]
  refine Es (FF (Fb (I:=fun x c st'=>st'=st/\∃ la o,c=(none,la,o)/\x+1<=o/\la<o/\hint+la<n/\Bf lt left key xs b (hint+la)=true)
   (Q:=fun c st'=>st'=st/\∃ la o,c=(none,la,o)/\la<o/\hint+la<n/\Bf lt left key xs b (hint+la)=true/\(n-hint<=o\/(hint+o<n/\Bf lt left key xs b (hint+o)=false))) ?step ?fin ⟨rfl,0,1,rfl,by omega,by omega,by omega,eh⟩) ?post)
  case fin =>
   rintro c st' ⟨rfl,la,o,rfl,a1,a2,a3,a4⟩;exact⟨rfl,la,o,rfl,a2,a3,a4,.inl (by omega)⟩
  case step =>
   rintro x c st' _ hx ⟨rfl,la,o,rfl,a1,a2,a3,a4⟩;dsimp only
   by_cases g:o>=n-hint
   ·rw[Ee g]
    exact Eo ⟨rfl,la,o,rfl,a2,a3,a4,.inl g⟩
   rw[Ed g];refine Es ?_;refine ask (i:=hint+o) (by omega) ?_
   cases e:Bf lt left key xs b (hint+o) with
   | true=>exact Eo ⟨rfl,o,2*o+1,rfl,by omega,by omega,by omega,e⟩
   | false=>exact Eo ⟨rfl,la,o,rfl,a2,a3,a4,.inr ⟨by omega,e⟩⟩
  case post =>
   rintro c st' ⟨rfl,la,o,rfl,a2,a3,a4,a5⟩;dsimp only
   refine fin _ _ (by omega) (by omega) (fun i hi=>m6 O u (by omega) a3 a4) (fun i i1 i2=>?_) (fun x l h R hn r1 r2=>by
    dsimp only
    by_cases g:l>=h
    ·rw[Ee g];exact Eo (r1 g)
    rw[Ed g];refine Es ?_;refine ask (i:=l+(h-l)/2) (by omega) ?_
    cases e:Bf lt left key xs b (l+(h-l)/2) with
    | true=>exact Eo ((r2 g).1 e)
    | false=>exact Eo ((r2 g).2 e)) (fun l h=>rfl)
   rcases a5 with z | ⟨z,e⟩
   ·omega
   ·exact qO O u (by omega) i2 e
 | false =>
  rw[Ed Ej]
  refine Es (FF (Fb (I:=fun x c st'=>st'=st/\∃ la o,c=(none,la,o)/\x+1<=o/\la<o/\la<=hint/\Bf lt left key xs b (hint-la)=false)
   (Q:=fun c st'=>st'=st/\∃ la o,c=(none,la,o)/\la<o/\la<=hint/\Bf lt left key xs b (hint-la)=false/\(hint+1<=o\/(o<=hint/\Bf lt left key xs b (hint-o)=true))) ?step ?fin ⟨rfl,0,1,rfl,by omega,by omega,by omega,eh⟩) ?post)
  case fin =>
   rintro c st' ⟨rfl,la,o,rfl,a1,a2,a3,a4⟩;exact⟨rfl,la,o,rfl,a2,a3,a4,.inl (by omega)⟩
  case step =>
   rintro x c st' _ hx ⟨rfl,la,o,rfl,a1,a2,a3,a4⟩;dsimp only
   by_cases g:o>=hint+1
   ·rw[Ee g]
    exact Eo ⟨rfl,la,o,rfl,a2,a3,a4,.inl g⟩
   rw[Ed g];refine Es ?_;refine ask (i:=hint-o) (by omega) ?_
   cases e:Bf lt left key xs b (hint-o) with
   | true=>exact Eo ⟨rfl,la,o,rfl,a2,a3,a4,.inr ⟨by omega,e⟩⟩
   | false=>exact Eo ⟨rfl,o,2*o+1,rfl,by omega,by omega,by omega,e⟩
  case post =>
   rintro c st' ⟨rfl,la,o,rfl,a2,a3,a4,a5⟩;dsimp only
   refine fin _ _ (by omega) (by omega) (fun i hi=>?_) (fun i i1 i2=>qO O u (by omega) i2 a4) (fun x l h R hn r1 r2=>by
    dsimp only
    by_cases g:l>=h
    ·rw[Ee g];exact Eo (r1 g)
    rw[Ed g];refine Es ?_;refine ask (i:=l+(h-l)/2) (by omega) ?_
    cases e:Bf lt left key xs b (l+(h-l)/2) with
    | true=>exact Eo ((r2 g).1 e)
    | false=>exact Eo ((r2 g).2 e)) (fun l h=>rfl)
   rcases a5 with z | ⟨z,e⟩
   ·omega
   ·exact m6 O u (by omega) (by omega) e
end
def Fn (R:Keyed->Keyed->Prop)(T r:List Keyed):Prop:=r.Perm T/\r.Pairwise R
structure J (R:Keyed->Keyed->Prop)(T out ra rb:List Keyed):Prop where
 pm:(out++(ra++rb)).Perm T
 so:out.Pairwise R
 oa:∀ x,x∈out->∀ y,y∈ra->R x y
 ob:∀ x,x∈out->∀ y,y∈rb->R x y
 sa:ra.Pairwise R
 sb:rb.Pairwise R
 la:∀ x,x∈rb->∀ z,ra.getLast? = some z->R x z
section
variable {R:Keyed->Keyed->Prop}{T out ra rb p:List Keyed}
theorem J.mvA (j:J R T out (p++ra) rb)(h:∀ x,x∈p->∀ y,y∈rb->R x y):J R T (out++p) ra rb where
 pm:=by have:=j.pm;simpa [Fg] using this
 so:=ER.mpr ⟨j.so,(ER.mp j.sa).1,fun x hx y hy=>j.oa x hx y (FE _ hy)⟩
 oa:=fun x hx y hy=>by
  rcases EB.mp hx with q | q
  ·exact j.oa x q y (ED _ hy)
  ·exact (ER.mp j.sa).2.2 x q y hy
 ob:=fun x hx y hy=>by
  rcases EB.mp hx with q | q
  ·exact j.ob x q y hy
  ·exact h x q y hy
 sa:=(ER.mp j.sa).2.1
 sb:=j.sb
 la:=fun x hx z hz=>j.la x hx z (by rw[List.getLast?_append,hz];rfl)
theorem J.mvB (j:J R T out ra (p++rb))(h:∀ x,x∈p->∀ y,y∈ra->R x y):J R T (out++p) ra rb where
 pm:=by
  refine List.Perm.trans ?_ j.pm;rw[Fg];refine List.Perm.append_left _ ?_;rw[<-Fg,<-Fg];exact List.Perm.append_right _ List.perm_append_comm
 so:=ER.mpr ⟨j.so,(ER.mp j.sb).1,fun x hx y hy=>j.ob x hx y (FE _ hy)⟩
 oa:=fun x hx y hy=>by
  rcases EB.mp hx with q | q
  ·exact j.oa x q y hy
  ·exact h x q y hy
 ob:=fun x hx y hy=>by
  rcases EB.mp hx with q | q
  ·exact j.ob x q y (ED _ hy)
  ·exact (ER.mp j.sb).2.2 x q y hy
 sa:=j.sa
 sb:=(ER.mp j.sb).2.1
 la:=fun x hx z hz=>j.la x (ED _ hx) z hz
theorem J.done (j:J R T out ra []):Fn R T (out++ra):=⟨by simpa using j.pm,ER.mpr ⟨j.so,j.sa,j.oa⟩⟩
theorem J.lst {z:Keyed}(j:J R T out [z] rb):Fn R T (out++rb++[z]):=by
 refine⟨?_,ER.mpr ⟨ER.mpr ⟨j.so,j.sb,j.ob⟩,List.pairwise_singleton _ _,fun x hx y hy=>?_⟩⟩
 ·refine List.Perm.trans ?_ j.pm
  rw[Fg];exact List.Perm.append_left _ List.perm_append_comm
 ·rw[El]at hy
  subst hy;rcases EB.mp hx with q | q
  ·exact j.oa x q y (El.mpr rfl)
  ·exact j.la x q y rfl
theorem Fn.rev (h:Fn (fun x y=>R y x) T out):Fn R T out.reverse:=⟨(List.reverse_perm _).trans h.1,List.pairwise_reverse.mpr h.2⟩
end
theorem qV {a:Array Keyed}{i:Nat}(h:i<a.size):a.toList.drop i=el a i::a.toList.drop (i+1):=by
 have e:=eQ h;rw[<-Array.getElem?_toList]at e
 have hl:i<a.toList.length:=by simpa using h
 rw[List.drop_eq_getElem_cons hl];rw[List.getElem?_eq_getElem hl]at e;injection e with e;rw[e]
theorem v0 {a:Array Keyed}{i k:Nat}:a.toList.drop i=(a.extract i (i+k)).toList++a.toList.drop (i+k):=by
 rw[FG,Fq,show i+k-i=k by omega,<-List.drop_drop,Fj]
theorem rk {a:Array Keyed}{i k:Nat}{x:Keyed}(h:x∈(a.extract i (i+k)).toList):∃ j,j<k/\i+j<a.size/\x=el a (i+j):=by
 rw[F1,Array.mem_iff_getElem]at h;obtain⟨j,hj,e⟩:=h
 have hs:j<min (i+k) a.size-i:=by simpa using hj
 have h2:i+j<a.size:=by omega
 refine⟨j,by omega,h2,?_⟩;rw[<-e,Array.getElem_extract];unfold el;simp[Array.getD,h2]
theorem iT {a:Array Keyed}{i:Nat}{x:Keyed}(h:x∈a.toList.drop i):∃ j,i<=j/\j<a.size/\x=el a j:=by
 obtain⟨j,hj⟩:=List.mem_iff_getElem?.mp h;rw[List.getElem?_drop,Array.getElem?_toList]at hj
 have hl:i+j<a.size:=by
  obtain⟨q,_⟩:=Array.getElem?_eq_some_iff.mp hj;exact q
 rw[eQ hl]at hj;injection hj with hj;exact⟨i+j,by omega,hl,hj.symm⟩
theorem oy {a:Array Keyed}{i:Nat}(h:a.size<=i):a.toList.drop i=[]:=List.drop_eq_nil_of_le (by simpa using h)
theorem qf {a:Array Keyed}{i:Nat}(h:i+1=a.size):a.toList.drop i=[el a i]:=by
 rw[qV (by omega),oy (by omega)]
theorem up_pw {lt:Keyed->Keyed->Bool}{a:Array Keyed}(u:Up lt a 0 a.size):a.toList.Pairwise (fun x y=>lt x y=true):=by
 rw[FC];intro i j hi hj hij
 have h1:i<a.size:=by simpa using hi
 have h2:j<a.size:=by simpa using hj
 have:=u i j (by omega) hij h2;unfold el at this;simpa [Array.getD,h1,h2] using this
def tq:Array Keyed->Array Keyed->StateT SortSt Sem (Array Keyed):=sortPriv% PySem.Builtin.mergeLo
def gD:Nat->StateT SortSt Sem Unit:=sortPriv% PySem.Builtin.setMinGallop
structure sw (a0:Array Keyed)(lt:Keyed->Keyed->Bool)(a b:Array Keyed):Prop where
 ma:∀ i,i<a.size->el a i∈a0
 mb:∀ i,i<b.size->el b i∈a0
 ne:∀ i j,i<a.size->j<b.size->el a i≠el b j
 ua:Up lt a 0 a.size
 ub:Up lt b 0 b.size
 za:0<a.size
 zb:0<b.size
 h0:lt (el b 0) (el a 0)=true
 hl:lt (el b (b.size-1)) (el a (a.size-1))=true
def aF (st st':SortSt):Prop:=arrOf st'=arrOf st/\failedOf st'=failedOf st/\kindOf st'=kindOf st/\pendingOf st'=pendingOf st
def Jl (lt:Keyed->Keyed->Bool)(a b:Array Keyed)(out:Array Keyed)(ia ib:Nat):Prop:=J (fun x y=>lt x y=true) (a.toList++b.toList) out.toList (a.toList.drop ia) (b.toList.drop ib)
def Sl (lt:Keyed->Keyed->Bool)(a b:Array Keyed)(n:Nat)(r:Option (Array Keyed))(out:Array Keyed)(ia ib:Nat):Prop :=
 (∃ q,r=some q/\Fn (fun x y=>lt x y=true) (a.toList++b.toList) q.toList)\/(r=none/\Jl lt a b out ia ib/\ia+1<a.size/\ib<b.size/\n<=out.size)
section
variable {P:Program}{w:World}{A:Around}{E:Value->Shared->Prop}{s:Shared}{κ:SortKind}{a0:Array Keyed}{lt:Keyed->Keyed->Bool}{st:SortSt}{a b out:Array Keyed}{ia ib k n:Nat}
theorem BP {st0:SortSt}{g:Nat}(hs:aF st0 st){Q:Unit->SortSt->Prop}(h:∀ st2,aF st0 st2->Q () st2):wpS (model P w) A E s (gD g) Q st:=by
 unfold gD;exact wpS_modify (h _ hs)
theorem dz {β:Type}{xs:Array Keyed}{i:Nat}(hi:i<xs.size){f:Keyed->StateT SortSt Sem β}{Q:β->SortSt->Prop}(h:wpS (model P w) A E s (f (el xs i)) Q st):wpS (model P w) A E s (elem' xs i >>= f) Q st:=Es (mJ hi h)
theorem zo {β:Type}(O:Ord P w A s κ a0 lt)(kd:kindOf st=κ){x y:Keyed}(hx:x∈a0)(hy:y∈a0){f:Option Bool->StateT SortSt Sem β}{Q:β->SortSt->Prop}(h:wpS (model P w) A E s (f (some (lt x y))) Q st):wpS (model P w) A E s (lt' x y >>= f) Q st:=Es (wV O kd hx hy h)
theorem nF {β:Type}{st0:SortSt}{g:Nat}(hs:aF st0 st){f:Unit->StateT SortSt Sem β}{Q:β->SortSt->Prop}(h:∀ st2,aF st0 st2->wpS (model P w) A E s (f ()) Q st2):wpS (model P w) A E s (gD g >>= f) Q st:=Es (BP hs h)
theorem nE {β:Type}(O:Ord P w A s κ a0 lt)(kd:kindOf st=κ){left:Bool}{key:Keyed}{xs:Array Keyed}{b n hint:Nat}(hk:key∈a0)(hz:b+n<=xs.size)(hm:∀ i,i<n->el xs (b+i)∈a0)(u:Up lt xs b (b+n))(hh:hint<n){f:Option Nat->StateT SortSt Sem β}{Q:β->SortSt->Prop}
  (k:∀ r,r<=n->(∀ i,i<r->Bf lt left key xs b i=true)->(∀ i,r<=i->i<n->Bf lt left key xs b i=false)->wpS (model P w) A E s (f (some r)) Q st):wpS (model P w) A E s (qW left key xs b n hint >>= f) Q st:=Es (lQ O kd hk hz hm u hh k)
theorem CP (u:Up lt a 0 a.size){x:Keyed}(h:x∈a.toList.drop ia):x=el a ia\/lt (el a ia) x=true:=by
 obtain⟨j,h1,h2,rfl⟩:=iT h
 by_cases e:ia=j
 ·exact .inl (by rw[e])
 ·exact .inr (u _ _ (by omega) (by omega) h2)
theorem rj (O:Ord P w A s κ a0 lt)(u:Up lt a 0 a.size){x:Keyed}(h:lt x (el a ia)=true){y:Keyed}(hy:y∈a.toList.drop ia):lt x y=true:=by
 rcases CP u hy with rfl | q
 ·exact h
 ·exact O.tr _ _ _ h q
theorem Jl.pB (O:Ord P w A s κ a0 lt)(W:sw a0 lt a b)(j:Jl lt a b out ia ib)(hb:ib<b.size)(h:lt (el b ib) (el a ia)=true):Jl lt a b (out.push (el b ib)) ia (ib+1):=by
 unfold Jl at j ⊢;rw[qV hb,show el b ib::b.toList.drop (ib+1)=[el b ib]++b.toList.drop (ib+1) from rfl]at j;rw[Ge]
 exact j.mvB fun x hx y hy=>by
  rw[El]at hx;subst hx;exact rj O W.ua h hy
theorem Jl.pA (O:Ord P w A s κ a0 lt)(W:sw a0 lt a b)(j:Jl lt a b out ia ib)(ha:ia<a.size)(h:lt (el a ia) (el b ib)=true):Jl lt a b (out.push (el a ia)) (ia+1) ib:=by
 unfold Jl at j ⊢;rw[qV ha,show el a ia::a.toList.drop (ia+1)=[el a ia]++a.toList.drop (ia+1) from rfl]at j;rw[Ge]
 exact j.mvA fun x hx y hy=>by
  rw[El]at hx;subst hx;exact rj O W.ub h hy
theorem Jl.mA (O:Ord P w A s κ a0 lt)(W:sw a0 lt a b)(j:Jl lt a b out ia ib)(h:∀ i,i<k->lt (el a (ia+i)) (el b ib)=true):Jl lt a b (out++a.extract ia (ia+k)) (ia+k) ib:=by
 unfold Jl at j ⊢;rw[v0 (k:=k)]at j;rw[EW]
 exact j.mvA fun x hx y hy=>by
  obtain⟨i,h1,_,rfl⟩:=rk hx;exact rj O W.ub (h i h1) hy
theorem Jl.mB (O:Ord P w A s κ a0 lt)(W:sw a0 lt a b)(j:Jl lt a b out ia ib)(h:∀ i,i<k->lt (el b (ib+i)) (el a ia)=true):Jl lt a b (out++b.extract ib (ib+k)) ia (ib+k):=by
 unfold Jl at j ⊢;rw[v0 (a:=b) (k:=k)]at j;rw[EW]
 exact j.mvB fun x hx y hy=>by
  obtain⟨i,h1,_,rfl⟩:=rk hx;exact rj O W.ua (h i h1) hy
theorem m9 {a:Array Keyed}{i:Nat}:(a.extract i a.size).toList=a.toList.drop i:=by
 rw[FG,Fq];exact FQ (by simp)
theorem Jl.dn (j:Jl lt a b out ia ib)(hb:ib=b.size):Fn (fun x y=>lt x y=true) (a.toList++b.toList) (out++a.extract ia a.size++b.extract ib b.size).toList:=by
 unfold Jl at j;rw[EW,EW,m9,m9,oy (i:=ib) (by omega),List.append_nil];rw[oy (i:=ib) (by omega)]at j;exact j.done
theorem Jl.ls (j:Jl lt a b out ia ib)(ha:ia+1=a.size):Fn (fun x y=>lt x y=true) (a.toList++b.toList) (out++b.extract ib b.size++a.extract ia a.size).toList:=by
 unfold Jl at j;rw[EW,EW,m9,m9,qf ha];rw[qf ha]at j;exact j.lst
theorem sw.abv (O:Ord P w A s κ a0 lt)(W:sw a0 lt a b){i:Nat}(hi:i<b.size):lt (el b i) (el a (a.size-1))=true:=by
 by_cases c:i=b.size-1
 ·rw[c];exact W.hl
 ·exact O.tr _ _ _ (W.ub i (b.size-1) (by omega) (by omega) (by omega)) W.hl
theorem Jl.ini (O:Ord P w A s κ a0 lt)(W:sw a0 lt a b):Jl lt a b #[el b 0] 0 1:=by
 have j:Jl lt a b #[] 0 0:=by
  refine⟨by simp,List.Pairwise.nil,(fun x hx=>nomatch hx),(fun x hx=>nomatch hx),by simpa using up_pw W.ua,by simpa using up_pw W.ub,fun x hx z hz=>?_⟩;obtain⟨i,_,hi,rfl⟩:=iT hx
  have e:z=el a (a.size-1):=by
   rw[List.drop_zero,List.getLast?_eq_getElem?,Array.getElem?_toList,EJ,eQ (by have:=W.za;omega)]at hz;injection hz with hz;exact hz.symm
  rw[e];exact W.abv O hi
 exact j.pB O W W.zb W.h0
theorem Jl.len (j:Jl lt a b out ia ib):out.size<=a.size+b.size:=by
 have:=j.pm.length_eq;simp only[Ew,EJ]at this;omega
end
theorem zh {P:Nat->Prop}{G:Prop}(main:(∀ n,P n)->G)(key:∀ n,P n):G:=main key
theorem rW {P:Array Keyed->Nat->Prop}{G:Prop}(C:Array Keyed->Nat->Prop)(main:(∀ o i,C o i->P o i)->G)(key:∀ o i,C o i->P o i):G:=main key
section
variable {P:Program}{w:World}{A:Around}{E:Value->Shared->Prop}{s:Shared}{κ:SortKind}{a0:Array Keyed}{lt:Keyed->Keyed->Bool}{st:SortSt}{a b out:Array Keyed}{ia ib k n:Nat}
theorem CS (O:Ord P w A s κ a0 lt)(kd:kindOf st=κ)(W:sw a0 lt a b){Q:Array Keyed->SortSt->Prop}
  (fin:∀ q st',aF st st'->Fn (fun x y=>lt x y=true) (a.toList++b.toList) q.toList->Q q st'):wpS (model P w) A E s (tq a b) Q st:=by
 have sm:aF st st:=⟨rfl,rfl,rfl,rfl⟩;unfold tq;refine Es (wpS_lift (wpAny_rule ⟨rfl,?_⟩));refine Es (mJ W.zb ?_);dsimp only;have j0:=Jl.ini O W
 by_cases e1:1=b.size
 ·rw[Ee (by simpa using e1)]
  exact Eo (fin _ _ sm (j0.dn e1))
 rw[Ed (by simpa using e1)]
 by_cases e2:0+1=a.size
 ·rw[Ee (by simpa using e2)]
  exact Eo (fin _ _ sm (j0.ls e2))
 rw[Ed (by simpa using e2)];have za:=W.za;have zb:=W.zb;refine Es (wpS_get ?_)
 refine Es (FF (Fb (I:=fun x c st'=>aF st st'/\∃ out ia ib g,c=(none,out,ia,ib,g)/\Jl lt a b out ia ib/\ia+1<a.size/\ib<b.size/\x+1<=out.size)
  (Q:=fun c st'=>aF st st'/\∃ r o,c=(some r,o)/\Fn (fun x y=>lt x y=true) (a.toList++b.toList) r.toList) ?step ?fin ⟨sm,_,_,_,_,rfl,j0,by omega,by omega,by simp⟩) ?post)
 case post =>
  rintro c st' ⟨hs,r,o,rfl,hr⟩;exact Eo (fin _ _ hs hr)
 case fin =>
  rintro c st' ⟨hs,out,ia,ib,g,rfl,j,ha,hb,hn⟩;have:=j.len;omega
 case step =>
  rintro x c st' _ hx ⟨hs,out,ia,ib,g,rfl,j,ha,hb,hn⟩;dsimp only
  refine Es (FF (Fb (I:=fun y c st'=>aF st st'/\∃ out ia ib ac bc,c=(none,out,ia,ib,ac,bc)/\Jl lt a b out ia ib/\ia+1<a.size/\ib<b.size/\x+1<=out.size)
   (Q:=fun c st'=>aF st st'/\∃ r out ia ib ac bc,c=(r,out,ia,ib,ac,bc)/\Sl lt a b (x+1) r out ia ib) ?step1 ?fin1 ⟨hs,_,_,_,_,_,rfl,j,ha,hb,hn⟩) ?post1)
  case fin1 =>
   rintro c st' ⟨hs,out,ia,ib,ac,bc,rfl,j,ha,hb,hn⟩;exact⟨hs,_,_,_,_,_,_,rfl,.inr ⟨rfl,j,ha,hb,hn⟩⟩
  case step1 =>
   rintro y c st' _ hy ⟨hs,out,ia,ib,ac,bc,rfl,j,ha,hb,hn⟩;dsimp only;refine dz hb ?_;refine dz (by omega) ?_;refine zo O (hs.2.2.1.trans kd) (W.mb _ hb) (W.ma _ (by omega)) ?_
   cases el:lt (el b ib) (el a ia) with
   | true =>
    dsimp only;rw[Ee rfl];refine dz hb ?_;have j3:=j.pB O W hb el
    by_cases e:ib+1=b.size
    ·rw[Ee (by simpa using e)]
     exact Eo ⟨hs,_,_,_,_,_,_,rfl,.inl ⟨_,rfl,j3.dn e⟩⟩
    rw[Ed (by simpa using e)]
    by_cases e3:bc+1>=g
    ·rw[Ee e3]
     exact Eo ⟨hs,_,_,_,_,_,_,rfl,.inr ⟨rfl,j3,ha,by omega,by rw[Fd];omega⟩⟩
    ·rw[Ed e3]
     exact Eo ⟨hs,_,_,_,_,_,rfl,j3,ha,by omega,by rw[Fd];omega⟩
   | false =>
    dsimp only;rw[Ed Ej];refine dz (by omega) ?_;have j3:=j.pA O W (by omega) (O.not (W.mb _ hb) (W.ma _ (by omega)) (fun e=>W.ne _ _ (by omega) hb e.symm) el)
    by_cases e:ia+1+1=a.size
    ·rw[Ee (by simpa using e)]
     exact Eo ⟨hs,_,_,_,_,_,_,rfl,.inl ⟨_,rfl,j3.ls e⟩⟩
    rw[Ed (by simpa using e)]
    by_cases e3:ac+1>=g
    ·rw[Ee e3]
     exact Eo ⟨hs,_,_,_,_,_,_,rfl,.inr ⟨rfl,j3,by omega,by omega,by rw[Fd];omega⟩⟩
    ·rw[Ed e3]
     exact Eo ⟨hs,_,_,_,_,_,rfl,j3,by omega,by omega,by rw[Fd];omega⟩
  case post1 =>
   rintro c st' ⟨hs,r,out,ia,ib,ac,bc,rfl,⟨q,rfl,hq⟩ | ⟨rfl,j,ha,hb,hn⟩⟩
   ·exact Eo ⟨hs,_,_,rfl,hq⟩
   dsimp only;refine Es (wpS_lift (wpAny_rule ⟨rfl,?_⟩))
   refine Es (FF (Fb (I:=fun y c st'=>aF st st'/\∃ out ia ib g ac bc,c=(none,out,ia,ib,g,ac,bc)/\Jl lt a b out ia ib/\ia+1<a.size/\ib<b.size/\x+1+y<=out.size)
    (Q:=fun c st'=>aF st st'/\∃ r out ia ib g ac bc,c=(r,out,ia,ib,g,ac,bc)/\Sl lt a b (x+1+1) r out ia ib) ?step2 ?fin2 ⟨hs,_,_,_,_,_,_,rfl,j,ha,hb,hn⟩) ?post2)
   case fin2 =>
    rintro c st' ⟨hs,out,ia,ib,g,ac,bc,rfl,j,ha,hb,hn⟩;exact⟨hs,_,_,_,_,_,_,_,rfl,.inr ⟨rfl,j,ha,hb,by omega⟩⟩
   case post2 =>
    rintro c st' ⟨hs,r,out,ia,ib,g,ac,bc,rfl,⟨q,rfl,hq⟩ | ⟨rfl,j,ha,hb,hn⟩⟩
    ·exact Eo ⟨hs,_,_,rfl,hq⟩
    dsimp only;refine nF hs fun st2 hs=>?_;exact Eo ⟨hs,_,_,_,_,rfl,j,ha,hb,hn⟩
   case step2 =>
    rintro y c st' _ hy ⟨hs,out,ia,ib,g,ac,bc,rfl,j,ha,hb,hn⟩;dsimp only
    apply zh
    ·intro rest
     by_cases gg:g>1
     ·rw[Ee gg]
      generalize g-1=g';exact rest g'
     ·rw[Ed gg]
      exact rest g
    intro g';refine nF hs fun st2 hs=>?_;refine dz hb ?_;refine nE (xs:=a) (b:=ia) (n:=a.size-ia) (hint:=0) O (hs.2.2.1.trans kd) (W.mb ib hb) (by omega) (fun i hi=>W.ma _ (by omega)) (fun i j h1 h2 h3=>W.ua i j (by omega) h2 (by omega)) (by omega) fun k k1 k2 k3=>?_;dsimp only
    have q1:∀ i,i<k->lt (el a (ia+i)) (el b ib)=true:=fun i hi=>by
     have:=k2 i hi;unfold Bf at this;rw[Ed Ej,Gc]at this;exact O.not (W.mb _ hb) (W.ma _ (by omega)) (fun e=>W.ne _ _ (by omega) hb e.symm) this
    have q2:ia+k<a.size:=by
     rcases Nat.lt_or_ge (ia+k) a.size with q | q
     ·exact q
     ·have q4:=q1 (a.size-1-ia) (by omega)
      rw[show ia+(a.size-1-ia)=a.size-1 by omega,O.asym (W.abv O hb)]at q4;cases q4
    have q3:lt (el b ib) (el a (ia+k))=true:=by
     have:=k3 k (Eh _) (by omega);unfold Bf at this
     rwa [Ed Ej,Bool.not_eq_false']at this
    apply rW (fun o i=>Jl lt a b o i ib/\x+1+y<=o.size/\lt (el b ib) (el a i)=true/\i+1<a.size)
    ·intro rest
     by_cases gk:k>0
     ·rw[Ee gk]
      have j2:=j.mA O W q1
      by_cases e1:ia+k+1=a.size
      ·rw[Ee (by simpa using e1)]
       exact Eo ⟨hs,_,_,_,_,_,_,_,rfl,.inl ⟨_,rfl,j2.ls e1⟩⟩
      rw[Ed (by simpa using e1),Ed (by simp only[FO];omega)]
      have z3:x+1+y<=(out++a.extract ia (ia+k)).size:=by
       rw[Array.size_append];exact Nat.le_add_right_of_le hn
      generalize out++a.extract ia (ia+k)=o at j2 z3 ⊢;have q2':=q2;have q3':=q3;generalize ia+k=i at j2 q2' q3' e1 ⊢;exact rest o i ⟨j2,z3,q3',by omega⟩
     ·rw[Ed gk]
      exact rest out ia ⟨j,hn,by rw[show ia=ia+k by omega];exact q3,ha⟩
    rintro o i ⟨j,z3,q3,hi⟩;refine dz hb ?_;have j3:=j.pB O W hb q3
    by_cases e2:ib+1=b.size
    ·rw[Ee (by simpa using e2)]
     exact Eo ⟨hs,_,_,_,_,_,_,_,rfl,.inl ⟨_,rfl,j3.dn e2⟩⟩
    rw[Ed (by simpa using e2)];refine dz (i:=i) (by omega) ?_;refine nE (xs:=b) (b:=ib+1) (n:=b.size-(ib+1)) (hint:=0) O (hs.2.2.1.trans kd) (W.ma i (by omega)) (by omega) (fun i hi=>W.mb _ (by omega)) (fun i j h1 h2 h3=>W.ub i j (by omega) h2 (by omega)) (by omega) fun l l1 l2 l3=>?_;dsimp only
    have r1:∀ h,h<l->lt (el b (ib+1+h)) (el a i)=true:=fun h hh=>by
     have:=l2 h hh;unfold Bf at this
     rwa [Ee rfl]at this
    have r3:ib+1+l<b.size->lt (el a i) (el b (ib+1+l))=true:=fun hl=>by
     have:=l3 l (Eh _) (by omega);unfold Bf at this;rw[Ee rfl]at this;exact O.not (W.mb _ hl) (W.ma _ (by omega)) (fun e=>W.ne _ _ (by omega) hl e.symm) this
    have z3':x+1+y+1<=(o.push (el b ib)).size:=by
     rw[Fd];exact Nat.succ_le_succ z3
    apply rW (fun o m=>Jl lt a b o i m/\x+1+y+1<=o.size/\lt (el a i) (el b m)=true/\m<b.size)
    ·intro rest
     by_cases gl:l>0
     ·rw[Ee gl]
      have j4:=j3.mB O W r1
      by_cases e5:ib+1+l=b.size
      ·rw[Ee (by simpa using e5)]
       exact Eo ⟨hs,_,_,_,_,_,_,_,rfl,.inl ⟨_,rfl,j4.dn e5⟩⟩
      rw[Ed (by simpa using e5)];have r4:=r3 (by omega)
      have z4:x+1+y+1<=(o.push (el b ib)++b.extract (ib+1) (ib+1+l)).size:=by
       rw[Array.size_append];exact Nat.le_add_right_of_le z3'
      generalize o.push (el b ib)++b.extract (ib+1) (ib+1+l)=o' at j4 z4 ⊢
      have m4:ib+1+l<b.size:=by omega
      generalize ib+1+l=m at j4 r4 m4 ⊢;exact rest o' m ⟨j4,z4,r4,m4⟩
     ·rw[Ed gl]
      have r4:=r3 (by omega);rw[show l=0 by omega,Nat.add_zero]at r4;exact rest _ _ ⟨j3,z3',r4,by omega⟩
    rintro o m ⟨j,z4,r3,hm⟩;refine dz (i:=i) (by omega) ?_;have j5:=j.pA O W (by omega) r3
    by_cases e3:i+1+1=a.size
    ·rw[Ee (by simpa using e3)]
     exact Eo ⟨hs,_,_,_,_,_,_,_,rfl,.inl ⟨_,rfl,j5.ls e3⟩⟩
    rw[Ed (by simpa using e3)]
    have z5:x+1+y+1<=(o.push (el a i)).size:=by
     rw[Fd];exact Nat.le_succ_of_le z4
    by_cases e4:(decide (k<7)&&decide (l<7))=true
    ·rw[Ee e4]
     exact Eo ⟨hs,_,_,_,_,_,_,_,rfl,.inr ⟨rfl,j5,by omega,hm,by omega⟩⟩
    ·rw[Ed e4]
     exact Eo ⟨hs,_,_,_,_,_,_,rfl,j5,by omega,hm,by omega⟩
end
def tj:Array Keyed->Array Keyed->StateT SortSt Sem (Array Keyed):=sortPriv% PySem.Builtin.mergeHi
def Jh (lt:Keyed->Keyed->Bool)(a b:Array Keyed)(out:Array Keyed)(na nb:Nat):Prop:=J (fun x y=>lt y x=true) (a.toList++b.toList) out.toList (b.toList.take nb).reverse (a.toList.take na).reverse
def Sh (lt:Keyed->Keyed->Bool)(a b:Array Keyed)(n:Nat)(r:Option (Array Keyed))(out:Array Keyed)(na nb:Nat):Prop :=
 (∃ q,r=some q/\Fn (fun x y=>lt x y=true) (a.toList++b.toList) q.toList)\/(r=none/\Jh lt a b out na nb/\0<na/\na<a.size/\1<nb/\nb<=b.size/\n<=out.size)
theorem sk {a:Array Keyed}{i:Nat}(h:0<i)(hi:i<=a.size):(a.toList.take i).reverse=el a (i-1)::(a.toList.take (i-1)).reverse:=by
 obtain⟨m,rfl⟩:∃ m,i=m+1:=⟨i-1,by omega⟩;have e:=eQ (xs:=a) (i:=m) (by omega);rw[<-Array.getElem?_toList]at e;rw[EU,e,Nat.add_sub_cancel];simp
theorem wQ {a:Array Keyed}{i n:Nat}(h:i<=n):(a.toList.take n).reverse=(a.extract i n).reverse.toList++(a.toList.take i).reverse:=by
 rw[Array.toList_reverse,FG,Fq,<-F5]
 congr 1
 have e:=Fj i (a.toList.take n);rw[List.take_take,Nat.min_eq_left h,List.drop_take]at e;exact e.symm
theorem ti {a:Array Keyed}{n:Nat}{x:Keyed}(h:x∈(a.toList.take n).reverse):∃ j,j<n/\j<a.size/\x=el a j:=by
 rw[List.mem_reverse]at h;obtain⟨j,hj⟩:=List.mem_iff_getElem?.mp h;rw[List.getElem?_take]at hj
 by_cases c:j<n
 ·rw[Ee c,Array.getElem?_toList]at hj
  obtain⟨hl,_⟩:=Array.getElem?_eq_some_iff.mp hj;rw[eQ hl]at hj;injection hj with hj;exact⟨j,c,hl,hj.symm⟩
 ·rw[Ed c]at hj;cases hj
theorem wm {a:Array Keyed}{i n:Nat}{x:Keyed}(h:x∈(a.extract i n).reverse.toList):∃ j,i<=j/\j<n/\j<a.size/\x=el a j:=by
 rw[Array.toList_reverse,List.mem_reverse,F1,Array.mem_iff_getElem]at h;obtain⟨j,hj,e⟩:=h
 have hs:j<min n a.size-i:=by simpa using hj
 have h2:i+j<a.size:=by omega
 refine⟨i+j,by omega,by omega,h2,?_⟩;rw[<-e,Array.getElem_extract];unfold el;simp[Array.getD,h2]
section
variable {P:Program}{w:World}{A:Around}{E:Value->Shared->Prop}{s:Shared}{κ:SortKind}{a0:Array Keyed}{lt:Keyed->Keyed->Bool}{st:SortSt}{a b out:Array Keyed}{na nb k n:Nat}
theorem qX (O:Ord P w A s κ a0 lt)(u:Up lt a 0 a.size){x:Keyed}(h:lt (el a (na-1)) x=true){y:Keyed}(hn:na<=a.size)(hy:y∈(a.toList.take na).reverse):lt y x=true:=by
 obtain⟨j,h1,h2,rfl⟩:=ti hy
 by_cases e:j=na-1
 ·rw[e];exact h
 ·exact O.tr _ _ _ (u _ _ (by omega) (by omega) (by omega)) h
theorem Jh.pA (O:Ord P w A s κ a0 lt)(W:sw a0 lt a b)(j:Jh lt a b out na nb)(ha:0<na)(ha2:na<=a.size)(hb:nb<=b.size)(h:lt (el b (nb-1)) (el a (na-1))=true):Jh lt a b (out.push (el a (na-1))) (na-1) nb:=by
 unfold Jh at j ⊢;rw[sk ha ha2,show el a (na-1)::(a.toList.take (na-1)).reverse=[el a (na-1)]++(a.toList.take (na-1)).reverse from rfl]at j;rw[Ge]
 exact j.mvB fun x hx y hy=>by
  rw[El]at hx;subst hx;exact qX O W.ub h hb hy
theorem Jh.pB (O:Ord P w A s κ a0 lt)(W:sw a0 lt a b)(j:Jh lt a b out na nb)(hb:0<nb)(hb2:nb<=b.size)(ha:na<=a.size)(h:lt (el a (na-1)) (el b (nb-1))=true):Jh lt a b (out.push (el b (nb-1))) na (nb-1):=by
 unfold Jh at j ⊢;rw[sk hb hb2,show el b (nb-1)::(b.toList.take (nb-1)).reverse=[el b (nb-1)]++(b.toList.take (nb-1)).reverse from rfl]at j;rw[Ge]
 exact j.mvA fun x hx y hy=>by
  rw[El]at hx;subst hx;exact qX O W.ua h ha hy
theorem Jh.mA (O:Ord P w A s κ a0 lt)(W:sw a0 lt a b)(j:Jh lt a b out na nb)(hk:k<=na)(hb:nb<=b.size)(h:∀ i,k<=i->i<na->lt (el b (nb-1)) (el a i)=true):Jh lt a b (out++(a.extract k na).reverse) k nb:=by
 unfold Jh at j ⊢;rw[wQ (a:=a) hk]at j;rw[EW]
 exact j.mvB fun x hx y hy=>by
  obtain⟨i,h1,h2,_,rfl⟩:=wm hx;exact qX O W.ub (h i h1 h2) hb hy
theorem Jh.mB (O:Ord P w A s κ a0 lt)(W:sw a0 lt a b)(j:Jh lt a b out na nb)(hk:k<=nb)(ha:na<=a.size)(h:∀ i,k<=i->i<nb->lt (el a (na-1)) (el b i)=true):Jh lt a b (out++(b.extract k nb).reverse) na k:=by
 unfold Jh at j ⊢;rw[wQ (a:=b) hk]at j;rw[EW]
 exact j.mvA fun x hx y hy=>by
  obtain⟨i,h1,h2,_,rfl⟩:=wm hx;exact qX O W.ua (h i h1 h2) ha hy
theorem nc {a:Array Keyed}{i:Nat}:(a.extract 0 i).toList=a.toList.take i:=by
 rw[FG,Fq,List.drop_zero,Nat.sub_zero]
theorem Jh.dn (j:Jh lt a b out na nb)(ha:na=0):Fn (fun x y=>lt x y=true) (a.toList++b.toList) (a.extract 0 na++b.extract 0 nb++out.reverse).toList:=by
 unfold Jh at j;subst ha;rw[List.take_zero,List.reverse_nil]at j;have q:=j.done.rev;rw[F5,List.reverse_reverse]at q;rw[EW,EW,nc,nc,Array.toList_reverse,List.take_zero,List.nil_append];exact q
theorem Jh.ls (j:Jh lt a b out na nb)(hb:nb=1)(zb:0<b.size):Fn (fun x y=>lt x y=true) (a.toList++b.toList) (b.extract 0 nb++a.extract 0 na++out.reverse).toList:=by
 unfold Jh at j;subst hb;have e:=sk (a:=b) (i:=1) (by omega) (by omega);rw[FU,List.take_zero,List.reverse_nil]at e;rw[e]at j;have q:=j.lst.rev;rw[F5,F5,List.reverse_reverse,<-Fg,List.reverse_singleton]at q;rw[EW,EW,nc,nc,Array.toList_reverse];rw[<-List.reverse_reverse (b.toList.take 1),e,List.reverse_singleton];exact q
theorem sw.blw (O:Ord P w A s κ a0 lt)(W:sw a0 lt a b){i:Nat}(hi:i<a.size):lt (el b 0) (el a i)=true:=by
 by_cases c:i=0
 ·rw[c];exact W.h0
 ·exact O.tr _ _ _ W.h0 (W.ua 0 i (by omega) (by omega) (by omega))
theorem Jh.ini (O:Ord P w A s κ a0 lt)(W:sw a0 lt a b):Jh lt a b #[el a (a.size-1)] (a.size-1) b.size:=by
 have j:Jh lt a b #[] a.size b.size:=by
  unfold Jh;rw[FQ (l:=a.toList) (i:=a.size) (by rw[EJ];exact Eh _),FQ (l:=b.toList) (i:=b.size) (by rw[EJ];exact Eh _)];refine⟨?_,List.Pairwise.nil,(fun x hx=>nomatch hx),(fun x hx=>nomatch hx),List.pairwise_reverse.mpr (up_pw W.ub),List.pairwise_reverse.mpr (up_pw W.ua),fun x hx z hz=>?_⟩
  ·show (b.toList.reverse++a.toList.reverse).Perm _
   rw[<-F5];exact List.reverse_perm _
  rw[show a.toList=a.toList.drop 0 from rfl,List.mem_reverse]at hx;obtain⟨i,_,hi,rfl⟩:=iT hx
  have e:z=el b 0:=by
   rw[List.getLast?_reverse,List.head?_eq_getElem?,Array.getElem?_toList,eQ W.zb]at hz;injection hz with hz;exact hz.symm
  rw[e];exact W.blw O hi
 exact j.pA O W W.za (Eh _) (Eh _) W.hl
theorem Jh.len (j:Jh lt a b out na nb):out.size<=a.size+b.size:=by
 have:=j.pm.length_eq;simp only[Ew,EJ]at this;omega
end
section
variable {P:Program}{w:World}{A:Around}{E:Value->Shared->Prop}{s:Shared}{κ:SortKind}{a0:Array Keyed}{lt:Keyed->Keyed->Bool}{st:SortSt}{a b out:Array Keyed}{na nb k n:Nat}
theorem CQ (O:Ord P w A s κ a0 lt)(kd:kindOf st=κ)(W:sw a0 lt a b){Q:Array Keyed->SortSt->Prop}
  (fin:∀ q st',aF st st'->Fn (fun x y=>lt x y=true) (a.toList++b.toList) q.toList->Q q st'):wpS (model P w) A E s (tj a b) Q st:=by
 have sm:aF st st:=⟨rfl,rfl,rfl,rfl⟩;have za:=W.za;have zb:=W.zb;unfold tj;refine Es (wpS_lift (wpAny_rule ⟨rfl,?_⟩));refine Es (mJ (i:=a.size-1) (by omega) ?_);dsimp only;have j0:=Jh.ini O W
 by_cases e1:a.size-1=0
 ·rw[Ee (by simpa using e1)]
  exact Eo (fin _ _ sm (j0.dn e1))
 rw[Ed (by simpa using e1)]
 by_cases e2:b.size=1
 ·rw[Ee (by simpa using e2)]
  exact Eo (fin _ _ sm (j0.ls e2 zb))
 rw[Ed (by simpa using e2)];refine Es (wpS_get ?_)
 refine Es (FF (Fb (I:=fun x c st'=>aF st st'/\∃ na nb out g,c=(none,na,nb,out,g)/\Jh lt a b out na nb/\0<na/\na<a.size/\1<nb/\nb<=b.size/\x+1<=out.size)
  (Q:=fun c st'=>aF st st'/\∃ r o,c=(some r,o)/\Fn (fun x y=>lt x y=true) (a.toList++b.toList) r.toList) ?step ?fin ⟨sm,_,_,_,_,rfl,j0,by omega,by omega,by omega,by omega,by simp⟩) ?post)
 case post =>
  rintro c st' ⟨hs,r,o,rfl,hr⟩;exact Eo (fin _ _ hs hr)
 case fin =>
  rintro c st' ⟨hs,na,nb,out,g,rfl,j,ha,ha2,hb,hb2,hn⟩;have:=j.len;omega
 case step =>
  rintro x c st' _ hx ⟨hs,na,nb,out,g,rfl,j,ha,ha2,hb,hb2,hn⟩;dsimp only
  refine Es (FF (Fb (I:=fun y c st'=>aF st st'/\∃ na nb out ac bc,c=(none,na,nb,out,ac,bc)/\Jh lt a b out na nb/\0<na/\na<a.size/\1<nb/\nb<=b.size/\x+1<=out.size)
   (Q:=fun c st'=>aF st st'/\∃ r na nb out ac bc,c=(r,na,nb,out,ac,bc)/\Sh lt a b (x+1) r out na nb) ?step1 ?fin1 ⟨hs,_,_,_,_,_,rfl,j,ha,ha2,hb,hb2,hn⟩) ?post1)
  case fin1 =>
   rintro c st' ⟨hs,na,nb,out,ac,bc,rfl,j,ha,ha2,hb,hb2,hn⟩;exact⟨hs,_,_,_,_,_,_,rfl,.inr ⟨rfl,j,ha,ha2,hb,hb2,hn⟩⟩
  case step1 =>
   rintro y c st' _ hy ⟨hs,na,nb,out,ac,bc,rfl,j,ha,ha2,hb,hb2,hn⟩;dsimp only;refine dz (i:=nb-1) (by omega) ?_;refine dz (i:=na-1) (by omega) ?_;refine zo O (hs.2.2.1.trans kd) (W.mb _ (by omega)) (W.ma _ (by omega)) ?_
   cases el:lt (el b (nb-1)) (el a (na-1)) with
   | true =>
    dsimp only;rw[Ee rfl];refine dz (i:=na-1) (by omega) ?_;have j3:=j.pA O W (by omega) (by omega) (by omega) el
    by_cases e:na-1=0
    ·rw[Ee (by simpa using e)]
     exact Eo ⟨hs,_,_,_,_,_,_,rfl,.inl ⟨_,rfl,j3.dn e⟩⟩
    rw[Ed (by simpa using e)]
    by_cases e3:ac+1>=g
    ·rw[Ee e3]
     exact Eo ⟨hs,_,_,_,_,_,_,rfl,.inr ⟨rfl,j3,by omega,by omega,by omega,by omega,by rw[Fd];omega⟩⟩
    ·rw[Ed e3]
     exact Eo ⟨hs,_,_,_,_,_,rfl,j3,by omega,by omega,by omega,by omega,by rw[Fd];omega⟩
   | false =>
    dsimp only;rw[Ed Ej];refine dz (i:=nb-1) (by omega) ?_;have j3:=j.pB O W (by omega) (by omega) (by omega) (O.not (W.mb _ (by omega)) (W.ma _ (by omega)) (fun e=>W.ne _ _ (by omega) (by omega) e.symm) el)
    by_cases e:nb-1=1
    ·rw[Ee (by simpa using e)]
     exact Eo ⟨hs,_,_,_,_,_,_,rfl,.inl ⟨_,rfl,j3.ls e zb⟩⟩
    rw[Ed (by simpa using e)]
    by_cases e3:bc+1>=g
    ·rw[Ee e3]
     exact Eo ⟨hs,_,_,_,_,_,_,rfl,.inr ⟨rfl,j3,by omega,by omega,by omega,by omega,by rw[Fd];omega⟩⟩
    ·rw[Ed e3]
     exact Eo ⟨hs,_,_,_,_,_,rfl,j3,by omega,by omega,by omega,by omega,by rw[Fd];omega⟩
  case post1 =>
   rintro c st' ⟨hs,r,na,nb,out,ac,bc,rfl,⟨q,rfl,hq⟩ | ⟨rfl,j,ha,ha2,hb,hb2,hn⟩⟩
   ·exact Eo ⟨hs,_,_,rfl,hq⟩
   dsimp only;refine Es (wpS_lift (wpAny_rule ⟨rfl,?_⟩))
   refine Es (FF (Fb (I:=fun y c st'=>aF st st'/\∃ na nb out g ac bc,c=(none,na,nb,out,g,ac,bc)/\Jh lt a b out na nb/\0<na/\na<a.size/\1<nb/\nb<=b.size/\x+1+y<=out.size)
    (Q:=fun c st'=>aF st st'/\∃ r na nb out g ac bc,c=(r,na,nb,out,g,ac,bc)/\Sh lt a b (x+1+1) r out na nb) ?step2 ?fin2 ⟨hs,_,_,_,_,_,_,rfl,j,ha,ha2,hb,hb2,hn⟩) ?post2)
   case fin2 =>
    rintro c st' ⟨hs,na,nb,out,g,ac,bc,rfl,j,ha,ha2,hb,hb2,hn⟩;exact⟨hs,_,_,_,_,_,_,_,rfl,.inr ⟨rfl,j,ha,ha2,hb,hb2,by omega⟩⟩
   case post2 =>
    rintro c st' ⟨hs,r,na,nb,out,g,ac,bc,rfl,⟨q,rfl,hq⟩ | ⟨rfl,j,ha,ha2,hb,hb2,hn⟩⟩
    ·exact Eo ⟨hs,_,_,rfl,hq⟩
    dsimp only;refine nF hs fun st2 hs=>?_;exact Eo ⟨hs,_,_,_,_,rfl,j,ha,ha2,hb,hb2,hn⟩
   case step2 =>
    rintro y c st' _ hy ⟨hs,na,nb,out,g,ac,bc,rfl,j,ha,ha2,hb,hb2,hn⟩;dsimp only
    apply zh
    ·intro rest
     by_cases gg:g>1
     ·rw[Ee gg]
      generalize g-1=g';exact rest g'
     ·rw[Ed gg]
      exact rest g
    intro g';refine nF hs fun st2 hs=>?_;refine dz (i:=nb-1) (by omega) ?_;refine nE (xs:=a) (b:=0) (n:=na) (hint:=na-1) O (hs.2.2.1.trans kd) (W.mb (nb-1) (by omega)) (by omega) (fun i hi=>W.ma _ (by omega)) (fun i j h1 h2 h3=>W.ua i j (by omega) h2 (by omega)) (by omega) fun k k1 k2 k3=>?_;dsimp only
    have q1:∀ i,k<=i->i<na->lt (el b (nb-1)) (el a i)=true:=fun i h1 h2=>by
     have:=k3 i h1 h2;unfold Bf at this
     rwa [Ed Ej,Bool.not_eq_false',Nat.zero_add]at this
    have q3:0<k->lt (el a (k-1)) (el b (nb-1))=true:=fun hk=>by
     have:=k2 (k-1) (by omega);unfold Bf at this;rw[Ed Ej,Gc,Nat.zero_add]at this;exact O.not (W.mb _ (by omega)) (W.ma _ (by omega)) (fun e=>W.ne _ _ (by omega) (by omega) e.symm) this
    generalize hd:na-k=d
    apply rW (fun o i=>Jh lt a b o i nb/\x+1+y<=o.size/\lt (el a (i-1)) (el b (nb-1))=true/\0<i/\i<=na)
    ·intro rest
     by_cases gk:d>0
     ·rw[Ee gk]
      have j2:=j.mA O W k1 (by omega) q1
      by_cases e1:k=0
      ·rw[Ee (by simpa using e1)]
       exact Eo ⟨hs,_,_,_,_,_,_,_,rfl,.inl ⟨_,rfl,j2.dn e1⟩⟩
      rw[Ed (by simpa using e1)]
      have z3:x+1+y<=(out++(a.extract k na).reverse).size:=by
       rw[Array.size_append];exact Nat.le_add_right_of_le hn
      generalize out++(a.extract k na).reverse=o at j2 z3 ⊢;have q4:=q3 (by omega);have q5:0<k/\k<=na:=⟨by omega,k1⟩;generalize k=i at j2 q4 q5 ⊢;exact rest o i ⟨j2,z3,q4,q5⟩
     ·rw[Ed gk]
      exact rest out na ⟨j,hn,by rw[show na=k by omega];exact q3 (by omega),by omega,by omega⟩
    rintro o i ⟨j,z3,q3,i1,i2⟩;refine dz (i:=nb-1) (by omega) ?_;have j3:=j.pB O W (by omega) (by omega) (by omega) q3
    by_cases e2:nb-1=1
    ·rw[Ee (by simpa using e2)]
     exact Eo ⟨hs,_,_,_,_,_,_,_,rfl,.inl ⟨_,rfl,j3.ls e2 W.zb⟩⟩
    rw[Ed (by simpa using e2)];refine dz (i:=i-1) (by omega) ?_;refine nE (xs:=b) (b:=0) (n:=nb-1) (hint:=nb-1-1) O (hs.2.2.1.trans kd) (W.ma (i-1) (by omega)) (by omega) (fun i hi=>W.mb _ (by omega)) (fun i j h1 h2 h3=>W.ub i j (by omega) h2 (by omega)) (by omega) fun l l1 l2 l3=>?_;dsimp only
    have r1:∀ h,l<=h->h<nb-1->lt (el a (i-1)) (el b h)=true:=fun h h1 h2=>by
     have:=l3 h h1 h2;unfold Bf at this;rw[Ee rfl,Nat.zero_add]at this;exact O.not (W.mb _ (by omega)) (W.ma _ (by omega)) (fun e=>W.ne _ _ (by omega) (by omega) e.symm) this
    have r2:0<l:=by
     rcases Nat.eq_zero_or_pos l with q | q
     ·have q4:=r1 0 (by omega) (by omega)
      rw[O.asym (W.blw O (by omega))]at q4;cases q4
     ·exact q
    have r3:lt (el b (l-1)) (el a (i-1))=true:=by
     have:=l2 (l-1) (by omega);unfold Bf at this
     rwa [Ee rfl,Nat.zero_add]at this
    have z3':x+1+y+1<=(o.push (el b (nb-1))).size:=by
     rw[Fd];exact Nat.succ_le_succ z3
    generalize hf:nb-1-l=f
    apply rW (fun o m=>Jh lt a b o i m/\x+1+y+1<=o.size/\lt (el b (m-1)) (el a (i-1))=true/\1<m/\m<=b.size)
    ·intro rest
     by_cases gl:f>0
     ·rw[Ee gl]
      have j4:=j3.mB O W l1 (by omega) r1
      by_cases e5:l=1
      ·rw[Ee (by simpa using e5)]
       exact Eo ⟨hs,_,_,_,_,_,_,_,rfl,.inl ⟨_,rfl,j4.ls e5 W.zb⟩⟩
      rw[Ed (by simpa using e5),Ed (by simp only[FO];omega)]
      have z4:x+1+y+1<=(o.push (el b (nb-1))++(b.extract l (nb-1)).reverse).size:=by
       rw[Array.size_append];exact Nat.le_add_right_of_le z3'
      generalize o.push (el b (nb-1))++(b.extract l (nb-1)).reverse=o' at j4 z4 ⊢;have r4:=r3;have m4:1<l/\l<=b.size:=⟨by omega,by omega⟩;generalize l=m at j4 r4 m4 ⊢;exact rest o' m ⟨j4,z4,r4,m4⟩
     ·rw[Ed gl]
      exact rest _ _ ⟨j3,z3',by rw[show nb-1=l by omega];exact r3,by omega,by omega⟩
    rintro o m ⟨j,z4,r3,m1,m2⟩;refine dz (i:=i-1) (by omega) ?_;have j5:=j.pA O W (by omega) (by omega) (by omega) r3
    by_cases e3:i-1=0
    ·rw[Ee (by simpa using e3)]
     exact Eo ⟨hs,_,_,_,_,_,_,_,rfl,.inl ⟨_,rfl,j5.dn e3⟩⟩
    rw[Ed (by simpa using e3)]
    have z5:x+1+y+1<=(o.push (el a (i-1))).size:=by
     rw[Fd];exact Nat.le_succ_of_le z4
    by_cases e4:(decide (d<7)&&decide (f<7))=true
    ·rw[Ee e4]
     exact Eo ⟨hs,_,_,_,_,_,_,_,rfl,.inr ⟨rfl,j5,by omega,by omega,by omega,by omega,by omega⟩⟩
    ·rw[Ed e4]
     exact Eo ⟨hs,_,_,_,_,_,_,rfl,j5,by omega,by omega,by omega,by omega,by omega⟩
end
def back (q:Nat)(m arr:Array Keyed):Array Keyed:=m.toList.zipIdx.foldl (fun a (p,j)=>a.setIfInBounds (q+j) p) arr
theorem x8 (q:Nat):∀ (l:List Keyed)(k:Nat)(arr:Array Keyed),q+k+l.length<=arr.size->((l.zipIdx k).foldl (fun (a:Array Keyed)(x:Keyed×Nat)=>a.setIfInBounds (q+x.2) x.1) arr).size=arr.size/\∀ i,((l.zipIdx k).foldl (fun (a:Array Keyed)(x:Keyed×Nat)=>a.setIfInBounds (q+x.2) x.1) arr)[i]? = if q+k<=i/\i<q+k+l.length then l[i-(q+k)]? else arr[i]?:=by
 intro l
 induction l with
 | nil =>
  intro k arr h;refine⟨rfl,fun i=>?_⟩;rw[Ed (by simp only[List.length_nil];omega)];rfl
 | cons x r ih =>
  intro k arr h;rw[EO]at h;rw[List.zipIdx_cons,List.foldl_cons];dsimp only;have hs:(arr.setIfInBounds (q+k) x).size=arr.size:=Array.size_setIfInBounds;obtain⟨h1,h2⟩:=ih (k+1) (arr.setIfInBounds (q+k) x) (by rw[hs];omega);refine⟨h1.trans hs,fun i=>?_⟩;rw[h2 i,EO]
  by_cases c:q+(k+1)<=i/\i<q+(k+1)+r.length
  ·rw[Ee c,Ee (by omega),show i-(q+k)=(i-(q+(k+1)))+1 by omega,List.getElem?_cons_succ]
  ·rw[Ed c]
   by_cases e:i=q+k
   ·rw[Ee (by omega),e,FU,List.getElem?_cons_zero,Array.getElem?_setIfInBounds_self_of_lt (by omega)]
   ·rw[Ed (by omega),Array.getElem?_setIfInBounds_ne (fun z=>e z.symm)]
theorem p8 {q:Nat}{m arr:Array Keyed}(h:q+m.size<=arr.size)(i:Nat):(back q m arr)[i]? = if q<=i/\i<q+m.size then m[i-q]? else arr[i]?:=by
 have:=(x8 q m.toList 0 arr (by simpa using h)).2 i;simpa [back] using this
theorem zN {q:Nat}{m arr:Array Keyed}(h:q+m.size<=arr.size)(i:Nat):el (back q m arr) i=if q<=i/\i<q+m.size then el m (i-q) else el arr i:=by
 have:=p8 h i
 by_cases c:q<=i/\i<q+m.size
 ·rw[Ee c]at this ⊢;exact eV this
 ·rw[Ed c]at this ⊢;exact eV this
theorem xc {q:Nat}{m arr:Array Keyed}(h:q+m.size<=arr.size)(p:m.toList.Perm ((arr.toList.drop q).take m.size)):(back q m arr).Perm arr:=by
 rw[Array.perm_iff_toList_perm]
 have e:(back q m arr).toList=arr.toList.take q++(m.toList++arr.toList.drop (q+m.size)):=by
  apply List.ext_getElem?
  intro i;rw[Array.getElem?_toList,p8 h]
  by_cases c1:i<q
  ·rw[Ed (by omega),List.getElem?_append_left (by simp;omega),List.getElem?_take,Ee c1,Array.getElem?_toList]
  ·rw[List.getElem?_append_right (by simp;omega),show (arr.toList.take q).length=q by simp;omega]
   by_cases c2:i<q+m.size
   ·rw[Ee (by omega),List.getElem?_append_left (by simp;omega),Array.getElem?_toList]
   ·rw[Ed (by omega),List.getElem?_append_right (by simp;omega),List.getElem?_drop,Array.getElem?_toList,EJ]
    congr 1
    omega
 rw[e];refine List.Perm.trans ((p.append_right _).append_left _) (List.Perm.of_eq ?_);rw[<-List.drop_drop,Fj,Fj]
theorem Ay {a:Array Keyed}{p q i:Nat}(h:p+i<q)(hq:q<=a.size):el (a.extract p q) i=el a (p+i):=by
 refine eV ?_;rw[Array.getElem?_extract];rw[Ee (by omega)]
theorem wM {a:Array Keyed}{p q:Nat}(hq:q<=a.size):(a.extract p q).size=q-p:=by
 rw[Array.size_extract];omega
section
variable {P:Program}{w:World}{A:Around}{E:Value->Shared->Prop}{s:Shared}{κ:SortKind}{a0:Array Keyed}{lt:Keyed->Keyed->Bool}{st:SortSt}
theorem BI (O:Ord P w A s κ a0 lt)(B:dc κ a0 st){p q r:Nat}(h1:p<q)(h2:q<r)(h3:r<=a0.size)(u1:Up lt (arrOf st) p q)(u2:Up lt (arrOf st) q r)(g0:lt (el (arrOf st) q) (el (arrOf st) p)=true)(gl:lt (el (arrOf st) (r-1)) (el (arrOf st) (q-1))=true) :
  sw a0 lt ((arrOf st).extract p q) ((arrOf st).extract q r):=by
 have hz:=B.sz;have s1:((arrOf st).extract p q).size=q-p:=wM (by omega);have s2:((arrOf st).extract q r).size=r-q:=wM (by omega);have e1:∀ i,i<q-p->el ((arrOf st).extract p q) i=el (arrOf st) (p+i):=fun i hi=>Ay (by omega) (by omega);have e2:∀ i,i<r-q->el ((arrOf st).extract q r) i=el (arrOf st) (q+i):=fun i hi=>Ay (by omega) (by omega);refine⟨fun i hi=>?_,fun i hi=>?_,fun i j hi hj=>?_,fun i j _ hij hj=>?_,fun i j _ hij hj=>?_,by omega,by omega,?_,?_⟩
 ·rw[s1]at hi;rw[e1 i hi];exact B.mem (by omega)
 ·rw[s2]at hi;rw[e2 i hi];exact B.mem (by omega)
 ·rw[s1]at hi;rw[s2]at hj;rw[e1 i hi,e2 j hj];exact B.ne O (by omega) (by omega) (by omega)
 ·rw[s1]at hj;rw[e1 i (by omega),e1 j hj];exact u1 _ _ (by omega) (by omega) (by omega)
 ·rw[s2]at hj;rw[e2 i (by omega),e2 j hj];exact u2 _ _ (by omega) (by omega) (by omega)
 ·rw[e1 0 (by omega),e2 0 (by omega)];exact g0
 ·rw[s1,s2,e1 _ (by omega),e2 _ (by omega),show q+(r-q-1)=r-1 by omega,show p+(q-p-1)=q-1 by omega];exact gl
theorem BO {st':SortSt}{Q:PUnit->SortSt->Prop}(h:Q ⟨⟩ st'):wpS (model P w) A E s (set st':StateT SortSt Sem PUnit) Q st:=by
 unfold wpS;rw[StateT.run_set];exact Et ⟨rfl,h⟩
theorem D0 (O:Ord P w A s κ a0 lt)(B:dc κ a0 st){sa na nb k l:Nat}(hk:k<na)(hl:0<l)(hl2:l<=nb)(hz:sa+na+nb<=a0.size)(u1:Up lt (arrOf st) sa (sa+na))(u2:Up lt (arrOf st) (sa+na) (sa+na+nb))
  (q1:∀ i,sa<=i->i<sa+k->lt (el (arrOf st) i) (el (arrOf st) (sa+na))=true) (q2:∀ i,sa+na+l<=i->i<sa+na+nb->lt (el (arrOf st) (sa+na-1)) (el (arrOf st) i)=true) {m:Array Keyed}
  (F:Fn (fun x y=>lt x y=true) (((arrOf st).extract (sa+k) (sa+na)).toList++((arrOf st).extract (sa+na) (sa+na+l)).toList) m.toList) :
  (back (sa+k) m (arrOf st)).Perm a0/\Up lt (back (sa+k) m (arrOf st)) sa (sa+(na+nb))/\vN (arrOf st) (back (sa+k) m (arrOf st)) sa (sa+(na+nb)):=by
 have hs:=B.sz
 have hm:m.size=na-k+l:=by
  have:=F.1.length_eq;rw[Ew,EJ,EJ,EJ,wM (by omega),wM (by omega)]at this;omega
 have hb:sa+k+m.size<=(arrOf st).size:=by omega
 have eT:((arrOf st).extract (sa+k) (sa+na)).toList++((arrOf st).extract (sa+na) (sa+na+l)).toList=((arrOf st).toList.drop (sa+k)).take m.size:=by
  rw[FG,FG,Fq,Fq,show sa+na-(sa+k)=na-k by omega,show sa+na+l-(sa+na)=l by omega,hm,List.take_add,List.drop_drop,show sa+k+(na-k)=sa+na by omega]
 have eb:=zN hb;have p:=xc hb (F.1.trans (List.Perm.of_eq eT))
 have mid:∀ i,i<m.size->∃ j,sa+k<=j/\j<sa+na+l/\el m i=el (arrOf st) j:=fun i hi=>by
  have h1:el m i∈m.toList:=F1.mpr (yj hi);rcases EB.mp (F.1.mem_iff.mp h1) with z | z
  ·rw[show sa+na=sa+k+(na-k) by omega]at z
   obtain⟨j,j1,_,j3⟩:=rk z;exact⟨_,by omega,by omega,j3⟩
  ·obtain⟨j,j1,_,j3⟩:=rk z
   exact⟨_,by omega,by omega,j3⟩
 have lo:∀ i j,sa<=i->i<sa+k->sa+k<=j->j<sa+na+nb->lt (el (arrOf st) i) (el (arrOf st) j)=true:=fun i j i1 i2 j1 j2=>by
  by_cases c:j<sa+na
  ·exact u1 i j i1 (by omega) c
  ·by_cases c2:j=sa+na
   ·rw[c2];exact q1 i i1 i2
   ·exact O.tr _ _ _ (q1 i i1 i2) (u2 _ _ (by omega) (by omega) (by omega))
 have hi:∀ i j,sa+k<=i->i<sa+na+l->sa+na+l<=j->j<sa+na+nb->lt (el (arrOf st) i) (el (arrOf st) j)=true:=fun i j i1 i2 j1 j2=>by
  by_cases c:sa+na<=i
  ·exact u2 i j c (by omega) j2
  ·by_cases c2:i=sa+na-1
   ·rw[c2];exact q2 j j1 j2
   ·exact O.tr _ _ _ (u1 i (sa+na-1) (by omega) (by omega) (by omega)) (q2 j j1 j2)
 have um:∀ i j,i<j->j<m.size->lt (el m i) (el m j)=true:=fun i j hij hj=>by
  have h1:=(FC.mp F.2) i j (by rw[EJ];omega) (by rw[EJ];omega) hij
  have h2:i<m.size:=by omega
  unfold el;simpa [Array.getD,h2,hj] using h1
 refine⟨p.trans B.pm,fun i j i1 hij j1=>?_,fun i hi=>?_⟩
 ·rw[eb,eb]
  by_cases c1:i<sa+k
  ·rw[Ed (by omega)]
   by_cases c2:j<sa+k
   ·rw[Ed (by omega)];exact u1 i j i1 hij (by omega)
   ·by_cases c3:j<sa+k+m.size
    ·rw[Ee (by omega)]
     obtain⟨q,z1,z2,z3⟩:=mid (j-(sa+k)) (by omega);rw[z3];exact lo i q i1 c1 z1 (by omega)
    ·rw[Ed (by omega)]
     exact lo i j i1 c1 (by omega) (by omega)
  ·by_cases c3:i<sa+k+m.size
   ·rw[Ee (by omega)]
    by_cases c4:j<sa+k+m.size
    ·rw[Ee (by omega)]
     exact um _ _ (by omega) (by omega)
    ·rw[Ed (by omega)]
     obtain⟨q,z1,z2,z3⟩:=mid (i-(sa+k)) (by omega);rw[z3];exact hi q j z1 z2 (by omega) (by omega)
   ·rw[Ed (by omega),Ed (by omega)]
    exact u2 i j (by omega) hij (by omega)
 ·rw[eb,Ed (by omega)]
theorem zq (O:Ord P w A s κ a0 lt)(B:dc κ a0 st){i sa na sb nb pw pq:Nat}(h1:(pendingOf st)[i]? = some (sa,na,pw))(h2:(pendingOf st)[i+1]? = some (sb,nb,pq))(eb:sb=sa+na)(ha:1<=na)(hb:1<=nb)(hz:sb+nb<=a0.size)
  (u1:Up lt (arrOf st) sa sb) (u2:Up lt (arrOf st) sb (sb+nb)) {Q:Bool->SortSt->Prop}
  (fin:∀ st',dc κ a0 st'->pendingOf st'=((pendingOf st).setIfInBounds i (sa,na+nb,pw)).eraseIdxIfInBounds (i+1)->Up lt (arrOf st') sa (sa+(na+nb))->vN (arrOf st) (arrOf st') sa (sa+(na+nb))->Q true st'):wpS (model P w) A E s (mergeAt' i) Q st:=by
 subst eb;have hs:=B.sz;unfold mergeAt';refine Es (wpS_get ?_);have h1':=h1;have h2':=h2;unfold pendingOf at h1' h2';rw[h1',h2'];dsimp only;refine Es (BO ?_)
 let st1:SortSt:=SortSt.mk' (kindOf st) (arrOf st) (((pendingOf st).setIfInBounds i (sa,na+nb,pw)).eraseIdxIfInBounds (i+1)) (gallopOf st) (failedOf st)
 have B1:dc κ a0 st1:=⟨B.pm,B.fl,B.kd⟩
 show wpS (model P w) A E s _ Q st1
 refine Es ?_;refine mJ (xs:=arrOf st) (i:=sa+na) (by omega) ?_;refine Es ?_;refine lQ (xs:=arrOf st) (b:=sa) (n:=na) (hint:=0) O B1.kd (B.mem (by omega)) (by omega) (fun i hi=>B.mem (by omega)) u1 (by omega) fun k k1 k2 k3=>?_;dsimp only
 have q1:∀ i,sa<=i->i<sa+k->lt (el (arrOf st) i) (el (arrOf st) (sa+na))=true:=fun i i1 i2=>by
  have:=k2 (i-sa) (by omega);unfold Bf at this;rw[Ed Ej,Gc,show sa+(i-sa)=i by omega]at this;exact O.not (B.mem (by omega)) (B.mem (by omega)) (B.ne O (by omega) (by omega) (by omega)) this
 have whole:lt (el (arrOf st) (sa+na-1)) (el (arrOf st) (sa+na))=true->Up lt (arrOf st) sa (sa+(na+nb)):=fun g i j i1 hij j1=>by
  by_cases c1:j<sa+na
  ·exact u1 i j i1 hij c1
  ·by_cases c2:sa+na<=i
   ·exact u2 i j c2 hij (by omega)
   ·have z:lt (el (arrOf st) i) (el (arrOf st) (sa+na))=true:=by
     by_cases c3:i=sa+na-1
     ·rw[c3];exact g
     ·exact O.tr _ _ _ (u1 i (sa+na-1) i1 (by omega) (by omega)) g
    by_cases c4:j=sa+na
    ·rw[c4];exact z
    ·exact O.tr _ _ _ z (u2 _ _ (by omega) (by omega) (by omega))
 by_cases e1:na-k=0
 ·rw[Ee (by simpa using e1)]
  exact Eo (fin st1 B1 rfl (whole (q1 _ (by omega) (by omega))) (vN.refl _ _ _))
 rw[Ed (by simpa using e1)]
 have q3:lt (el (arrOf st) (sa+na)) (el (arrOf st) (sa+k))=true:=by
  have:=k3 k (Eh _) (by omega);unfold Bf at this
  rwa [Ed Ej,Bool.not_eq_false']at this
 refine Es ?_;refine mJ (xs:=arrOf st) (i:=sa+k+(na-k)-1) (by omega) ?_;rw[show sa+k+(na-k)-1=sa+na-1 by omega];refine Es ?_;refine lQ (xs:=arrOf st) (b:=sa+na) (n:=nb) (hint:=nb-1) O B1.kd (B.mem (by omega)) (by omega) (fun i hi=>B.mem (by omega)) u2 (by omega) fun l l1 l2 l3=>?_;dsimp only
 have q2:∀ i,sa+na+l<=i->i<sa+na+nb->lt (el (arrOf st) (sa+na-1)) (el (arrOf st) i)=true:=fun i i1 i2=>by
  have:=l3 (i-(sa+na)) (by omega) (by omega);unfold Bf at this;rw[Ee rfl,show sa+na+(i-(sa+na))=i by omega]at this;exact O.not (B.mem (by omega)) (B.mem (by omega)) (B.ne O (by omega) (by omega) (by omega)) this
 by_cases e2:l=0
 ·rw[Ee (by simpa using e2)]
  exact Eo (fin st1 B1 rfl (whole (q2 _ (by omega) (by omega))) (vN.refl _ _ _))
 rw[Ed (by simpa using e2)]
 have q4:lt (el (arrOf st) (sa+na+l-1)) (el (arrOf st) (sa+na-1))=true:=by
  have:=l2 (l-1) (by omega);unfold Bf at this
  rwa [Ee rfl,show sa+na+(l-1)=sa+na+l-1 by omega]at this
 have W:sw a0 lt ((arrOf st).extract (sa+k) (sa+na)) ((arrOf st).extract (sa+na) (sa+na+l)):=BI O B (by omega) (by omega) (by omega) (fun i j h1 h2 h3=>u1 i j (by omega) h2 h3) (fun i j h1 h2 h3=>u2 i j h1 h2 (by omega)) q3 q4
 have last:∀ (m:Array Keyed)(st2:SortSt),aF st1 st2->Fn (fun x y=>lt x y=true) (((arrOf st).extract (sa+k) (sa+na)).toList++((arrOf st).extract (sa+na) (sa+na+l)).toList) m.toList ->
   wpS (model P w) A E s (do modify (fun s=>setArr s (back (sa+k) m (arrOf s)));return (failedOf (<-get)).isNone) Q st2:=fun m st2 S F=>by
  refine Es (wpS_modify ?_);refine Es (wpS_get ?_);have hf:failedOf st2=none:=S.2.1.trans B1.fl;refine Eo ?_
  show Q (failedOf st2).isNone _
  rw[hf];obtain⟨z1,z2,z3⟩:=D0 O B (sa:=sa) (na:=na) (nb:=nb) (k:=k) (l:=l) (by omega) (by omega) l1 hz u1 u2 q1 q2 F;have ea:arrOf st2=arrOf st:=S.1;refine fin _ ⟨?_,hf,S.2.2.1.trans B1.kd⟩ S.2.2.2 ?_ ?_
  ·show (back (sa+k) m (arrOf st2)).Perm a0
   rw[ea];exact z1
  ·show Up lt (back (sa+k) m (arrOf st2)) _ _
   rw[ea];exact z2
  ·show vN _ (back (sa+k) m (arrOf st2)) _ _
   rw[ea];exact z3
 by_cases e3:na-k<=l
 ·rw[Ee e3]
  refine Es ?_;exact CS O B1.kd W fun m st2 S F=>last m st2 S F
 ·rw[Ed e3]
  refine Es ?_;exact CQ O B1.kd W fun m st2 S F=>last m st2 S F
end
def Ch (lt:Keyed->Keyed->Bool)(xs:Array Keyed):Nat->List (Nat×Nat×Nat)->Nat->Prop
 | f,[],u=>f=u
 | f,t::r,u=>t.1=f/\1<=t.2.1/\Up lt xs f (f+t.2.1)/\Ch lt xs (f+t.2.1) r u
section
variable {lt:Keyed->Keyed->Bool}{xs ys:Array Keyed}
theorem og:∀ {l1 l2:List (Nat×Nat×Nat)}{f u:Nat},Ch lt xs f (l1++l2) u↔∃ m,Ch lt xs f l1 m/\Ch lt xs m l2 u
 | [],l2,f,u=>⟨fun h=>⟨f,rfl,h⟩,fun ⟨m,e,h⟩=>by cases e;exact h⟩
 | t::r,l2,f,u=>by
  constructor
  ·rintro⟨a1,a2,a3,a4⟩
   obtain⟨m,m1,m2⟩:=og.mp a4;exact⟨m,⟨a1,a2,a3,m1⟩,m2⟩
  ·rintro⟨m,⟨a1,a2,a3,a4⟩,m2⟩
   exact⟨a1,a2,a3,og.mpr ⟨m,a4,m2⟩⟩
theorem sI:∀ {l:List (Nat×Nat×Nat)}{f u:Nat},Ch lt xs f l u->f+l.length<=u
 | [],f,u,h=>by cases h;exact Eh _
 | t::r,f,u,⟨_,a2,_,a4⟩=>by have:=sI a4;rw[EO];omega
theorem oh:∀ {l:List (Nat×Nat×Nat)}{f u:Nat},(∀ i,f<=i->i<u->el ys i=el xs i)->Ch lt xs f l u->Ch lt ys f l u
 | [],f,u,_,h=>h
 | t::r,f,u,e,⟨a1,a2,a3,a4⟩=>by
  have z:=sI a4;refine⟨a1,a2,fun i j i1 hij j1=>?_,oh (fun i i1 i2=>e i (by omega) i2) a4⟩;rw[e i i1 (by omega),e j (by omega) (by omega)];exact a3 i j i1 hij j1
theorem x9 {g:Nat×Nat×Nat->Nat×Nat×Nat}(hg:∀ t,(g t).1=t.1/\(g t).2.1=t.2.1):∀ {l:List (Nat×Nat×Nat)}{j f u:Nat},Ch lt xs f l u->Ch lt xs f (l.modify j g) u
 | [],j,f,u,h=>by cases j<;>exact h
 | t::r,0,f,u,⟨a1,a2,a3,a4⟩=>by
  rw[List.modify_zero_cons];exact⟨(hg t).1.trans a1,by rw[(hg t).2];exact a2,by rw[(hg t).2];exact a3,by rw[(hg t).2];exact a4⟩
 | t::r,j+1,f,u,⟨a1,a2,a3,a4⟩=>by
  rw[List.modify_succ_cons];exact⟨a1,a2,a3,x9 hg a4⟩
theorem Bv {α:Type}{l:List α}{i:Nat}(h:i+1<l.length):∃ l1 x y l2,l=l1++x::y::l2/\l1.length=i:=by
 refine⟨l.take i,l[i],l[i+1],l.drop (i+1+1),?_,by rw[E8];omega⟩;rw[List.getElem_cons_drop,List.getElem_cons_drop,Fj]
end
theorem Bb {c:Prop} [Decidable c] {p:Nat}(h:1<p):(if c then p-2-1 else p-2)+1<p:=by split<;>omega
theorem Bt {P:Nat->SortSt->Prop}{G:Prop}(C:Nat->SortSt->Prop)(main:(∀ n t,C n t->P n t)->G)(key:∀ n t,C n t->P n t):G:=main key
section
variable {P:Program}{w:World}{A:Around}{E:Value->Shared->Prop}{s:Shared}{κ:SortKind}{a0:Array Keyed}{lt:Keyed->Keyed->Bool}{st:SortSt}
theorem AJ (O:Ord P w A s κ a0 lt)(B:dc κ a0 st){i u:Nat}(hu:u<=a0.size)(C:Ch lt (arrOf st) 0 (pendingOf st).toList u)(hi:i+1<(pendingOf st).size){Q:Bool->SortSt->Prop}
  (fin:∀ st',dc κ a0 st'->Ch lt (arrOf st') 0 (pendingOf st').toList u->(pendingOf st').size+1=(pendingOf st).size->(∀ i,u<=i->el (arrOf st') i=el (arrOf st) i)->Q true st'):wpS (model P w) A E s (mergeAt' i) Q st:=by
 obtain⟨l1,⟨sa,na,pw⟩,⟨sb,nb,pq⟩,l2,e,el⟩:=Bv (l:=(pendingOf st).toList) (i:=i) (by simpa using hi);rw[e]at C;obtain⟨m,c1,a1,a2,a3,b1,b2,b3,b4⟩:=og.mp C;dsimp only at a1 a2 a3 b1 b2 b3 b4;subst a1;subst b1;have zl:=sI c1;have zr:=sI b4
 have g1:(pendingOf st)[i]? = some (sa,na,pw):=by
  rw[<-Array.getElem?_toList,e,List.getElem?_append_right (by omega),el,FU];rfl
 have g2:(pendingOf st)[i+1]? = some (sa+na,nb,pq):=by
  rw[<-Array.getElem?_toList,e,List.getElem?_append_right (by omega),el,show i+1-i=1 by omega];rfl
 refine zq O B g1 g2 rfl a2 b2 (by omega) a3 b3 fun st' B' p' u' o'=>?_
 have ep:(pendingOf st').toList=l1++(sa,na+nb,pw)::l2:=by
  rw[p',Array.toList_eraseIdxIfInBounds,Array.toList_setIfInBounds,e];rw[List.set_append_right _ _ (by omega),el,FU,List.set_cons_zero,List.eraseIdx_append_of_length_le (by omega),el,show i+1-i=1 by omega];rfl
 refine fin st' B' ?_ ?_ fun j hj=>?_
 ·rw[ep]
  refine og.mpr ⟨sa,oh (fun j j1 j2=>o' j (by omega)) c1,rfl,by show 1<=na+nb;omega,u',?_⟩
  show Ch lt _ (sa+(na+nb)) l2 u
  rw[<-Nat.add_assoc];exact oh (fun j j1 j2=>o' j (by omega)) b4
 ·have q1:=EM List.length ep
  have q2:=EM List.length e;simp only[EJ,Ew,EO]at q1 q2;omega
 ·exact o' j (by omega)
theorem wp_runs (O:Ord P w A s κ a0 lt)(B:dc κ a0 st)(hp:pendingOf st = #[])(h1:1<=a0.size){Q:Unit->SortSt->Prop}
  (fin:∀ st',dc κ a0 st'->Up lt (arrOf st') 0 a0.size->Q () st'):wpS (model P w) A E s sortRuns' Q st:=by
 rw[sortRuns'_eq];refine Es (wpS_get ?_);dsimp only;simp only[B.sz];generalize minRun' a0.size a0.size 0=mr
 refine Es (FF (Fb (I:=fun x c st'=>∃ lo,c=(none,lo)/\x<=lo/\lo<=a0.size/\dc κ a0 st'/\Ch lt (arrOf st') 0 (pendingOf st').toList lo)
  (Q:=fun c st'=>c=(none,a0.size)/\dc κ a0 st'/\Ch lt (arrOf st') 0 (pendingOf st').toList a0.size) ?step ?fin1 ⟨0,rfl,by omega,by omega,B,by rw[hp];rfl⟩) ?post)
 case fin1 =>
  rintro c st' ⟨lo,rfl,x1,x2,B',C'⟩
  have e:lo=a0.size:=by omega
  subst e;exact⟨rfl,B',C'⟩
 case post =>
  rintro c st' ⟨rfl,B',C'⟩;dsimp only
  refine Es (FF (Fb (I:=fun x c st'=>c=(none,())/\dc κ a0 st'/\Ch lt (arrOf st') 0 (pendingOf st').toList a0.size/\(pendingOf st').size+x<=a0.size)
   (Q:=fun c st'=>c=(none,())/\dc κ a0 st'/\Ch lt (arrOf st') 0 (pendingOf st').toList a0.size/\(pendingOf st').size<=1) ?step2 ?fin2 ⟨rfl,B',C',by have:=sI C';simp only[EJ]at this;omega⟩) ?post2)
  case fin2 =>
   rintro c st' ⟨rfl,B',C',z⟩;exact⟨rfl,B',C',by omega⟩
  case post2 =>
   rintro c st' ⟨rfl,B',C',z⟩;refine Eo (fin st' B' ?_)
   have q1:(pendingOf st').toList.length<=1:=by simpa using z
   match hl:(pendingOf st').toList,q1 with
   | [],_=>rw[hl]at C';have:0=a0.size:=C';omega
   | [t],_ =>
    rw[hl]at C';obtain⟨a1,a2,a3,a4⟩:=C';have a5:0+t.2.1=a0.size:=a4;rw[a5]at a3;exact a3
  case step2 =>
   rintro x c st' _ hx ⟨rfl,B',C',z⟩;refine Es (wpS_get ?_)
   by_cases g:(pendingOf st').size<=1
   ·rw[Ee g]
    exact Eo ⟨rfl,B',C',g⟩
   rw[Ed g];refine Es (AJ O B' (Eh _) C' ?_ fun st2 B2 C2 z2 _=>?_)
   ·exact Bb (by omega)
   ·simp only[Bool.not_true,FV,if_false]
    exact Eo ⟨rfl,B2,C2,by omega⟩
 case step =>
  rintro x c st' _ hx ⟨lo,rfl,x1,x2,B',C'⟩;dsimp only
  by_cases g:lo>=a0.size
  ·rw[Ee g]
   have e:lo=a0.size:=by omega
   subst e;exact Eo ⟨rfl,B',C'⟩
  rw[Ed g]
  have push:∀ (n:Nat)(st2:SortSt),1<=n->lo+n<=a0.size->dc κ a0 st2->Ch lt (arrOf st2) 0 (pendingOf st2).toList lo->Up lt (arrOf st2) lo (lo+n) ->
    ∃ q,(none,lo+n)=((none,q):Option Unit×Nat)/\x+1<=q/\q<=a0.size/\dc κ a0 (setPending st2 ((pendingOf st2).push (lo,n,0)))/\Ch lt (arrOf (setPending st2 ((pendingOf st2).push (lo,n,0)))) 0 (pendingOf (setPending st2 ((pendingOf st2).push (lo,n,0)))).toList q:=by
   intro n st2 n1 n2 B2 C2 u2;refine⟨lo+n,rfl,by omega,n2,⟨B2.pm,B2.fl,B2.kd⟩,?_⟩
   show Ch lt (arrOf st2) 0 ((pendingOf st2).push (lo,n,0)).toList (lo+n)
   rw[Ge];exact og.mpr ⟨lo,C2,rfl,n1,u2,rfl⟩
  refine Es (zp O B' (by omega) (by omega) fun n st2 B2 R2 n1 n2 u2 o2=>?_)
  have C2:Ch lt (arrOf st2) 0 (pendingOf st2).toList lo:=by
   rw[R2.1];exact oh (fun i i1 i2=>o2 i (by omega)) C'
  dsimp only
  apply Bt (fun n st2=>1<=n/\lo+n<=a0.size/\dc κ a0 st2/\Ch lt (arrOf st2) 0 (pendingOf st2).toList lo/\Up lt (arrOf st2) lo (lo+n))
  ·intro rest
   by_cases g1:n<mr
   ·rw[Ee g1]
    refine Es (wpS_lift (wpAny_rule ⟨rfl,?_⟩));refine Es (BL O B2 n1 (by omega) (by omega) u2 fun st5 B5 R5 u5 o5=>?_);simp only[Bool.not_true,FV,if_false]
    have C5:Ch lt (arrOf st5) 0 (pendingOf st5).toList lo:=by
     rw[R5.1];exact oh (fun i i1 i2=>o5 i (by omega)) C2
    have m1:1<=min (a0.size-lo) mr/\lo+min (a0.size-lo) mr<=a0.size:=⟨by omega,by omega⟩;generalize min (a0.size-lo) mr=n5 at m1 u5 ⊢;exact rest n5 st5 ⟨m1.1,m1.2,B5,C5,u5⟩
   ·rw[Ed g1]
    exact rest n st2 ⟨n1,by omega,B2,C2,u2⟩
  clear B2 C2 u2 n1 n2 R2 o2;rintro n st2 ⟨n1,n2,B2,C2,u2⟩;refine Es (wpS_get ?_)
  cases hb:(pendingOf st2).back? with
  | none =>
   dsimp only;exact Es (wpS_modify (Eo (push n st2 n1 n2 B2 C2 u2)))
  | some t =>
   obtain⟨t1,t2,t3⟩:=t;dsimp only
   refine Es (FF (Fb (I:=fun x c st'=>c=(none,())/\dc κ a0 st'/\Ch lt (arrOf st') 0 (pendingOf st').toList lo/\Up lt (arrOf st') lo (lo+n))
    (Q:=fun c st'=>c=(none,())/\dc κ a0 st'/\Ch lt (arrOf st') 0 (pendingOf st').toList lo/\Up lt (arrOf st') lo (lo+n)) ?stepx (fun _ _ h=>h) ⟨rfl,B2,C2,u2⟩) ?postx)
   case postx =>
    rintro c st3 ⟨rfl,B3,C3,u3⟩;dsimp only;refine Es (wpS_modify (Es (wpS_modify (Eo (push n (setPending st3 _) n1 n2 ⟨B3.pm,B3.fl,B3.kd⟩ ?_ u3)))))
    show Ch lt (arrOf st3) 0 (Array.modify (pendingOf st3) _ _).toList lo
    rw[Array.toList_modify];refine x9 ?_ C3;exact fun t=>⟨rfl,rfl⟩
   case stepx =>
    rintro y c st3 _ hy ⟨rfl,B3,C3,u3⟩;refine Es (wpS_get ?_)
    by_cases g2:(pendingOf st3).size>1
    ·rw[Ee g2]
     cases hq:(pendingOf st3)[(pendingOf st3).size-2]? with
     | none=>exact Eo ⟨rfl,B3,C3,u3⟩
     | some t =>
      obtain⟨v1,v2,v3⟩:=t;dsimp only
      by_cases g3:v3<=power' a0.size (2*t1+t2) (2*t1+t2+t2+n) a0.size
      ·rw[Ee g3]
       exact Eo ⟨rfl,B3,C3,u3⟩
      rw[Ed g3];refine Es (AJ O B3 (by omega) C3 (by omega) fun st4 B4 C4 z4 o4=>?_);simp only[Bool.not_true,FV,if_false];refine Eo ⟨rfl,B4,C4,fun i j i1 hij j1=>?_⟩;rw[o4 i i1,o4 j (by omega)];exact u3 i j i1 hij j1
    ·rw[Ed g2]
     exact Eo ⟨rfl,B3,C3,u3⟩
end
end Tm
namespace Qs
open PySem PySem.W PyProof.Rows
theorem xO {α β:Type}{f:α->β}{l m:List β}(h:l.Perm m):∀ {r:List α},m=r.map f->∃ ix:List α,ix.Perm r/\l=ix.map f:=by
 induction h with
 | nil =>
  intro r e
  have:r=[]:=by simpa using e.symm
  exact⟨[],by rw[this],rfl⟩
 | @cons x l1 l2 _ ih =>
  intro r e
  match r,e with
  | a::r',e =>
   rw[EF]at e;injection e with e1 e2;obtain⟨ix,p,q⟩:=ih e2;exact⟨a::ix,p.cons a,by rw[EF,<-e1,<-q]⟩
 | swap x y l =>
  intro r e
  match r,e with
  | [a],e=>simp at e
  | a::b::r',e =>
   rw[EF,EF]at e;injection e with e1 e2;injection e2 with e2 e3;exact⟨b::a::r',List.Perm.swap a b r',by rw[EF,EF,<-e1,<-e2,<-e3]⟩
 | trans _ _ ih1 ih2 =>
  intro r e;obtain⟨ix2,p2,q2⟩:=ih2 e;obtain⟨ix1,p1,q1⟩:=ih1 q2;exact⟨ix1,p1.trans p2,q1⟩
theorem uw {α:Type}:∀ l:List α,l.zip l=l.map fun v=>(v,v)
 | []=>rfl
 | a::l=>by rw[List.zip_cons_cons,uw l,EF]
open Classical in
noncomputable def dec (h:Heap) (v:Value):Int×Int:=if z:∃ p,AZ h v p then choose z else (0,0)
end Qs
namespace Wz
open PySem L2
theorem dR {α β:Type}{R:α->β->Prop}:∀ {as:List α}{bs:List β}{i:Nat}{b:β},Paired R as bs->bs[i]? = some b->∃ a,as[i]? = some a/\R a b
 | _,_,_,_,.nil,h=>by simp at h
 | a::as,c::bs,0,b,.cons r _,h=>by cases h;exact⟨a,rfl,r⟩
 | a::as,c::bs,i+1,b,.cons _ t,h=>dR (i:=i) t h
theorem Ce {n:Nat}{v:V}{σ:St}{H:Hp}{Q:St->Hp->Prop}(h:Q (σ.set n (some v)) H):ky n v σ H Q:=h
end Wz
namespace Qs
open PySem PySem.W PyProof.Rows
abbrev Q4:=Int×Int×Int×Int
def q0:Q4:=(0,0,0,0)
def ltQ (p q:Q4):Bool:=decide (p.1<q.1\/(p.1=q.1/\(p.2.1<q.2.1\/(p.2.1=q.2.1/\(p.2.2.1<q.2.2.1\/(p.2.2.1=q.2.2.1/\p.2.2.2<q.2.2.2))))))
theorem ltQ_irr (p:Q4):ltQ p p=false:=by unfold ltQ;exact EA (by omega)
theorem ltQ_tr {p q r:Q4}(h1:ltQ p q=true)(h2:ltQ q r=true):ltQ p r=true:=by
 unfold ltQ at *;have h1:=FH h1;have h2:=FH h2;exact EC (by omega)
theorem z7 {p q:Q4}(h:p≠q):ltQ p q=true\/ltQ q p=true:=by
 have n:¬ (p.1=q.1/\p.2.1=q.2.1/\p.2.2.1=q.2.2.1/\p.2.2.2=q.2.2.2):=fun ⟨a,b,c,d⟩=>h (FZ a (FZ b (FZ c d)));unfold ltQ;rw[decide_eq_true_eq,decide_eq_true_eq];omega
def QAt (h:Heap)(v:Value)(p:Q4):Prop:=∃ (b:Addr)(o:Obj)(n:Nat)(t1 t2 t3 t4:Tok),v=.ref b/\h.get? b=some o/\o.cls=.type "tuple"/\o.data=.seq #[.int p.1 t1,.int p.2.1 t2,.int p.2.2.1 t3,.int p.2.2.2 t4] n
theorem QAt.uniq {h:Heap}{v:Value}{p q:Q4}(a:QAt h v p)(b:QAt h v q):p=q:=by
 obtain⟨b1,o1,n1,_,_,_,_,rfl,h1,_,d1⟩:=a;obtain⟨b2,o2,n2,_,_,_,_,e,h2,_,d2⟩:=b;injection e with e;subst e;rw[h1]at h2;injection h2 with h2;subst h2;rw[d1]at d2;injection d2 with d2 _;have d3:=EM Array.toList d2;simp only[List.cons.injEq,Value.int.injEq]at d3;exact FZ d3.1.1 (FZ d3.2.1.1 (FZ d3.2.2.1.1 d3.2.2.2.1.1))
open Classical in
noncomputable def decQ (h:Heap) (v:Value):Q4:=if z:∃ p,QAt h v p then choose z else q0
theorem jn {h:Heap}{v:Value}{p:Q4}(a:QAt h v p):decQ h v=p:=by
 unfold decQ;rw[dif_pos ⟨p,a⟩];exact (FX (⟨p,a⟩:∃ p,QAt h v p)).uniq a
def qJ (vs:List Value)(ps:List Q4)(out:List Value):Prop:=∃ ix:List Nat,ix.Perm (List.range vs.length)/\out=ix.map (fun i=>vs.getD i Value.none)/\(ix.map fun i=>ps.getD i q0).Pairwise (fun a b=>ltQ a b=true)
section
variable {prog:Program}{w:World}{A:Around}{E:Value->Shared->Prop}{s:Shared}
theorem z8 {x y:Value}{p q:Q4}{Q:Bool->Shared->Prop}(hx:QAt s.heap x p)(hy:QAt s.heap y q)(h:Q (ltQ p q) s):wpAny (model prog w) A (keyLt' (tuples' true) x y) Q E s:=by
 obtain⟨b,o,n,t1,t2,t3,t4,rfl,ho,hc,hd⟩:=hx;obtain⟨b',o',n',u1,u2,u3,u4,rfl,ho',hc',hd'⟩:=hy;refine kat_lt ho hd ho' hd' ?_
 show KatLex prog w A true (decide (4<4)) Q [(.int p.1 t1,.int q.1 u1),(.int p.2.1 t2,.int q.2.1 u2),(.int p.2.2.1 t3,.int q.2.2.1 u3),(.int p.2.2.2 t4,.int q.2.2.2 u4)] 0 s
 refine kat_cons (wpAny_eqBool_int ?_)
 by_cases h1:p.1=q.1
 ·rw[show (p.1 == q.1)=true by simpa using h1]
  refine kat_yes (kat_cons (wpAny_eqBool_int ?_))
  by_cases h2:p.2.1=q.2.1
  ·rw[show (p.2.1 == q.2.1)=true by simpa using h2]
   refine kat_yes (kat_cons (wpAny_eqBool_int ?_))
   by_cases h3:p.2.2.1=q.2.2.1
   ·rw[show (p.2.2.1 == q.2.2.1)=true by simpa using h3]
    refine kat_yes (kat_cons (wpAny_eqBool_int ?_))
    by_cases h4:p.2.2.2=q.2.2.2
    ·rw[show (p.2.2.2 == q.2.2.2)=true by simpa using h4]
     refine kat_yes (kat_nil ?_)
     have e:ltQ p q=decide (4<4):=by rw[show p=q from FZ h1 (FZ h2 (FZ h3 h4)),ltQ_irr];rfl
     rw[<-e];exact h
    ·rw[show (p.2.2.2 == q.2.2.2)=false by simpa using h4]
     refine kat_no ?_
     show wpAny (model prog w) A (oneLt' false (.int p.2.2.2 t4) (.int q.2.2.2 u4)) Q _ s
     refine kat_one _ _ (wpAny_lt_int ?_)
     show Q (decide (p.2.2.2<q.2.2.2)) s
     have e:ltQ p q=decide (p.2.2.2<q.2.2.2):=by unfold ltQ;rw[decide_eq_decide];omega
     rw[<-e];exact h
   ·rw[show (p.2.2.1 == q.2.2.1)=false by simpa using h3]
    refine kat_no ?_
    show wpAny (model prog w) A (oneLt' false (.int p.2.2.1 t3) (.int q.2.2.1 u3)) Q _ s
    refine kat_one _ _ (wpAny_lt_int ?_)
    show Q (decide (p.2.2.1<q.2.2.1)) s
    have e:ltQ p q=decide (p.2.2.1<q.2.2.1):=by unfold ltQ;rw[decide_eq_decide];omega
    rw[<-e];exact h
  ·rw[show (p.2.1 == q.2.1)=false by simpa using h2]
   refine kat_no ?_
   show wpAny (model prog w) A (oneLt' false (.int p.2.1 t2) (.int q.2.1 u2)) Q _ s
   refine kat_one _ _ (wpAny_lt_int ?_)
   show Q (decide (p.2.1<q.2.1)) s
   have e:ltQ p q=decide (p.2.1<q.2.1):=by unfold ltQ;rw[decide_eq_decide];omega
   rw[<-e];exact h
 ·rw[show (p.1 == q.1)=false by simpa using h1]
  refine kat_no ?_
  show wpAny (model prog w) A (oneLt' true (.int p.1 t1) (.int q.1 u1)) Q _ s
  refine oneLt_int ?_
  have e:ltQ p q=decide (p.1<q.1):=by unfold ltQ;rw[decide_eq_decide];omega
  rw[<-e];exact h
theorem uq {h:Heap}:∀ {vs:List Value}{ps:List Q4},Paired (QAt h) vs ps->∃ fs:List Value,KatTups h vs fs/\fs.length=vs.length/\∀ v∈fs,∃ i t,v=Value.int i t
 | [],[],.nil=>⟨[],KatTups.nil,rfl,fun v h=>by cases h⟩
 | v::vs,p::ps,.cons hv r=>by
  obtain⟨fs,k,hl,hi⟩:=uq r;obtain⟨b,o,n,t1,_,_,_,rfl,ho,hc,hd⟩:=hv;refine⟨.int p.1 t1::fs,KatTups.cons ho hc hd rfl k,by simp[hl],fun v hv=>?_⟩;rcases En.mp hv with z | z
  ·exact⟨_,_,z⟩
  ·exact hi v z
theorem uU {vs:List Value}{ps:List Q4}{Q:SortKind->Shared->Prop}(hp:Paired (QAt s.heap) vs ps)(h2:0<vs.length)(h:Q (tuples' true) s):wpAny (model prog w) A (keyKind' vs.toArray) Q E s:=by
 obtain⟨fs,k,hl,hi⟩:=uq hp;refine kat_kind (T:=.type "int") k (by omega) (fun v hv=>?_) (by decide) h;obtain⟨i,t,rfl⟩:=hi v hv;exact .now
theorem xT {vs:List Value}{ps:List Q4}{Q:SortSt->Shared->Prop}(hp:Paired (QAt s.heap) vs ps)(nd:ps.Nodup)(h2:2<=vs.length)
  (h:∀ st':SortSt,failedOf st'=none->(∃ out:List Value,(arrOf st').map (·.2)=out.toArray/\qJ vs ps out)->Q st' s) :
  wpAny (model prog w) A ((sortRuns').run (SortSt.mk' (tuples' true) (vs.toArray.zip vs.toArray) #[] 7 none)) (fun r s'=>Q r.2 s') E s:=by
 have hl:vs.length=ps.length:=Er hp
 let f:Nat->Keyed:=fun i=>(vs.getD i Value.none,vs.getD i Value.none)
 have ea:(vs.toArray.zip vs.toArray).toList=(List.range vs.length).map f:=by
  apply List.ext_getElem?
  intro i;rw[Array.toList_zip,uw,List.getElem?_map,List.getElem?_map]
  by_cases hi:i<vs.length
  ·rw[List.getElem?_range hi];simp[hi,f]
  ·rw[List.getElem?_eq_none (l:=List.range vs.length) (by simp;omega),List.getElem?_eq_none (by simp;omega)];rfl
 have fp:∀ i,i<vs.length->QAt s.heap (f i).1 (ps.getD i q0):=fun i hi=>mz hp i hi
 have mem:∀ {x:Keyed},x∈vs.toArray.zip vs.toArray->∃ i,i<vs.length/\x=f i:=fun {x} hx=>by
  rw[<-F1,ea]at hx;obtain⟨i,hi,e⟩:=EG.mp hx;exact⟨i,by simpa using hi,e.symm⟩
 have inj:∀ i j,i<vs.length->j<vs.length->f i=f j->i=j:=fun i j hi hj e=>by
  have e1:=fp i hi;rw[e]at e1;have e2:=e1.uniq (fp j hj);rw[hl]at hi hj
  have e3:ps.getD i q0=ps[i]:=by simp[hi]
  have e4:ps.getD j q0=ps[j]:=by simp[hj]
  rw[e3,e4]at e2;exact (List.getElem_inj nd).mp e2
 have O:Tm.Ord prog w A s (tuples' true) (vs.toArray.zip vs.toArray) (fun x y=>ltQ (decQ s.heap x.1) (decQ s.heap y.1)):=by
  refine⟨fun {x y E Q} hx hy hq=>?_,fun x=>ltQ_irr _,fun x y z=>ltQ_tr,fun x y hx hy n=>?_,?_⟩
  ·obtain⟨i,hi,rfl⟩:=mem hx
   obtain⟨j,hj,rfl⟩:=mem hy;rw[jn (fp i hi),jn (fp j hj)]at hq;exact z8 (fp i hi) (fp j hj) ⟨rfl,hq⟩
  ·obtain⟨i,hi,rfl⟩:=mem hx
   obtain⟨j,hj,rfl⟩:=mem hy;refine z7 fun e=>n ?_;rw[jn (fp i hi),jn (fp j hj)]at e;rw[hl]at hi hj
   have e3:ps.getD i q0=ps[i]:=by simp[hi]
   have e4:ps.getD j q0=ps[j]:=by simp[hj]
   rw[e3,e4]at e;rw[(List.getElem_inj nd).mp e]
  ·rw[ea]
   refine Fm.mpr ?_;rw[FC];intro i j hi hj hij e;rw[List.getElem_range,List.getElem_range]at e;have:=inj i j (by simpa using hi) (by simpa using hj) e;omega
 have CC:(vs.toArray.zip vs.toArray).size=vs.length:=by simp
 refine E4 (Tm.wp_runs (st:=SortSt.mk' (tuples' true) (vs.toArray.zip vs.toArray) #[] 7 none) O ⟨Array.Perm.refl _,rfl,rfl⟩ rfl (by rw[CC];omega) (Q:=fun _ st'=>Q st' s) fun st' B u=>?_) (fun r s' hr=>by obtain⟨e,hq⟩:=hr;subst e;exact hq) fun _ _ e=>e;refine h st' B.fl ?_;obtain⟨ix,px,ex⟩:=xO (f:=f) (Array.perm_iff_toList_perm.mp B.pm) ea;refine⟨ix.map fun i=>vs.getD i Value.none,?_,ix,px,rfl,?_⟩
 ·apply Array.ext'
  rw[Array.toList_map,ex,Fi];rfl
 ·have hin:∀ i∈ix,i<vs.length:=fun i hi=>by have:=px.mem_iff.mp hi;simpa using this
  rw[<-B.sz]at u;have pw:=Tm.up_pw u;rw[ex,Fm]at pw;rw[Fm];refine pw.imp_of_mem fun {i j} hi hj hlt=>?_;rw[jn (fp i (hin i hi)),jn (fp j (hin j hj))]at hlt;exact hlt
theorem sort_quads {a:Addr}{vs:List Value}{ps:List Q4}{n:Nat}{P:Fin->Shared->Prop}(ho:s.heap.get? a=some (seqObj "list" vs.toArray n))(hp:Paired (QAt s.heap) vs ps)(nd:ps.Nodup)(h64:vs.length<=100000)
  (h:∀ out:List Value,qJ vs ps out->P (.done (.ret .none)) { s with heap:=sortedHeap s.heap a vs out.toArray }):wpAny (model prog w) A (Builtin.«list.sort» ⟨[.ref a],[]⟩) P E s:=by
 have ha:a<s.heap.objs.size:=Em ho;have hl:vs.length=ps.length:=Er hp;obtain⟨e1,ho1⟩:∃ e1,(s.heap.update a (Obj.mapSeq fun _=>#[])).get? a=some (seqObj "list" #[] e1):=⟨_,get?_update_seq ho (fun _=>#[])⟩
 have ho6:(((s.heap.update a (Obj.mapSeq fun _=>#[])).push (seqObj "tuple" vs.toArray 0)).push (seqObj "list" #[] 0)).get? a=some (seqObj "list" #[] e1):=by
  rw[Heap.get?_push_ne _ _ _ (by rw[size_push',Heap.size_update];exact Eu (Fx ha)),Heap.get?_push_ne _ _ _ (by rw[Heap.size_update];exact Eu ha)];exact ho1
 have sz:vs.toArray.size<=sizeLine:=by rw[Ey,FD];omega
 rw[list_sort_plain];refine Ef (listItems_at ho rfl (Ef (listUpdate_at ho rfl ?_ sz (EK _))));refine Ef (seqEpoch_at ho1 rfl (Ef (wpAny_newTuple ?_ (by show vs.length<=_;rw[FD];omega))));refine Ef (wpAny_newList (FK ?_) (EK _))
 show wpAny (model prog w) A _ P E { s with heap:=((s.heap.update a (Obj.mapSeq fun _=>#[])).push (seqObj "tuple" vs.toArray 0)).push (seqObj "list" #[] 0) }
 dsimp only
 by_cases h2:vs.toArray.size<2
 ·rw[Ee h2,Ee h2]
  refine Ef (Et ?_);rw[StateT.run_pure];refine Ef (Et ?_);dsimp only
  have e:((vs.toArray.zip vs.toArray).map (·.2))=vs.toArray:=by
   apply Array.ext';simp[List.map_snd_zip]
  refine Ef (seqEpoch_at ho6 rfl (Ef (listUpdate_at ho6 rfl ?_ (EK _) ?_)))
  ·simp only[bne_self_eq_false,FV,if_false]
   refine Et ?_
   show P _ { s with heap:=(((s.heap.update a _).push _).push _).update a (Obj.mapSeq fun _=>(vs.toArray.zip vs.toArray).map (·.2)) }
   rw[e];refine h vs ⟨List.range vs.length,List.Perm.refl _,?_,?_⟩
   ·apply List.ext_getElem?
    intro i;rw[List.getElem?_map]
    by_cases hi:i<vs.length
    ·rw[List.getElem?_range hi];simp[hi]
    ·rw[List.getElem?_eq_none (by omega),List.getElem?_eq_none (by simp;omega)];rfl
   ·have hv:vs.length<2:=by simpa using h2
    rw[Fm,FC];intro i j hi hj hij;rw[FJ]at hi hj;omega
  ·show ((vs.toArray.zip vs.toArray).map (·.2)).size<=_
   rw[e];omega
 ·rw[Ed h2,Ed h2]
  have h2':2<=vs.length:=by rw[Ey]at h2;omega
  have hp':Paired (QAt (((s.heap.update a (Obj.mapSeq fun _=>#[])).push (seqObj "tuple" vs.toArray 0)).push (seqObj "list" #[] 0))) vs ps:=L2.Paired.mapP hp fun v q ⟨b,o,m,t1,t2,t3,t4,ev,hb,hc,hd⟩=>by
   refine⟨b,o,m,t1,t2,t3,t4,ev,?_,hc,hd⟩
   have nb:b≠a:=fun z=>by
    rw[z,ho]at hb;cases hb;exact absurd hc (by show ¬ (Value.type "list" = .type "tuple");decide)
   have hlt:=Em hb;rw[Heap.get?_push_ne _ _ _ (by rw[size_push',Heap.size_update];exact Eu (Fx hlt)),Heap.get?_push_ne _ _ _ (by rw[Heap.size_update];exact Eu hlt),Heap.get?_update_ne _ _ _ _ nb];exact hb
  refine Ef (uU (s:={ s with heap:=((s.heap.update a (Obj.mapSeq fun _=>#[])).push (seqObj "tuple" vs.toArray 0)).push (seqObj "list" #[] 0) }) hp' (by omega) ?_);refine Ef (xT (Q:=fun st' s'=>failedOf st'=none/\(∃ out:List Value,(arrOf st').map (·.2)=out.toArray/\qJ vs ps out)/\s'={ s with heap:=((s.heap.update a (Obj.mapSeq fun _=>#[])).push (seqObj "tuple" vs.toArray 0)).push (seqObj "list" #[] 0) }) hp' nd h2' (fun st' hf ho=>⟨hf,ho,rfl⟩) |> fun q=>E4 q (fun r s' hr=>?_) fun _ _ x=>x);obtain⟨⟨⟩,st'⟩:=r;obtain⟨hf,⟨out,hout,so⟩,rfl⟩:=hr;dsimp only at hf hout ⊢
  have hol:out.length=vs.length:=by
   obtain⟨ix,hx,rfl,_⟩:=so;rw[Eg,hx.length_eq,FJ]
  rw[hout];refine Ef (seqEpoch_at ho6 rfl (Ef (listUpdate_at ho6 rfl ?_ (EK _) (by show out.toArray.size<=_;rw[Ey,hol,FD];omega))));rw[hf];simp only[bne_self_eq_false,FV,if_false];exact Et (h out so)
end
end Qs
namespace Wz
open PySem PySem.Spec PyProof.Rows L2
abbrev Q4:=Qs.Q4
def kL (p:Q4):List V:=[.int p.1,.int p.2.1,.int p.2.2.1,.int p.2.2.2]
def fE (H:Hp)(l:Addr)(qs:List Q4):Prop:=∃ as:List Addr,H l=some (.lst (as.map V.ref))/\Paired (fun a (p:Q4)=>H a=some (.tup (kL p))) as qs
theorem qx:∀ {as:List Addr}{its:List Value},aU (as.map V.ref) its->its=as.map Value.ref
 | [],_,.nil=>rfl
 | a::as,_,.cons r rs=>by
  cases (show _=Value.ref a from r);rw[qx rs];rfl
theorem qS {X:Cx}:lR X (.builtin "sorted") (fun xs H Q=>∃ (p:Addr)(qs:List Q4),xs=[.ref p]/\fE H p qs/\qs.Nodup/\qs.length<=100000 /\
  ∀ (l:Addr)(rs:List Q4)(H':Hp),H l=none->aF H H'->fE H' l rs->rs.Perm qs->rs.Pairwise (fun a b=>Qs.ltQ a b=true)->Q (.ref l) H'):=by
 intro pins s σ H xs us Q I r h;obtain⟨p,qs,rfl,⟨as,hl,hp⟩,nd,h64,q⟩:=h;obtain⟨u,rfl,rx⟩:=mI r;cases rx;obtain⟨its,rv,pl,hz⟩:=I.list (bz.of (K:=X.K) hl);have ei:=qx rv;have al:=Er hp
 have il:its.length=qs.length:=by rw[ei,Eg,al]
 have pa:Paired (Qs.QAt s.heap) its qs:=by
  rw[ei];clear ei rv il al pl hz hl nd h64 q
  induction hp with
  | nil=>exact .nil
  | cons h1 _ ih =>
   refine .cons ?_ ih;obtain⟨_,its,rv,ob,hob,hcl,n,hdt⟩:=(show bD X.prog X.w H s.heap _ (.tup _) from I.hok _ _ h1);unfold kL at rv
   cases rv with
   | cons r1 r=>cases r with
    | cons r2 r=>cases r with
     | cons r3 r=>cases r with
      | cons r4 r =>
       cases r;obtain⟨t1,rfl⟩:=r1;obtain⟨t2,rfl⟩:=r2;obtain⟨t3,rfl⟩:=r3;obtain⟨t4,rfl⟩:=r4;exact⟨_,ob,n,t1,t2,t3,t4,rfl,hob,hcl,hdt⟩
 refine PySem.Calls.call_function_entry kind_sorted plain_sorted entry_sorted (args_sorted1 _) ?_;unfold Builtin.«sorted»;refine Ef (m:=checkCount "sorted" 1 1 _) (Et (Ef (collect_list pl.isList ?_)));refine Ef (wpAny_newList ?_ (by rw[il,FD];omega))
 have hsz:((s.heap.push (seqObj "list" #[] 0)).update s.heap.objs.size (Obj.mapSeq (·++its.toArray))).objs.size=s.heap.objs.size+1:=by rw[Heap.size_update,size_push']
 have hoL:(((s.heap.push (seqObj "list" #[] 0)).update s.heap.objs.size (Obj.mapSeq (·++its.toArray))).push (seqObj "list" its.toArray 0)).get? (s.heap.objs.size+1)=some (seqObj "list" its.toArray 0):=by rw[<-hsz];exact Heap.get?_push_size _ rfl
 have old:∀ b o,s.heap.get? b=some o->(((s.heap.push (seqObj "list" #[] 0)).update s.heap.objs.size (Obj.mapSeq (·++its.toArray))).push (seqObj "list" its.toArray 0)).get? b=some o:=fun b o e=>by
  refine Heap.get?_push_of_some _ ?_;rw[Heap.get?_update_ne _ _ _ _ (Eu (Em e))];exact Heap.get?_push_of_some _ e
 have ie:Paired (Qs.QAt (((s.heap.push (seqObj "list" #[] 0)).update s.heap.objs.size (Obj.mapSeq (·++its.toArray))).push (seqObj "list" its.toArray 0))) its qs:=Paired.mapP pa fun v x ⟨b,ob,n,t1,t2,t3,t4,e,hb,hc',hd'⟩=>⟨b,ob,n,t1,t2,t3,t4,e,old _ _ hb,hc',hd'⟩
 show wpAny _ _ _ _ _ { s with heap:=((s.heap.push (seqObj "list" #[] 0)).update s.heap.objs.size (Obj.mapSeq (·++its.toArray))).push (seqObj "list" its.toArray 0) }
 rw[hsz];refine Ef (FK (wpAny_call_entry slot_list_sort ⟨_,hoL,rfl⟩ entry_list_sort (Qs.sort_quads hoL ie nd (by rw[il];exact h64) fun out so=>⟨_,rfl,?_⟩) (args_list_sort _)));refine Et ⟨_,rfl,?_⟩;obtain⟨ix,hx,hout,hso⟩:=so;rw[il]at hx
 have hin:∀ i∈ix,i<qs.length:=fun i hi=>by have:=hx.mem_iff.mp hi;simpa using this
 have eo:out=(ix.map fun i=>as.getD i 0).map Value.ref:=by
  rw[hout,Fi];refine F4 fun i hi=>?_;have:=hin i hi;rw[ei]
  show (as.map Value.ref).getD i Value.none=Value.ref (as.getD i 0)
  simp[show i<as.length by omega]
 obtain⟨e,he⟩:=sortedHeap_at (vs:=its) (out:=out.toArray) hoL
 have vr:∀ l:List Addr,aU (l.map V.ref) (l.map Value.ref):=fun l=>by
  induction l with
  | nil=>exact .nil
  | cons a l ih=>exact .cons rfl ih
 have fr:=I.hok.fresh (F9 s.heap.objs.size);refine⟨.ref (s.heap.objs.size+1),_,I.laid (t':=s.toks) (a:=s.heap.objs.size+1) (o:=.lst ((ix.map fun i=>as.getD i 0).map V.ref)) (fun b ob eb=>?_) (F9 _) ⟨?_,out,e,?_,by simpa using he⟩,rfl,?_⟩
 ·have lt:=Em eb
  rw[sortedHeap_old (Eu (Fx lt)) (by rw[size_push',hsz];exact Fx (Fx lt))];exact old b ob eb
 ·rw[Eg,Eg,hx.length_eq,FJ,FD];omega
 ·rw[eo];exact vr _
 ·refine q (s.heap.objs.size+1) (ix.map fun i=>qs.getD i Qs.q0) _ fr (ao fr) ⟨_,ag,?_⟩ ?_ hso
  ·refine mD ix fun i hi=>(ao fr) _ _ ?_
   have hi:=hin i hi;obtain⟨a,ha,hA⟩:=dR hp (List.getElem?_eq_getElem hi)
   have e1:as.getD i 0=a:=by rw[List.getD_eq_getElem?_getD,ha];rfl
   have e2:qs.getD i Qs.q0=qs[i]:=by simp[hi]
   rw[e1,e2];exact hA
  ·have:=hx.map fun i=>qs.getD i Qs.q0
   rwa [uL]at this
open PySem L2
abbrev Sg:=Nat×Nat×Int
def iI (v:Nat->Int)(c:Nat):Nat->List (Nat×Int)
 | 0=>[(c,v c)]
 | k+1=>if v (c+k+1)=v (c+k) then iI v c k else iI v c k++[(c+k+1,v (c+k+1))]
def jd:List (Nat×Int)->Nat->List Sg
 | [],_=>[]
 | [p],n=>[(p.1,n,p.2)]
 | p::q::r,n=>(p.1,q.1-1,p.2)::jd (q::r) n
theorem lO:∀ (W:List (Nat×Int))(p:Nat×Int)(n:Nat),jd (W++[p]) n=jd W (p.1-1)++[(p.1,n,p.2)]
 | [],p,n=>rfl
 | [q],p,n=>rfl
 | q::q'::r,p,n=>by
  show (q.1,q'.1-1,q.2)::jd (q'::r++[p]) n=(q.1,q'.1-1,q.2)::jd (q'::r) (p.1-1)++_
  rw[lO (q'::r) p n];rfl
structure zG (v:Nat->Int)(c n:Nat)(S:List Sg):Prop where
 ok:∀ s∈S,c<=s.1/\s.1<=s.2.1/\s.2.1<=n/\(∀ t,s.1<=t->t<=s.2.1->v t=s.2.2)/\(s.1=c\/v (s.1-1)≠s.2.2)/\(s.2.1=n\/v (s.2.1+1)≠s.2.2)
 cov:∀ t,c<=t->t<=n->∃ s∈S,s.1<=t/\t<=s.2.1
 dj:S.Pairwise (fun s s'=>s.2.1<s'.1)
structure De (v:Nat->Int)(c n:Nat)(I:List (Nat×Int))(a:Nat):Prop where
 ca:c<=a
 an:a<=n
 va:∀ t,a<=t->t<=n->v t=v n
 fa:a=c\/v (a-1)≠v a
 ok:∀ s∈jd I (a-1),c<=s.1/\s.1<=s.2.1/\s.2.1<a/\(∀ t,s.1<=t->t<=s.2.1->v t=s.2.2)/\(s.1=c\/v (s.1-1)≠s.2.2)/\v (s.2.1+1)≠s.2.2
 cov:∀ t,c<=t->t<a->∃ s∈jd I (a-1),s.1<=t/\t<=s.2.1
 dj:(jd I (a-1)).Pairwise (fun s s'=>s.2.1<s'.1)
theorem m7 (v:Nat->Int)(c:Nat):∀ k,∃ I a,iI v c k=I++[(a,v (c+k))]/\De v c (c+k) I a
 | 0=>⟨[],c,rfl,Eh _,Eh _,fun t h1 h2=>by have h2:t<=c:=h2;rw[show t=c by omega];rfl,.inl rfl,fun s hs=>(by cases hs),fun t h1 h2=>absurd h2 (by omega),.nil⟩
 | k+1=>by
  obtain⟨I,a,e,h⟩:=m7 v c k
  by_cases hv:v (c+k+1)=v (c+k)
  ·refine⟨I,a,by show (if _ then _ else _)=_;rw[Ee hv,e];show _=I++[(a,v (c+k+1))];rw[hv],h.ca,Nat.le_succ_of_le h.an,fun t h1 h2=>?_,h.fa,h.ok,h.cov,h.dj⟩
   show v t=v (c+k+1)
   by_cases z:t<=c+k
   ·rw[h.va t h1 z,hv]
   ·rw[show t=c+k+1 by omega]
  ·have an:=h.an
   have ca:=h.ca;have es:jd (I++[(a,v (c+k))]) (c+k+1-1)=jd I (a-1)++[(a,c+k,v (c+k))]:=lO _ _ _;refine⟨I++[(a,v (c+k))],c+k+1,by show (if _ then _ else _)=_;rw[Ed hv,e];rfl,by omega,Eh _,fun t h1 h2=>by rw[show t=c+(k+1) by omega],.inr ?_,fun s hs=>?_,fun t h1 h2=>?_,?_⟩
   ·rw[Nat.add_sub_cancel];exact fun z=>hv z.symm
   ·rw[es]at hs
    rcases EB.mp hs with z | z
    ·obtain⟨o1,o2,o3,o4,o5,o6⟩:=h.ok s z
     exact⟨o1,o2,by omega,o4,o5,o6⟩
    ·rw[El.mp z]
     refine⟨h.ca,h.an,by show c+k<c+k+1;omega,h.va,?_,hv⟩;rcases h.fa with q | q
     ·exact .inl q
     ·exact .inr (by rw[h.va a (Eh _) h.an]at q;exact q)
   ·rw[es]
    by_cases z:t<a
    ·obtain⟨s,hs,h3⟩:=h.cov t h1 z
     exact⟨s,FE _ hs,h3⟩
    ·exact⟨_,ED _ (El.mpr rfl),by show a<=t;omega,by show t<=c+k;omega⟩
   ·rw[es,ER]
    refine⟨h.dj,List.pairwise_singleton _ _,fun s hs s' hs'=>?_⟩;rw[El.mp hs'];exact (h.ok s hs).2.2.1
theorem vS (v:Nat->Int)(c k:Nat):zG v c (c+k) (jd (iI v c k) (c+k)):=by
 obtain⟨I,a,e,h⟩:=m7 v c k;have an:=h.an;have ca:=h.ca;rw[e,lO];refine⟨fun s hs=>?_,fun t h1 h2=>?_,?_⟩
 ·rcases EB.mp hs with z | z
  ·obtain⟨o1,o2,o3,o4,o5,o6⟩:=h.ok s z
   exact⟨o1,o2,by omega,o4,o5,.inr o6⟩
  ·rw[El.mp z]
   refine⟨h.ca,h.an,Eh _,h.va,?_,.inl rfl⟩;rcases h.fa with q | q
   ·exact .inl q
   ·exact .inr (by rw[h.va a (Eh _) h.an]at q;exact q)
 ·by_cases z:t<a
  ·obtain⟨s,hs,h3⟩:=h.cov t h1 z
   exact⟨s,FE _ hs,h3⟩
  ·exact⟨_,ED _ (El.mpr rfl),by show a<=t;omega,h2⟩
 ·rw[ER]
  refine⟨h.dj,List.pairwise_singleton _ _,fun s hs s' hs'=>?_⟩;rw[El.mp hs'];exact (h.ok s hs).2.2.1
theorem zG.mem {v:Nat->Int}{c n:Nat}{S:List Sg}(h:zG v c n S){a b:Nat}{x:Int}:(a,b,x)∈S↔c<=a/\a<=b/\b<=n/\(∀ t,a<=t->t<=b->v t=x)/\(a=c\/v (a-1)≠x)/\(b=n\/v (b+1)≠x):=by
 constructor
 ·exact fun hs=>h.ok _ hs
 ·rintro⟨h1,h2,h3,h4,h5,h6⟩
  obtain⟨s,hs,s1,s2⟩:=h.cov a h1 (by omega);obtain⟨o1,o2,o3,o4,o5,o6⟩:=h.ok s hs
  have ex:s.2.2=x:=by rw[<-o4 a s1 s2,h4 a (Eh _) h2]
  have ea:s.1=a:=by
   by_cases z:s.1=a
   ·exact z
   ·rcases h5 with q | q
    ·omega
    ·exact absurd (by rw[o4 (a-1) (by omega) (by omega),ex]) q
  have eb:s.2.1=b:=by
   by_cases z:s.2.1=b
   ·exact z
   ·by_cases y:s.2.1<b
    ·rcases o6 with q | q
     ·omega
     ·exact absurd (by rw[h4 _ (by omega) (by omega),ex]) q
    ·rcases h6 with q | q
     ·omega
     ·exact absurd (by rw[o4 (b+1) (by omega) (by omega),ex]) q
  rw[<-ea,<-eb,<-ex];exact hs
theorem zG.nodup {v:Nat->Int}{c n:Nat}{S:List Sg}(h:zG v c n S):S.Nodup:=by
 refine h.dj.imp_of_mem fun {s s'} hs hs' z e=>?_;have:=(h.ok s hs).2.1;rw[<-e]at z;omega
theorem zG.one {v:Nat->Int}{c n:Nat}{S:List Sg}(h:zG v c n S){s s':Sg}(hs:s∈S)(hs':s'∈S){t:Nat}(h1:s.1<=t/\t<=s.2.1)(h2:s'.1<=t/\t<=s'.2.1):s=s':=by
 obtain⟨i,hi,rfl⟩:=Fp hs;obtain⟨j,hj,rfl⟩:=Fp hs';have pw:=FC.mp h.dj
 by_cases z:i=j
 ·subst z;rfl
 ·by_cases y:i<j
  ·have:=pw i j hi hj y;omega
  ·have:=pw j i hj hi (by omega);omega
def gX (es:List ay)(t:Nat):bZ:=bb (es.take t)
def vT (lk:bZ->List (Int×Int))(es:List ay)(g:Int)(t:Nat):Int:=(look (lk (gX es t)) g).getD 0
theorem pC {es:List ay}{t:Nat}{d:ay}(h:es[t]? = some d):gX es (t+1)=after (gX es t) d:=by
 unfold gX;rw[EU,h,E9,jv]
theorem v7 {st:bZ}{a b:Int}(j:aX st (.exch a b)=.done):(∃ x,look st.worn a=some x)/\(∃ y,look st.worn b=some y)/\a≠b:=by
 unfold aX at j;dsimp only at j
 cases ea:look st.worn a with
 | none=>rw[ea]at j;cases j
 | some x =>
  rw[ea]at j
  cases eb:look st.worn b with
  | none=>rw[eb]at j;cases j
  | some y =>
   rw[eb]at j;refine⟨⟨x,rfl⟩,⟨y,rfl⟩,fun z=>?_⟩;dsimp only at j;rw[Ee z]at j;cases j
theorem yx {st:bZ}{d:ay}{g:Int}(j:aX st d=.done)(n:d≠.come g)(h:(look (after st d).worn g).isSome=true):(look st.worn g).isSome=true:=by
 cases d with
 | come x =>
  have h:(look (put st.worn x x) g).isSome=true:=h;rw[bE]at h
  by_cases z:g=x
  ·exact absurd (by rw[z]) n
  ·rw[Ed z]at h;exact h
 | go x =>
  have h:(look (b7 st.worn x) g).isSome=true:=h;rw[er]at h
  by_cases z:g=x
  ·rw[Ee z]at h;cases h
  ·rw[Ed z]at h;exact h
 | exch a b =>
  obtain⟨⟨x,ea⟩,⟨y,eb⟩,_⟩:=v7 j;have h:(look (put (put st.worn a (wr st.worn b)) b (wr st.worn a)) g).isSome=true:=h;rw[bE,bE]at h
  by_cases z:g=b
  ·rw[z,eb];rfl
  ·rw[Ed z]at h
   by_cases q:g=a
   ·rw[q,ea];rfl
   ·rw[Ed q]at h;exact h
structure f6 (es:List ay)(g:Int)(c i:Nat):Prop where
 c1:1<=c
 ci:c<=i
 cm:es[c-1]? = some (.come g)
 ins:∀ t,c<=t->t<=i->(look (gX es t).worn g).isSome=true
def cX (W:List (Nat×Int)):List (Int×Int):=W.map fun p=>((p.1:Int),p.2)
theorem ut {es:List ay}(dn:cz es){lk:bZ->List (Int×Int)}(hl:∀ t g,(look (gX es t).worn g).isSome=true->(look (lk (gX es t)) g).isSome=true)(g:Int) :
  ∀ i,i<=es.length->∃ W,fg lk g 0 ⟨[],[],[],[]⟩ es []=fg lk g i (gX es i) (es.drop i) W/\((look (gX es i).worn g).isSome=true->∃ c,f6 es g c i/\W=cX (iI (vT lk es g) c (i-c)))
 | 0,_=>⟨[],rfl,fun h=>by cases h⟩
 | i+1,hi=>by
  obtain⟨W,e,h⟩:=ut dn hl g i (by omega);obtain⟨d,hd⟩:∃ d,es[i]? = some d:=⟨_,List.getElem?_eq_getElem (by omega)⟩;have j:aX (gX es i) d=.done:=dn i d hd;have es1:=pC hd
  have en:bI (gX es i) d=gX es (i+1):=by unfold bI;rw[Ee j,es1]
  rw[pE hd,en]at e;refine⟨_,e,fun hin=>?_⟩;have hin':=hin;obtain⟨y,hy⟩:=EL.mp (hl _ _ hin)
  have ev:vT lk es g (i+1)=y:=by unfold vT;rw[hy];rfl
  unfold ur;dsimp only
  by_cases hc:d=.come g
  ·rw[Ee hc,Ee ⟨hin,.inl rfl⟩]
   refine⟨i+1,⟨by omega,Eh _,by rw[Nat.add_sub_cancel,hd,hc],fun t h1 h2=>by rw[show t=i+1 by omega];exact hin⟩,?_⟩;rw[FU,hy]
   show _=[(((i+1:Nat):Int),vT lk es g (i+1))]
   rw[ev];rfl
  ·rw[es1]at hin'
   have hp:=yx j hc hin';obtain⟨c,S,eW⟩:=h hp;rw[Ed hc];obtain⟨I,a,eI,_⟩:=m7 (vT lk es g) c (i-c);have ci:=S.ci
   have ec:c+(i-c)=i:=by omega
   have eW2:W.getLast?.map (·.2)=some (vT lk es g i):=by
    rw[eW,eI,ec];unfold cX;rw[EE];simp
   have wne:W≠[]:=fun z=>by rw[z]at eW2;cases eW2
   refine⟨c,⟨S.c1,by omega,S.cm,fun t h1 h2=>?_⟩,?_⟩
   ·by_cases z:t<=i
    ·exact S.ins t h1 z
    ·rw[show t=i+1 by omega];exact hin
   rw[show i+1-c=(i-c)+1 by omega]
   show _=cX (if vT lk es g (c+(i-c)+1)=vT lk es g (c+(i-c)) then _ else _)
   rw[ec]
   by_cases q:vT lk es g (i+1)=vT lk es g i
   ·rw[Ee q,Ed]
    ·exact eW
    ·rintro⟨_,z | z⟩
     ·exact wne z
     ·rw[eW2,hy,<-ev,q]at z
      exact z rfl
   ·have cond:W.getLast?.map (·.2)≠look (lk (gX es (i+1))) g:=by
     rw[eW2,hy,<-ev];exact fun z=>q (Ei z).symm
    rw[Ed q,Ee ⟨hin,.inr cond⟩]
    ·rw[hy,eW]
     unfold cX;rw[EE]
     show _++[((i:Int)+1,y)]=_++[(((i+1:Nat):Int),vT lk es g (i+1))]
     rw[ev,show (((i+1:Nat):Int))=(i:Int)+1 from rfl]
theorem pF {es:List ay}(dn:cz es){lk:bZ->List (Int×Int)}(hl:∀ t g,(look (gX es t).worn g).isSome=true->(look (lk (gX es t)) g).isSome=true){g:Int}(hin:(look (bb es).worn g).isSome=true) :
  ∃ c,f6 es g c es.length/\fg lk g 0 ⟨[],[],[],[]⟩ es []=cX (iI (vT lk es g) c (es.length-c)):=by
 obtain⟨W,e,h⟩:=ut dn hl g es.length (Eh _)
 have eT:gX es es.length=bb es:=by unfold gX;rw[Fe]
 obtain⟨c,S,eW⟩:=h (by rw[eT];exact hin);refine⟨c,S,?_⟩;rw[e,eW,List.drop_length];rfl
theorem f6.one {es:List ay}(dn:cz es){g:Int}{c c' n:Nat}(a:f6 es g c n)(b:f6 es g c' n):c=c':=by
 have key:∀ {c c':Nat},f6 es g c n->f6 es g c' n->¬ c<c':=fun {c c'} a b z=>by
  have j:=dn _ _ b.cm;have i:=a.ins (c'-1) (by omega) (by have:=b.ci;omega);unfold aX at j;dsimp only at j;unfold gX at i;rw[Ee i]at j;cases j
 by_cases z:c=c'
 ·exact z
 ·by_cases y:c<c'
  ·exact absurd y (key a b)
  ·exact absurd (show c'<c by omega) (key b a)
theorem kq (v:Nat->Int)(c:Nat):∀ k,∃ r,iI v c k=(c,v c)::r
 | 0=>⟨[],rfl⟩
 | k+1=>by
  obtain⟨r,e⟩:=kq v c k
  show ∃ r,(if v (c+k+1)=v (c+k) then iI v c k else iI v c k++[(c+k+1,v (c+k+1))])=_
  by_cases z:v (c+k+1)=v (c+k)
  ·exact⟨r,by rw[Ee z,e]⟩
  ·exact⟨r++[(c+k+1,v (c+k+1))],by rw[Ed z,e];rfl⟩
theorem ku (v:Nat->Int)(c:Nat):∀ k i p q,(iI v c k)[i]? = some p->(iI v c k)[i+1]? = some q->p.1<q.1/\q.1<=c+k/\c<q.1/\v (q.1-1)=p.2/\v q.1=q.2/\p.2≠q.2
 | 0,i,p,q,h1,h2=>by
  have h2:([(c,v c)]:List (Nat×Int))[i+1]? = some q:=h2;simp at h2
 | k+1,i,p,q,h1,h2=>by
  have e:iI v c (k+1)=if v (c+k+1)=v (c+k) then iI v c k else iI v c k++[(c+k+1,v (c+k+1))]:=rfl
  rw[e]at h1 h2
  by_cases z:v (c+k+1)=v (c+k)
  ·rw[Ee z]at h1 h2
   obtain⟨a1,a2,a3⟩:=ku v c k i p q h1 h2;exact⟨a1,by omega,a3⟩
  ·rw[Ed z]at h1 h2
   by_cases hl:i+1<(iI v c k).length
   ·rw[List.getElem?_append_left (by omega)]at h1
    rw[List.getElem?_append_left hl]at h2;obtain⟨a1,a2,a3⟩:=ku v c k i p q h1 h2;exact⟨a1,by omega,a3⟩
   ·have l2:=(List.getElem?_eq_some_iff.mp h2).1
    rw[Ew,Fh]at l2
    have li:i+1=(iI v c k).length:=by omega
    rw[List.getElem?_append_right (by omega),li,FU]at h2;have eq:q=(c+k+1,v (c+k+1)):=(Ei h2).symm;obtain⟨I,a,eI,SI⟩:=m7 v c k;rw[List.getElem?_append_left (by omega)]at h1;rw[eI]at h1 li;rw[Ew,Fh]at li;rw[show i=I.length by omega,List.getElem?_append_right (Eh _),FU]at h1;have ep:p=(a,v (c+k)):=(Ei h1).symm;have:=SI.an;subst eq ep;exact⟨by show a<c+k+1;omega,Eh _,by show c<c+k+1;omega,rfl,rfl,fun y=>z y.symm⟩
theorem f6.own {es:List ay}{g:Int}{c n:Nat}(S:f6 es g c n):vT (·.hold) es g c=g/\vT (·.worn) es g c=g:=by
 have e:=pC S.cm;have c1:=S.c1;rw[show c-1+1=c by omega]at e;unfold vT;rw[e];constructor
 ·show (look (put _ g g) g).getD 0=g
  rw[bE,Ee rfl];rfl
 ·show (look (put _ g g) g).getD 0=g
  rw[bE,Ee rfl];rfl
theorem jr {lk:bZ->List (Int×Int)}{es:List ay}{g:Int}{t:Nat}(h:(look (lk (gX es t)) g).isSome=true):look (lk (gX es t)) g=some (vT lk es g t):=by
 obtain⟨y,hy⟩:=EL.mp h;unfold vT;rw[hy];rfl
section
variable {es:List ay}(dn:cz es)(hg:∀ t,d9 (gX es t))
include hg
theorem gO {t:Nat}{m:Int}(h:(look (gX es t).worn m).isSome=true):(look (gX es t).hold m).isSome=true:=wj (hg t) h
theorem Dk {t:Nat}{m w:Int}(hm:(look (gX es t).worn m).isSome=true)(hw:(look (gX es t).worn w).isSome=true):vT (·.hold) es m t=w↔vT (·.worn) es w t=m:=by
 have e1:=jr (lk:=(·.hold)) (gO hg hm);have e2:=jr (lk:=(·.worn)) hw;constructor
 ·intro z
  rw[z]at e1;have:=((hg t).wh w m).mpr e1;rw[this]at e2;exact (Ei e2).symm
 ·intro z
  rw[z]at e2;have:=((hg t).wh w m).mp e2;rw[this]at e1;exact (Ei e1).symm
include dn
theorem xr {t:Nat}{g:Int}(ht:t<es.length)(h0:(look (gX es t).worn g).isSome=true)(ne:vT (·.hold) es g t≠vT (·.hold) es g (t+1))(h1:(look (gX es (t+1)).worn g).isSome=true) :
  es[t]? = some (.exch (vT (·.hold) es g t) (vT (·.hold) es g (t+1)))\/es[t]? = some (.exch (vT (·.hold) es g (t+1)) (vT (·.hold) es g t)):=by
 obtain⟨d,hd⟩:∃ d,es[t]? = some d:=⟨_,List.getElem?_eq_getElem ht⟩;have j:aX (gX es t) d=.done:=dn t d hd;have e:=pC hd;have e0:=jr (lk:=(·.hold)) (gO hg h0);have e1:=jr (lk:=(·.hold)) (gO hg h1);generalize vT (·.hold) es g t=a at e0 ne ⊢;generalize vT (·.hold) es g (t+1)=b at e1 ne ⊢;rw[e]at e1
 cases d with
 | come x =>
  have e1:look (put (gX es t).hold x x) g=some b:=e1;rw[bE]at e1
  by_cases z:g=x
  ·unfold aX at j
   dsimp only at j;rw[<-z,Ee h0]at j;cases j
  ·rw[Ed z,e0]at e1
   exact absurd (Ei e1) ne
 | go x =>
  have e1:look (b7 (gX es t).hold x) g=some b:=e1;rw[er]at e1
  by_cases z:g=x
  ·rw[Ee z]at e1;cases e1
  ·rw[Ed z,e0]at e1
   exact absurd (Ei e1) ne
 | exch p q =>
  obtain⟨⟨x,ex⟩,⟨y,ey⟩,pq⟩:=v7 j
  have wx:wr (gX es t).worn p=x:=by unfold wr;rw[ex];rfl
  have wy:wr (gX es t).worn q=y:=by unfold wr;rw[ey];rfl
  have e1:look (put (put (gX es t).hold (wr (gX es t).worn q) p) (wr (gX es t).worn p) q) g=some b:=e1;rw[wx,wy,bE,bE]at e1;have hx:=((hg t).wh p x).mp ex;have hy:=((hg t).wh q y).mp ey;rw[hd]
  by_cases z:g=x
  ·rw[Ee z]at e1
   rw[z,hx]at e0;rw[<-Ei e0,<-Ei e1];exact .inl rfl
  ·rw[Ed z]at e1
   by_cases u:g=y
   ·rw[Ee u]at e1
    rw[u,hy]at e0;rw[<-Ei e0,<-Ei e1];exact .inr rfl
   ·rw[Ed u,e0]at e1
    exact absurd (Ei e1) ne
end
abbrev T3:=Int×Int×Int
def pW:List (Int×Int)->Int->List T3
 | [],_=>[]
 | [p],n=>[(p.1,n,p.2)]
 | p::q::r,n=>(p.1,q.1-1,p.2)::pW (q::r) n
def Ax (s:Sg):T3:=((s.1:Int),(s.2.1:Int),s.2.2)
theorem lP:∀ (W:List (Nat×Int))(n:Nat),(∀ p∈W,1<=p.1)->pW (cX W) (n:Int)=(jd W n).map Ax
 | [],n,_=>rfl
 | [p],n,_=>rfl
 | p::q::r,n,h=>by
  have ih:=lP (q::r) n fun x hx=>h x (Ek _ hx);have hq:=h q (Ek _ Ep)
  show ((p.1:Int),(q.1:Int)-1,p.2)::pW (cX (q::r)) n=((p.1:Int),((q.1-1:Nat):Int),p.2)::(jd (q::r) n).map Ax
  rw[ih,show ((q.1-1:Nat):Int)=(q.1:Int)-1 by omega]
theorem je:∀ (W:List (Int×Int))(n:Int),(pW W n).length=W.length
 | [],_=>rfl
 | [_],_=>rfl
 | _::q::r,n=>by
  show (pW (q::r) n).length+1=_
  rw[je (q::r) n];rfl
def jf (W:List (Int×Int))(n:Int)(k:Nat):Int:=match W[k+1]? with | some q=>q.1-1 | none=>n
theorem ui:∀ (W:List (Int×Int))(n:Int)(k:Nat)(p:Int×Int),W[k]? = some p->(pW W n)[k]? = some (p.1,jf W n k,p.2)
 | [],_,_,_,h=>by simp at h
 | [x],n,k,p,h=>by
  cases k with
  | zero=>cases h;rfl
  | succ k=>simp at h
 | x::q::r,n,k,p,h=>by
  cases k with
  | zero=>cases h;rfl
  | succ k=>exact ui (q::r) n k p h
theorem vR (v:Nat->Int){c:Nat}(hc:1<=c)(k:Nat):∀ p∈iI v c k,1<=p.1:=fun p hp=>by
 obtain⟨i,hi,rfl⟩:=Fp hp
 cases i with
 | zero =>
  obtain⟨r,e⟩:=kq v c k
  have e1:(iI v c k)[0]? = some (c,v c):=by rw[e];rfl
  have e2:=List.getElem?_eq_getElem hi;rw[e1]at e2;rw[<-Ei e2];exact hc
 | succ i =>
  have:=ku v c k i _ _ (List.getElem?_eq_getElem (by omega)) (List.getElem?_eq_getElem hi);omega
structure ux (es:List ay)(gs:List Int)(cm:Int->Nat):Prop where
 dn:cz es
 hg:∀ t,d9 (gX es t)
 nd:gs.Nodup
 ins:∀ g,g∈gs↔(look (bb es).worn g).isSome=true
 si:∀ g∈gs,f6 es g (cm g) es.length
section
variable {es:List ay}{gs:List Int}{cm:Int->Nat}(AV:ux es gs cm)
def Sm (es:List ay)(cm:Int->Nat)(g:Int):List Sg:=jd (iI (vT (·.hold) es g) (cm g) (es.length-cm g)) es.length
def Sf (es:List ay)(cm:Int->Nat)(g:Int):List Sg:=jd (iI (vT (·.worn) es g) (cm g) (es.length-cm g)) es.length
def mq (g:Int)(s:Sg):Q4:=((s.1:Int),(s.2.1:Int),s.2.2,g)
def fq (g:Int)(s:Sg):Q4:=((s.1:Int),(s.2.1:Int),g,s.2.2)
def gr (es:List ay)(cm:Int->Nat)(gs:List Int):List Q4:=gs.flatMap fun g=>(Sm es cm g).map (mq g)
def k8 (es:List ay)(cm:Int->Nat)(gs:List Int):List Q4:=gs.flatMap fun g=>(Sf es cm g).map (fq g)
include AV
theorem ux.sm {g:Int}(h:g∈gs):zG (vT (·.hold) es g) (cm g) es.length (Sm es cm g):=by
 have:=vS (vT (·.hold) es g) (cm g) (es.length-cm g);rw[show cm g+(es.length-cm g)=es.length by have:=(AV.si g h).ci;omega]at this;exact this
theorem ux.sf {g:Int}(h:g∈gs):zG (vT (·.worn) es g) (cm g) es.length (Sf es cm g):=by
 have:=vS (vT (·.worn) es g) (cm g) (es.length-cm g);rw[show cm g+(es.length-cm g)=es.length by have:=(AV.si g h).ci;omega]at this;exact this
def zg (cm:Int->Nat)(gs:List Int)(q:Q4):Prop:=q.2.2.1∈gs/\q.2.2.2∈gs/\(cm q.2.2.1:Int)<=q.1/\(cm q.2.2.2:Int)<=q.1
theorem ux.seen {q:Q4}(hs:zg cm gs q):q∈gr es cm gs↔q∈k8 es cm gs:=by
 obtain⟨a,b,w,m⟩:=q;obtain⟨hw,hm,cw,cM⟩:=hs;have hw:w∈gs:=hw;have hm:m∈gs:=hm;have cw:(cm w:Int)<=a:=cw;have cM:(cm m:Int)<=a:=cM;have du:∀ t,cm m<=t->cm w<=t->t<=es.length->(vT (·.hold) es m t=w↔vT (·.worn) es w t=m):=fun t h1 h2 h3=>Dk AV.hg ((AV.si m hm).ins t h1 h3) ((AV.si w hw).ins t h2 h3);have om:=(AV.si m hm).own;have ow:=(AV.si w hw).own;unfold gr k8;rw[FM,FM];constructor
 ·rintro⟨g,hgs,hx⟩
  obtain⟨s,hs,e⟩:=EG.mp hx;obtain⟨s1,s2,s3⟩:=s;have e1:(s1:Int)=a:=EM (·.1) e;have e2:(s2:Int)=b:=EM (·.2.1) e;have e3:s3=w:=EM (·.2.2.1) e;have e4:g=m:=EM (·.2.2.2) e;subst e3 e4;obtain⟨h1,h2,h3,h4,h5,h6⟩:=(AV.sm hgs).mem.mp hs;refine⟨s3,hw,EG.mpr ⟨(s1,s2,g),(AV.sf hw).mem.mpr ⟨by omega,h2,h3,fun t t1 t2=>(du t (by omega) (by omega) (by omega)).mp (h4 t t1 t2),?_,?_⟩,by rw[<-e1,<-e2];rfl⟩⟩
  ·rcases h5 with z | z
   ·left
    have e5:s3=g:=by rw[<-h4 s1 (Eh _) h2,z];exact om.1
    rw[e5];exact z
   ·by_cases y:s1=cm s3
    ·exact .inl y
    ·by_cases y2:s1=cm g
     ·left
      have e5:s3=g:=by rw[<-h4 s1 (Eh _) h2,y2];exact om.1
      rw[e5];exact y2
     ·exact .inr fun q=>z ((du (s1-1) (by omega) (by omega) (by omega)).mpr q)
  ·rcases h6 with z | z
   ·exact .inl z
   ·by_cases y:s2=es.length
    ·exact .inl y
    ·exact .inr fun q=>z ((du (s2+1) (by omega) (by omega) (by omega)).mpr q)
 ·rintro⟨g,hgs,hx⟩
  obtain⟨s,hs,e⟩:=EG.mp hx;obtain⟨s1,s2,s3⟩:=s;have e1:(s1:Int)=a:=EM (·.1) e;have e2:(s2:Int)=b:=EM (·.2.1) e;have e3:g=w:=EM (·.2.2.1) e;have e4:s3=m:=EM (·.2.2.2) e;subst e3 e4;obtain⟨h1,h2,h3,h4,h5,h6⟩:=(AV.sf hgs).mem.mp hs;refine⟨s3,hm,EG.mpr ⟨(s1,s2,g),(AV.sm hm).mem.mpr ⟨by omega,h2,h3,fun t t1 t2=>(du t (by omega) (by omega) (by omega)).mpr (h4 t t1 t2),?_,?_⟩,by rw[<-e1,<-e2];rfl⟩⟩
  ·rcases h5 with z | z
   ·left
    have e5:s3=g:=by rw[<-h4 s1 (Eh _) h2,z];exact ow.2
    rw[e5];exact z
   ·by_cases y:s1=cm s3
    ·exact .inl y
    ·by_cases y2:s1=cm g
     ·left
      have e5:s3=g:=by rw[<-h4 s1 (Eh _) h2,y2];exact ow.2
      rw[e5];exact y2
     ·exact .inr fun q=>z ((du (s1-1) (by omega) (by omega) (by omega)).mp q)
  ·rcases h6 with z | z
   ·exact .inl z
   ·by_cases y:s2=es.length
    ·exact .inl y
    ·exact .inr fun q=>z ((du (s2+1) (by omega) (by omega) (by omega)).mp q)
theorem ux.ndM:(gr es cm gs).Nodup:=by
 unfold gr List.Nodup;rw[List.pairwise_flatMap];refine⟨fun g hg=>?_,AV.nd.imp fun {g g'} ne x hx y hy e=>?_⟩
 ·rw[Fm]
  refine (AV.sm hg).nodup.imp fun {s s'} ne e=>ne ?_;obtain⟨s1,s2,s3⟩:=s;obtain⟨u1,u2,u3⟩:=s';have e1:(s1:Int)=u1:=EM (·.1) e;have e2:(s2:Int)=u2:=EM (·.2.1) e;have e3:s3=u3:=EM (·.2.2.1) e;rw[show s1=u1 by omega,show s2=u2 by omega,e3]
 ·obtain⟨s,_,rfl⟩:=EG.mp hx
  obtain⟨u,_,rfl⟩:=EG.mp hy;exact ne (EM (·.2.2.2) e)
theorem ux.ndF:(k8 es cm gs).Nodup:=by
 unfold k8 List.Nodup;rw[List.pairwise_flatMap];refine⟨fun g hg=>?_,AV.nd.imp fun {g g'} ne x hx y hy e=>?_⟩
 ·rw[Fm]
  refine (AV.sf hg).nodup.imp fun {s s'} ne e=>ne ?_;obtain⟨s1,s2,s3⟩:=s;obtain⟨u1,u2,u3⟩:=s';have e1:(s1:Int)=u1:=EM (·.1) e;have e2:(s2:Int)=u2:=EM (·.2.1) e;have e3:s3=u3:=EM (·.2.2.2) e;rw[show s1=u1 by omega,show s2=u2 by omega,e3]
 ·obtain⟨s,_,rfl⟩:=EG.mp hx
  obtain⟨u,_,rfl⟩:=EG.mp hy;exact ne (EM (·.2.2.1) e)
end
abbrev HE:=(Int×Int)×Int
def jG (hl:List HE):List (List bR×V):=hl.map fun e=>([Sum.inl e.1.1,Sum.inl e.1.2],V.int e.2)
theorem oJ (p q:Int×Int):(([Sum.inl p.1,Sum.inl p.2]:List bR)=[Sum.inl q.1,Sum.inl q.2])↔p=q:=by
 constructor
 ·intro h
  injection h with h1 h2;injection h2 with h2 _;exact FZ (Sum.inl.inj h1) (Sum.inl.inj h2)
 ·intro h;rw[h]
theorem uP {hl:List HE}{p:Int×Int}(h:p∉hl.map (·.1)):db (jG hl) ([Sum.inl p.1,Sum.inl p.2]:List bR)=none:=by
 unfold db;rw[List.find?_eq_none.mpr]
 ·rfl
 ·intro kv hkv
  obtain⟨e,he,rfl⟩:=EG.mp hkv;rw[decide_eq_true_eq];intro z;exact h (by rw[<-(oJ e.1 p).mp z];exact FL (f:=(·.1)) he)
theorem oE:∀ {hl:List HE}{p:Int×Int}{m:Int},(hl.map (·.1)).Nodup->(p,m)∈hl->db (jG hl) ([Sum.inl p.1,Sum.inl p.2]:List bR)=some (.int m)
 | [],_,_,_,h=>by cases h
 | e::hl,p,m,nd,h=>by
  have nd':=EQ.mp nd;unfold db jG;rw[EF,List.find?_cons];rcases En.mp h with z | z
  ·rw[<-z]
   rw[EC (show (([Sum.inl p.1,Sum.inl p.2]:List bR))=_ from rfl)];rfl
  ·have ne:¬ (([Sum.inl e.1.1,Sum.inl e.1.2]:List bR)=[Sum.inl p.1,Sum.inl p.2]):=fun q=>nd'.1 (by show e.1∈_;rw[(oJ e.1 p).mp q];exact FL (f:=(·.1)) z)
   rw[EA ne];exact oE nd'.2 z
theorem xp {hl:List HE}{p:Int×Int}{m:Int}(h:p∉hl.map (·.1)):fb (jG hl) ([Sum.inl p.1,Sum.inl p.2]:List bR) (.int m)=jG (hl++[(p,m)]):=by
 unfold fb;rw[Ed]
 ·unfold jG;rw[EE];rfl
 ·rw[List.any_eq_true]
  rintro⟨kv,hkv,z⟩;obtain⟨e,he,rfl⟩:=EG.mp hkv;exact h (by rw[<-(oJ e.1 p).mp (FH z)];exact FL (f:=(·.1)) he)
def cL (q:Q4)(j:Nat):List HE:=(List.range j).map fun (k:Nat)=>((q.1+(k:Int),q.2.2.1),q.2.2.2)
def kD (q:Q4):Nat:=(q.2.1+1-q.1).toNat
def cZ (qs:List Q4):List HE:=qs.flatMap fun q=>cL q (kD q)
theorem oF (q:Q4)(j:Nat):cL q (j+1)=cL q j++[((q.1+(j:Int),q.2.2.1),q.2.2.2)]:=by
 unfold cL;rw[List.range_succ,EE];rfl
section
variable {es:List ay}{gs:List Int}{cm:Int->Nat}(AV:ux es gs cm)
include AV
theorem ux.held:((cZ (gr es cm gs)).map (·.1)).Nodup:=by
 have key:∀ {g g':Int}{s s':Sg}{x:HE}{y:HE},g∈gs->g'∈gs->s∈Sm es cm g->s'∈Sm es cm g'->x∈cL (mq g s) (kD (mq g s))->y∈cL (mq g' s') (kD (mq g' s'))->x.1=y.1->mq g s=mq g' s':=fun {g g' s s' x y} hg hg' hs hs' hx hy e=>by
  obtain⟨i,hi,rfl⟩:=EG.mp hx;obtain⟨j,hj,rfl⟩:=EG.mp hy;have hi:i<((s.2.1:Int)+1-(s.1:Int)).toNat:=EX.mp hi;have hj:j<((s'.2.1:Int)+1-(s'.1:Int)).toNat:=EX.mp hj;have e1:(s.1:Int)+(i:Int)=(s'.1:Int)+(j:Int):=EM (·.1) e;have e2:s.2.2=s'.2.2:=EM (·.2) e;obtain⟨a1,a2,a3,a4,_⟩:=(AV.sm hg).ok s hs;obtain⟨b1,b2,b3,b4,_⟩:=(AV.sm hg').ok s' hs'
  have t1:s.1+i=s'.1+j:=by omega
  have v1:=a4 (s.1+i) (by omega) (by omega);have v2:=b4 (s'.1+j) (by omega) (by omega);rw[<-t1,<-e2]at v2;have l1:=jr (lk:=(·.hold)) (gO AV.hg ((AV.si g hg).ins (s.1+i) (by omega) (by omega)));have l2:=jr (lk:=(·.hold)) (gO AV.hg ((AV.si g' hg').ins (s.1+i) (by omega) (by omega)));rw[v1]at l1;rw[v2]at l2;have w1:=((AV.hg (s.1+i)).wh _ _).mpr l1;have w2:=((AV.hg (s.1+i)).wh _ _).mpr l2;rw[w1]at w2;have eg:=Ei w2;subst eg;have:=(AV.sm hg).one hs hs' (t:=s.1+i) ⟨by omega,by omega⟩ ⟨by omega,by omega⟩;rw[this]
 have inn:∀ q:Q4,((cL q (kD q)).map (·.1)).Nodup:=fun q=>by
  unfold cL List.Nodup;rw[Fi,Fm];refine List.nodup_range.imp fun {i j} ne e=>ne ?_;have:q.1+(i:Int)=q.1+(j:Int):=EM (·.1) e;omega
 unfold cZ List.Nodup;rw[Fm,List.pairwise_flatMap];refine⟨fun q _=>by have:=inn q;unfold List.Nodup at this;rw[Fm]at this;exact this,?_⟩;refine AV.ndM.imp_of_mem fun {q q'} hq hq' ne x hx y hy e=>?_;unfold gr at hq hq';obtain⟨g,hg,h1⟩:=FM.mp hq;obtain⟨s,hs,rfl⟩:=EG.mp h1;obtain⟨g',hg',h2⟩:=FM.mp hq';obtain⟨s',hs',rfl⟩:=EG.mp h2;exact ne (key hg hg' hs hs' hx hy e)
theorem ux.last {g m:Int}(hg:g∈gs)(hm:look (bb es).worn g=some m):(((es.length:Int),g),m)∈cZ (gr es cm gs):=by
 have eT:gX es es.length=bb es:=by unfold gX;rw[Fe]
 have G:=AV.hg es.length;rw[eT]at G;have mg:m∈gs:=(AV.ins m).mpr (bU.mpr (G.ow g m hm));obtain⟨s,hs,h1,h2⟩:=(AV.sm mg).cov es.length (AV.si m mg).ci (Eh _);obtain⟨a1,a2,a3,a4,_⟩:=(AV.sm mg).ok s hs;have hh:=(G.wh g m).mp hm
 have v:vT (·.hold) es m es.length=g:=by unfold vT;rw[eT,hh];rfl
 have es2:s.2.2=g:=by rw[<-a4 es.length h1 h2];exact v
 unfold cZ;refine FM.mpr ⟨mq m s,?_,?_⟩
 ·unfold gr
  exact FM.mpr ⟨m,mg,FL hs⟩
 ·refine EG.mpr ⟨es.length-s.1,?_,?_⟩
  ·rw[EX]
   show _<((s.2.1:Int)+1-(s.1:Int)).toNat
   omega
  ·show (((s.1:Int)+((es.length-s.1:Nat):Int),s.2.2),m)=_
   rw[es2,show (s.1:Int)+((es.length-s.1:Nat):Int)=(es.length:Int) by omega]
end
def pH (cm:Int->Nat)(gs:List Int):List (Int×Int):=gs.map fun g=>(g,(cm g:Int))
theorem oM (cm:Int->Nat):∀ (gs:List Int)(x:Int),look (pH cm gs) x=if x∈gs then some (cm x:Int) else none
 | [],x=>rfl
 | g::gs,x=>by
  have ih:=oM cm gs x
  by_cases z:x=g
  ·subst z
   rw[Ee Ep]
   show (if x=x then some (cm x:Int) else _)=_
   rw[Ee rfl]
  ·have e:look (pH cm (g::gs)) x=look (pH cm gs) x:=by
    show (if g=x then some (cm g:Int) else look (pH cm gs) x)=_
    rw[Ed fun q=>z q.symm]
   rw[e,ih]
   by_cases y:x∈gs
   ·rw[Ee y,Ee (Ek _ y)]
   ·rw[Ed y,Ed (fun q=>by rcases En.mp q with q | q;exact z q;exact y q)]
def cU (C:List (Int×Int))(q:Q4):Bool:=(look C q.2.2.1).isSome&&((look C q.2.2.2).isSome&&(decide ((look C q.2.2.1).getD 0<=q.1)&&decide ((look C q.2.2.2).getD 0<=q.1)))
theorem qy (cm:Int->Nat)(gs:List Int)(q:Q4):cU (pH cm gs) q=true↔zg cm gs q:=by
 unfold cU zg;rw[oM,oM,Fy,Fy,Fy]
 by_cases h1:q.2.2.1∈gs
 ·by_cases h2:q.2.2.2∈gs
  ·rw[Ee h1,Ee h2]
   simp[h1,h2]
  ·rw[Ed h2];simp[h2]
 ·rw[Ed h1];simp[h1]
theorem ux.same {es:List ay}{gs:List Int}{cm:Int->Nat}(AV:ux es gs cm){r1 r2:List Q4}(p1:r1.Perm ((gr es cm gs).filter (cU (pH cm gs))))(s1:r1.Pairwise (fun a b=>Qs.ltQ a b=true))(p2:r2.Perm ((k8 es cm gs).filter (cU (pH cm gs))))(s2:r2.Pairwise (fun a b=>Qs.ltQ a b=true)):r1=r2:=by
 have n1:=(AV.ndM.filter (cU (pH cm gs)));have n2:=(AV.ndF.filter (cU (pH cm gs)))
 have pp:((gr es cm gs).filter (cU (pH cm gs))).Perm ((k8 es cm gs).filter (cU (pH cm gs))):=(List.perm_ext_iff_of_nodup n1 n2).mpr fun q=>by
  rw[FW,FW];constructor
  ·rintro⟨a,b⟩
   exact⟨(AV.seen ((qy _ _ _).mp b)).mp a,b⟩
  ·rintro⟨a,b⟩
   exact⟨(AV.seen ((qy _ _ _).mp b)).mpr a,b⟩
 refine List.Perm.eq_of_pairwise (le:=fun a b=>Qs.ltQ a b=true) (fun a b _ _ h1 h2=>?_) s1 s2 ((p1.trans pp).trans p2.symm);have:=Qs.ltQ_tr h1 h2;rw[Qs.ltQ_irr]at this;cases this
def CO (t:T3):List V:=[.int t.1,.int t.2.1,.int t.2.2]
def w9 (H:Hp)(l:Addr)(ts:List T3):Prop:=∃ as:List Addr,H l=some (.lst (as.map V.ref))/\Paired (fun a (t:T3)=>H a=some (.tup (CO t))) as ts
theorem w9.mono {H H':Hp}{l:Addr}{ts:List T3}(r:w9 H l ts)(s:aF H H'):w9 H' l ts:=by
 obtain⟨as,h,p⟩:=r;exact⟨as,s _ _ h,Paired.mapP p fun a q z=>s _ _ z⟩
theorem fE.mono {H H':Hp}{l:Addr}{ts:List Q4}(r:fE H l ts)(s:aF H H'):fE H' l ts:=by
 obtain⟨as,h,p⟩:=r;exact⟨as,s _ _ h,Paired.mapP p fun a q z=>s _ _ z⟩
inductive wK (vs:List V) (H:Hp) (Q:VK) (E_:XK):Prop
 | mk (l:Addr) (W:List (Int×Int)) (n:Int) (h_0:vs=[.ref l,.int n]) (h_1:dD H l W) (h_2:W.length<=300) (h_3:∀ (r:Addr)(H':Hp),H r=none->aF H H'->w9 H' r (pW W n)->Q (.ref r) H'):wK vs H Q E_
inductive sh (vs:List V) (H:Hp) (Q:VK) (E_:XK):Prop
 | mk (l d:Addr) (qs:List Q4) (C:List (Int×Int)) (h_0:vs=[.ref l,.ref d]) (h_1:fE H l qs) (h_2:H d=some (.dK (dk C))) (h_3:qs.length<=50000) (h_4:(qs.filter (cU C)).Nodup) (h_5:∀ (r:Addr)(rs:List Q4)(H':Hp),H r=none->aF H H'->fE H' r rs->rs.Perm (qs.filter (cU C))->rs.Pairwise (fun a b=>Qs.ltQ a b=true)->Q (.ref r) H'):sh vs H Q E_
structure BV (W:List (Int×Int))(m:Int)(es:List ay):Prop where
 hd:∃ c:Nat,W[0]? = some ((c:Int)+1,m)/\es[c]? = some (.come m)
 st:∀ k p q,W[k]? = some p->W[k+1]? = some q->p.1<q.1/\∃ t:Nat,q.1=(t:Int)+1/\t<es.length/\(es[t]? = some (.exch p.2 q.2)\/es[t]? = some (.exch q.2 p.2))
inductive rY (vs:List V) (H:Hp) (Q:VK) (E_:XK):Prop
 | mk (l ls:Addr) (W:List (Int×Int)) (m:Int) (es:List ay) (h_0:vs=[.ref l,.int m,.ref ls]) (h_1:dD H l W) (h_2:bT H ls es) (h_3:W.length<=300) (h_4:BV W m es) (h_5:∀ H',aF H H'->Q (.bl true) H'):rY vs H Q E_
theorem ux.by {es:List ay}{gs:List Int}{cm:Int->Nat}(AV:ux es gs cm){g:Int}(hg:g∈gs):BV (cX (iI (vT (·.hold) es g) (cm g) (es.length-cm g))) g es:=by
 have S:=AV.si g hg;have c1:=S.c1;have ci:=S.ci;refine⟨⟨cm g-1,?_,S.cm⟩,fun k p q hp hq=>?_⟩
 ·obtain⟨r,e⟩:=kq (vT (·.hold) es g) (cm g) (es.length-cm g)
  rw[e,S.own.1]
  show some (((cm g:Nat):Int),g)=_
  rw[show ((cm g-1:Nat):Int)+1=(cm g:Int) by omega]
 ·unfold cX at hp hq
  rw[List.getElem?_map]at hp hq;obtain⟨p',hp',rfl⟩:=Option.map_eq_some_iff.mp hp;obtain⟨q',hq',rfl⟩:=Option.map_eq_some_iff.mp hq;obtain⟨a1,a2,a3,a4,a5,a6⟩:=ku _ _ _ k p' q' hp' hq';refine⟨by show (p'.1:Int)<q'.1;omega,q'.1-1,by show (q'.1:Int)=_;omega,by omega,?_⟩;have:=xr AV.dn AV.hg (t:=q'.1-1) (g:=g) (by omega) (S.ins _ (by omega) (by omega)) (by rw[show q'.1-1+1=q'.1 by omega,a4,a5];exact a6) (S.ins _ (by omega) (by omega));rw[show q'.1-1+1=q'.1 by omega,a4,a5]at this;exact this
theorem kr (v:Nat->Int)(c:Nat):∀ k,(iI v c k).length<=k+1
 | 0=>Eh _
 | k+1=>by
  have:=kr v c k
  show (if _ then _ else _:List (Nat×Int)).length<=_
  split
  ·omega
  ·rw[Ew,Fh];omega
theorem pD:∀ (W:List (Nat×Int))(n:Nat),(jd W n).length=W.length
 | [],_=>rfl
 | [_],_=>rfl
 | _::q::r,n=>by
  show (jd (q::r) n).length+1=_
  rw[pD (q::r) n];rfl
open Classical in
noncomputable def cmOf (es:List ay) (g:Int):Nat:=if h:∃ c,f6 es g c es.length then h.choose else 0
theorem vV {es:List ay}(dn:cz es){g:Int}{c:Nat}(S:f6 es g c es.length):cmOf es g=c:=by
 have e:∃ c,f6 es g c es.length:=⟨c,S⟩;unfold cmOf;rw[dif_pos e];exact e.choose_spec.one dn S
section
variable {es:List ay}{gs:List Int}(dn:cz es)(hg:∀ t,d9 (gX es t))(ins:∀ g,g∈gs↔(look (bb es).worn g).isSome=true)
include dn hg ins
theorem qE {g:Int}(h:g∈gs):f6 es g (cmOf es g) es.length/\fg (·.hold) g 0 ⟨[],[],[],[]⟩ es []=cX (iI (vT (·.hold) es g) (cmOf es g) (es.length-cmOf es g)):=by
 obtain⟨c,S,e⟩:=pF dn (lk:=(·.hold)) (fun t g h=>gO hg h) ((ins g).mp h);have ec:=vV dn S;rw[ec];exact⟨S,e⟩
theorem x0 {g:Int}(h:g∈gs):fg (·.worn) g 0 ⟨[],[],[],[]⟩ es []=cX (iI (vT (·.worn) es g) (cmOf es g) (es.length-cmOf es g)):=by
 obtain⟨c,S,e⟩:=pF dn (lk:=(·.worn)) (fun t g h=>h) ((ins g).mp h);have ec:=vV dn S;rw[ec];exact e
theorem A2 (nd:gs.Nodup):ux es gs (cmOf es):=⟨dn,hg,nd,ins,fun g h=>(qE dn hg ins h).1⟩
end
theorem qe (W:List (Nat×Int)):(cX W).length=W.length:=Eg ..
theorem n8 (es:List ay)(cm:Int->Nat):∀ gs:List Int,(gr es cm gs).length<=gs.length*(es.length+1)/\(k8 es cm gs).length<=gs.length*(es.length+1)
 | []=>⟨EK _,EK _⟩
 | g::gs=>by
  have ih:=n8 es cm gs;have h1:=kr (vT (·.hold) es g) (cm g) (es.length-cm g);have h2:=kr (vT (·.worn) es g) (cm g) (es.length-cm g)
  have l1:(Sm es cm g).length<=es.length+1:=by unfold Sm;rw[pD];omega
  have l2:(Sf es cm g).length<=es.length+1:=by unfold Sf;rw[pD];omega
  unfold gr k8 at ih ⊢;rw[List.flatMap_cons,List.flatMap_cons,Ew,Ew,Eg,Eg,EO,Nat.succ_mul];omega
theorem xb (es:List ay)(cm:Int->Nat)(gs:List Int)(g:Int):gr es cm (gs++[g])=gr es cm gs++(Sm es cm g).map (mq g)/\k8 es cm (gs++[g])=k8 es cm gs++(Sf es cm g).map (fq g):=by
 unfold gr k8;rw[List.flatMap_append,List.flatMap_append];simp
inductive kU (K:PySem.W.Frag) (P0 P1:Addr) (vs:List V) (H:Hp) (Q:VK) (E_:XK):Prop
 | mk (a:Addr) (ns:List Int) (h_0:vs=[.ref a]) (h_1:bz K H a (ns.map V.int)) (h_2:ns.length<=63) (h_3:H P0=some (.tbl #[])) (h_4:H P1=some (.tbl #[])) (h_n:P0≠P1) (h_5:∀ H',Q (.bl true) H'):kU K P0 P1 vs H Q E_
theorem ul {K:PySem.W.Frag}{te:TE}{Qf:Hp->Prop}{l q:Addr}{ts:List T3}{f:T3->Q4}{rest:L2.St}{H:Hp}(hq:H q=none)(h1:w9 H l ts)(hlen:ts.length<=1000)
  (ht:∀ (t:T3)(HK:Hp)(Q':VK),t∈ts->aF H HK->(∀ a,HK a=none->Q' (.ref a) (upd HK a (.tup (kL (f t)))))->te (some (.int t.1)::some (.int t.2.1)::some (.int t.2.2)::rest) HK Q')
  (k:∀ (HK:Hp),aF H HK->fE HK q (ts.map f)->Qf HK) :
  vM (AX K l) (A9 K 3 (wf (ky 0) (wf (ky 1) (wf (ky 2) Cf)))) (BG zj te q) { nx:=fun _ H'=>Qf H',rt:=fun _ _=>False } (none::none::none::rest) (upd H q (.lst [])):=by
 obtain⟨as,hl,hp⟩:=h1;have al:=Er hp;refine cY (K:=K) (a:=l) (xs:=as.map V.ref) (fun i σ HK=>∃ v w u:Option V,σ=v::w::u::rest/\aF H HK/\fE HK q ((ts.take i).map f)) ⟨none,none,none,rfl,ao hq,[],ag,.nil⟩ (fun i σ HK _ ⟨_,_,_,_,s2,_⟩=>bz.of (s2 _ _ hl)) ?_ ?_
 ·rintro i y σ HK hi ⟨v,w,u,rfl,t1,qs,hq2,pq⟩
  obtain⟨b,hb,rfl⟩:=cO hi;obtain⟨t,ht0,hB⟩:=bj hp hb;have hil:i<ts.length:=(List.getElem?_eq_some_iff.mp ht0).1;have ql:=Er pq;rw[Eg,E8]at ql;refine⟨b,_,rfl,dv.of (t1 _ _ hB),rfl,_,_,rfl,_,_,rfl,_,_,rfl,rfl,?_⟩;refine nA (ht t HK _ (EN ht0) t1 fun a ha=>?_);have s5:=ao (o:=.tup (kL (f t))) ha;have hq5:=s5 _ _ hq2;have ha5:upd HK a (.tup (kL (f t))) a=some (.tup (kL (f t))):=ag;generalize upd HK a (.tup (kL (f t)))=H5 at s5 hq5 ha5 ⊢
  have aq:a≠q:=fun z=>by rw[z,hq5]at ha5;cases ha5
  refine⟨_,hq5,by rw[Eg];exact bn (by omega),_,_,_,rfl,c8 (t1.trans s5) hq,qs++[a],by rw[ag,EE];rfl,?_⟩;rw[EU,ht0,E9,EE];refine be (Wz.Paired.mapP' pq fun c z hc e=>?_) (.cons (by rw[ae aq];exact ha5) .nil);rw[ae (fun z=>by rw[z,hq2]at e;cases e)];exact s5 _ _ e
 ·rintro σ HK ⟨v,w,u,rfl,t1,hq2⟩
  rw[Eg,al,Fe]at hq2;exact k HK t1 hq2
def B2 (P0 P1:Addr)(H H':Hp):Prop:=∀ b o,H b=some o->b≠P0->b≠P1->H' b=some o
structure T2 (H:Hp)(P0 P1:Addr)(p0:Pos)(q0:Str)(p1:Pos)(q1:Str):Prop where
 ne:P0≠P1
 a:fm H P0 p0 q0
 b:fm H P1 p1 q1
section
variable {P0 P1:Addr}{H H' H2:Hp}{p0 p1:Pos}{q0 q1:Str}
theorem B2.refl:B2 P0 P1 H H:=fun b o e _ _=>e
theorem B2.same (b:B2 P0 P1 H H')(s:aF H' H2):B2 P0 P1 H H2:=fun x o e n m=>s _ _ (b x o e n m)
theorem B2.trans (b:B2 P0 P1 H H')(s:B2 P0 P1 H' H2):B2 P0 P1 H H2:=fun x o e n m=>s _ _ (b x o e n m) n m
theorem B2.but0 (b:mZ P0 H H'):B2 P0 P1 H H':=fun x o e n m=>b x o e n
theorem B2.but1 (b:mZ P1 H H'):B2 P0 P1 H H':=fun x o e n m=>b x o e m
theorem B2.get {l:Addr}{o:HO}(b:B2 P0 P1 H H')(t:T2 H P0 P1 p0 q0 p1 q1)(e:H l=some o)(n:∀ ps,o≠.tbl ps):H' l=some o:=by
 obtain⟨ps,h0⟩:=t.a.tbl;obtain⟨qs,h1⟩:=t.b.tbl;exact b _ _ e (fun z=>by rw[z,h0]at e;cases e;exact n _ rfl) (fun z=>by rw[z,h1]at e;cases e;exact n _ rfl)
theorem B2.hall {C p:Addr}{A:HA}{st:bZ}(b:B2 P0 P1 H H')(t:T2 H P0 P1 p0 q0 p1 q1)(S:aH C H p A st):aH C H' p A st:=by
 obtain⟨ps,h0⟩:=t.a.tbl;obtain⟨qs,h1⟩:=t.b.tbl
 have two:∀ {y:Addr}{o:HO},H y=some o->(∀ ps,o≠.tbl ps)->y∉[P0,P1]:=fun {y o} e n z=>by
  rcases En.mp z with z | z
  ·rw[z,h0]at e;cases e;exact n _ rfl
  ·rw[El.mp z,h1]at e;cases e;exact n _ rfl
 refine S.kept (fp:=[P0,P1]) (fun y o e n=>b y o e (fun z=>n (by rw[z];exact Ep)) (fun z=>n (by rw[z];exact Ek _ (El.mpr rfl)))) (two S.ob (fun ps z=>by cases z)) (fun y hy=>?_) (fun y xs e=>two e (fun ps z=>by cases z));rcases S.mu y hy with ⟨k,e⟩ | ⟨k,e⟩ | ⟨k,e⟩
 ·exact two e (fun ps z=>by cases z)
 ·exact two e (fun ps z=>by cases z)
 ·exact two e (fun ps z=>by cases z)
theorem B2.row {l:Addr}{W:List (Int×Int)}(b:B2 P0 P1 H H')(t:T2 H P0 P1 p0 q0 p1 q1)(r:dD H l W):dD H' l W:=by
 obtain⟨as,h,p⟩:=r;exact⟨as,b.get t h (fun ps z=>by cases z),Paired.mapP p fun a q z=>b.get t z (fun ps z=>by cases z)⟩
theorem B2.q4 {l:Addr}{W:List Q4}(b:B2 P0 P1 H H')(t:T2 H P0 P1 p0 q0 p1 q1)(r:fE H l W):fE H' l W:=by
 obtain⟨as,h,p⟩:=r;exact⟨as,b.get t h (fun ps z=>by cases z),Paired.mapP p fun a q z=>b.get t z (fun ps z=>by cases z)⟩
theorem B2.deeds {l:Addr}{ds:List ay}(b:B2 P0 P1 H H')(t:T2 H P0 P1 p0 q0 p1 q1)(r:bT H l ds):bT H' l ds:=by
 obtain⟨as,h,p⟩:=r
 exact⟨as,b.get t h (fun ps z=>by cases z),Paired.mapP p fun a q z=>by
  obtain⟨xs,ex⟩:=cD q;rw[ex]at z ⊢
  exact b.get t z (fun ps z=>by cases z)⟩
theorem B2.put {l:Addr}{o:HO}(b:B2 P0 P1 H H')(h:H l=Option.none):B2 P0 P1 H (upd H' l o):=fun x u e n m=>by rw[ae (ak e h)];exact b x u e n m
theorem uk {P l:Addr}{pos:Pos}{qual:Str}{u:HO}{o:HO}(x:fm H P pos qual)(e:H l=some u)(n1:∀ ps,u≠.tbl ps)(n2:∀ a b,u≠.frz a b):fm (upd H l o) P pos qual:=by
 rcases x with z | ⟨c',z,oc,vs,tt,cf,cr⟩
 ·exact .inl (by rw[ae (fun q=>by rw[q,e]at z;cases z;exact n1 _ rfl)];exact z)
 ·exact .inr ⟨c',by rw[ae (fun q=>by rw[q,e]at z;cases z;exact n1 _ rfl)];exact z,oc,vs,tt,by rw[ae (fun q=>by rw[q,e]at cf;cases cf;exact n2 _ _ rfl)];exact cf,cr⟩
theorem wP {P P':Addr}{pos pos':Pos}{qual qual':Str}(x:fm H P' pos' qual')(n:P'≠P)(t:fm H P pos qual)(b:mZ P H H'):fm H' P' pos' qual':=by
 rcases x with z | ⟨c',z,oc,vs,tt,cf,cr⟩
 ·exact .inl (b _ _ z n)
 ·exact .inr ⟨c',b _ _ z n,oc,vs,tt,b.get t cf (fun ps q=>by cases q),cr⟩
theorem T2.same (t:T2 H P0 P1 p0 q0 p1 q1)(s:aF H H'):T2 H' P0 P1 p0 q0 p1 q1:=⟨t.ne,t.a.same s,t.b.same s⟩
theorem T2.but0 (t:T2 H P0 P1 p0 q0 p1 q1)(b:mZ P0 H H')(x:fm H' P0 p0 q0):T2 H' P0 P1 p0 q0 p1 q1:=⟨t.ne,x,wP t.b t.ne.symm t.a b⟩
theorem T2.but1 (t:T2 H P0 P1 p0 q0 p1 q1)(b:mZ P1 H H')(x:fm H' P1 p1 q1):T2 H' P0 P1 p0 q0 p1 q1:=⟨t.ne,wP t.a t.ne t.b b,x⟩
theorem T2.put {l:Addr}{u o:HO}(t:T2 H P0 P1 p0 q0 p1 q1)(e:H l=some u)(n1:∀ ps,u≠.tbl ps)(n2:∀ a b,u≠.frz a b):T2 (upd H l o) P0 P1 p0 q0 p1 q1:=⟨t.ne,uk t.a e n1 n2,uk t.b e n1 n2⟩
end
theorem vI {α:Type}{p:α->Prop}{x y:α}(hx:p x)(hy:p y):∀ t∈[x,y],p t:=fun t ht=>by
 rcases En.mp ht with e | e
 ·rw[e];exact hx
 ·rw[El.mp e];exact hy
def D1 (qs:List Q4):Dt:=.sq false (qs.map fun q=>zk (kL q))
theorem AF {K:PySem.W.Frag}{H:Hp}{l:Addr}{ps:List Q4}(r:fE H l ps):RD K H 2 (.ref l) (D1 ps):=by
 obtain⟨as,h,p⟩:=r;refine RD.lst (bz.of h) ?_;clear h
 induction p with
 | nil=>exact .nil
 | cons h _ ih=>exact .cons (RD.tup (dv.of h) (.cons (RD.flat rfl 0) (.cons (RD.flat rfl 0) (.cons (RD.flat rfl 0) (.cons (RD.flat rfl 0) .nil))))) ih
theorem zJ (cm:Int->Nat){gs:List Int}{g:Int}(h:g∉gs):fb (dk (pH cm gs)) (Sum.inl g:bR) (V.int (cm g:Int))=dk (pH cm (gs++[g])):=by
 rw[jt];unfold put;rw[Ed]
 ·unfold pH;rw[EE];rfl
 ·intro z
  obtain⟨p,hp,e⟩:=List.any_eq_true.mp z;obtain⟨g',hg',rfl⟩:=EG.mp hp;exact h (by have:=FH e;rw[<-this];exact hg')
theorem qg (q:Q4)(j:Nat):(cL q j).length=j:=by unfold cL;rw[Eg,FJ]
theorem uQ (qs:List Q4)(q:Q4):cZ (qs++[q])=cZ qs++cL q (kD q):=by unfold cZ;rw[List.flatMap_append];simp
theorem wg {n:Nat}:∀ {qs:List Q4},(∀ q∈qs,kD q<=n)->(cZ qs).length<=qs.length*n
 | [],_=>EK _
 | q::qs,h=>by
  have ih:=wg (qs:=qs) fun x hx=>h x (Ek _ hx);have h0:=h q Ep;unfold cZ at ih ⊢;rw[List.flatMap_cons,Ew,qg,EO,Nat.succ_mul];omega
theorem ux.qs {es:List ay}{gs:List Int}{cm:Int->Nat}(AV:ux es gs cm){q:Q4}(h:q∈gr es cm gs):1<=q.1/\q.1<=q.2.1/\q.2.1<=(es.length:Int):=by
 unfold gr at h;obtain⟨g,hg,h1⟩:=FM.mp h;obtain⟨s,hs,rfl⟩:=EG.mp h1;obtain⟨a,b,x⟩:=s;obtain⟨h1,h2,h3,_⟩:=(AV.sm hg).mem.mp hs;have:=(AV.si g hg).c1;refine⟨?_,?_,?_⟩
 ·show (1:Int)<=(a:Int);omega
 ·show (a:Int)<=(b:Int);omega
 ·show (b:Int)<=(es.length:Int);omega
theorem yu {qs:List Q4}(nd:((cZ qs).map (·.1)).Nodup){i j:Nat}{q:Q4}(hq:qs[i]? = some q)(hj:j<kD q):((cZ (qs.take i)++cL q j).map (·.1)).Nodup/\(q.1+(j:Int),q.2.2.1)∉(cZ (qs.take i)++cL q j).map (·.1):=by
 have e:qs=qs.take i++(q::qs.drop (i+1)):=by
  obtain⟨hi,e⟩:=List.getElem?_eq_some_iff.mp hq;rw[<-e,<-List.drop_eq_getElem_cons hi,Fj]
 have hh:∃ r,cZ qs=cZ (qs.take i)++cL q (j+1)++r:=by
  have e2:cZ qs=cZ (qs.take i)++(cL q (kD q)++cZ (qs.drop (i+1))):=by
   conv=>lhs;rw[e]
   unfold cZ;rw[List.flatMap_append,List.flatMap_cons]
  have e3:∃ r,cL q (kD q)=cL q (j+1)++r:=by
   refine⟨(cL q (kD q)).drop (j+1),?_⟩
   have:cL q (j+1)=(cL q (kD q)).take (j+1):=by
    unfold cL;rw[<-List.map_take,List.take_range,Nat.min_eq_left (by omega)]
   rw[this,Fj]
  obtain⟨r,e3⟩:=e3;exact⟨r++cZ (qs.drop (i+1)),by rw[e2,e3];simp[Fg]⟩
 obtain⟨r,hr⟩:=hh;rw[hr,oF,<-Fg,EE]at nd;have nd:=(FI.mp nd).1;rw[EE]at nd;have h3:=FI.mp nd;refine⟨h3.1,fun z=>?_⟩;exact h3.2.2 _ z _ (El.mpr rfl) rfl
theorem y4 {G:Hp}{x y:Addr}{qs ws:List Q4}{Q':VK}(hx:fE G x qs)(hy:fE G y ws)(hl:qs.length+ws.length<=100000)(k:∀ (p:Addr)(G':Hp),G p=none->aF G G'->fE G' p (qs++ws)->Q' (.ref p) G'):Bp (.ref x) (.ref y) G Q':=by
 obtain⟨as,h1,p1⟩:=hx;obtain⟨bs,h2,p2⟩:=hy;have l1:=Er p1;have l2:=Er p2;refine⟨x,y,_,_,rfl,rfl,h1,h2,by rw[Eg,Eg];have:=FD;omega,fun p hp=>?_⟩;have s:=ao (o:=.lst (as.map V.ref++bs.map V.ref)) hp;refine k p _ hp s ⟨as++bs,by rw[ag,EE],?_⟩;exact be (Paired.mapP p1 fun a q z=>s _ _ z) (Paired.mapP p2 fun a q z=>s _ _ z)
end Wz
namespace L2
open PySem PySem.Spec PyProof.Rows
theorem xy {P:Program}{w:World}{K:PySem.W.Frag}{mg mb:Str->Option Value}{CX:qG}{k:Nat}{fa a:Addr}{T:List Addr}{fd:FuncData}{x:Str}{sp:Sp}{s₁:Shared}{vs:List Value}{ns:List Int}
  (KX:K.In s₁.heap) (hns:s₁.heap.Ns mainGlobals mg) (hb:s₁.heap.Ns builtinsNs mb) (hbb:∀ x:Str,x≠"__name__"->mb x=bootBuiltins x) (hlim:s₁.heap.NoLimit) (hg:s₁.gens = #[])
  (ha:s₁.heap.get? a=some { cls:=.type "list",data:=.seq vs.toArray }) (hi:IntsAre vs ns) (hl:ns.length<=sizeLine) (hr:b8 k callerA)
  (hK:PySem.W.noTabs K=true) (C:∀ b∈T,∃ c0,PySem.W.CodeHd s₁.heap c0 b) (hP:∀ b∈T,s₁.heap.get? b=some (PySem.W.tabObj #[])) (BM:pI mg s₁.heap)
  (F:∀ base:Heap,K.In base->base.Ns mainGlobals mg->pI mg base->aW P w K mg base CX k fa fd [x] sp) (hbind:∀ (s:Shared)(u:Value),BindsTo s fd ⟨[u],[]⟩ [(x,u)])
  (hsp:∀ H:Hp,(∀ b∈T,H b=some (.tbl #[]))->bz K H a (ns.map V.int)->sp [.ref a] H (fun v _=>v=.bl true) fun _ _ _=>False)
  (hCX:∀ H e s',CX [] H s₁ (fun _ _ _=>False) e s'->False) :
  codeAny (model P w) callerA (.call (.ref fa) ⟨[.ref a],[]⟩) (fun r s'=>r=.ok (.ret (.bool true))/\OldK s₁.heap s'.heap/\s'.os=s₁.os/\AllBare s'.gens) s₁:=by
 have rv:=qD hi;have lenV:=hi.length
 have aP:a∉T:=fun z=>by rw[hP a z]at ha;cases ha
 have Kno:∀ b o,K.lookup b=some o->b∉T:=fun b o e z=>by
  have e2:=KX b o e;rw[hP b z]at e2;cases e2;have h2:=List.all_eq_true.mp hK (b,PySem.W.tabObj #[]) (PySem.W.mem_of_lookupK e);exact absurd (show false=true from h2) Ej
 obtain⟨H,HP,HA,Hrest⟩:∃ H:Hp,(∀ b∈T,H b=some (.tbl #[]))/\((K.lookup a=none/\H a=some (.frz { cls:=.type "list",data:=.seq vs.toArray } (.lst (ns.map V.int))))\/(∃ o,K.lookup a=some o)/\H a=none)/\∀ b,b∉T->b≠a->H b=none:=by
  cases hk:K.lookup a with
  | some o=>exact⟨fun b=>if b∈T then some (.tbl #[]) else none,fun b hb=>Ee hb,.inr ⟨⟨o,rfl⟩,Ed aP⟩,fun b n _=>Ed n⟩
  | none=>exact⟨fun b=>if b∈T then some (.tbl #[]) else if b=a then some (.frz { cls:=.type "list",data:=.seq vs.toArray } (.lst (ns.map V.int))) else none,fun b hb=>Ee hb,.inl ⟨rfl,by show (if a∈T then _ else _)=_;rw[Ed aP,Ee rfl]⟩,fun b n1 n2=>by show (if b∈T then _ else _)=_;rw[Ed n1,Ed n2]⟩
 have hok:iJ P w H s₁.heap:=fun b u e=>by
  by_cases z:b∈T
  ·rw[HP b z]at e;cases e;exact hP b z
  ·by_cases z2:b=a
   ·rw[z2]at e ⊢
    rcases HA with ⟨_,q⟩ | ⟨_,q⟩
    ·rw[q]at e;cases e
     exact⟨ha,by rw[Eg];exact hl,vs,_,rv,ha⟩
    ·rw[q]at e;cases e
   ·rw[Hrest b z z2]at e;cases e
 have hS:bz K H a (ns.map V.int):=by
  rcases HA with ⟨_,q⟩ | ⟨⟨o,q1⟩,q⟩
  ·exact .inl (.inr ⟨_,q⟩)
  ·have e:=KX a o q1
   rw[ha]at e;cases e;exact .inr ⟨_,vs.toArray,_,q1,rfl,rfl,rfl,by rw[Ey,lenV];exact hl,by simpa using rv⟩
 have free:∀ {b:Addr}{o:Obj},s₁.heap.get? b=some o->(∀ qs,o.data≠.fields qs)->(∀ qs n,o.data≠.seq qs n)->H b=none:=fun {b o} e n1 n2=>Hrest b (fun z=>by rw[hP b z]at e;cases e;exact n1 _ rfl) (fun z=>by rw[z,ha]at e;cases e;exact n2 _ _ rfl);have nsK:∀ {b:Addr}{m:Str->Option Value},s₁.heap.Ns b m->(q8 s₁.heap H).Ns b m:=fun {b m} ⟨o,es,ep,e,d,r⟩=>⟨o,es,ep,oG e (free e (fun qs z=>by rw[d]at z;cases z) (fun qs n z=>by rw[d]at z;cases z)),d,r⟩
 have hKb:K.In (q8 s₁.heap H):=fun b o e=>oG (KX b o e) (by
  by_cases z:b=a
  ·rcases HA with ⟨q0,_⟩ | ⟨_,q⟩
   ·rw[z,q0]at e;cases e
   ·rw[z];exact q
  ·exact Hrest b (Kno b o e) z)
 have hM:Mod K mg (q8 s₁.heap H):=⟨hKb,nsK hns,⟨mb,nsK hb,hbb⟩,let ⟨mc,h1,h2⟩:=hlim;⟨mc,nsK h1,h2⟩⟩;have e0:qI P w K mg (q8 s₁.heap H) callerA [] s₁ H:=⟨rfl,hM,fun b o e=>Ad e,Nat.le_of_eq (xq _ _),trivial,fun b hb=>absurd (show b∈([]:List Addr) from hb) (by simp),hok,.of_eq hg⟩
 have BM2:pI mg (q8 s₁.heap H):=by
  obtain⟨bm,ob,b1,b2,b3,b4,b5,b6⟩:=BM;exact⟨bm,ob,b1,b2,oG b3 (free b3 (fun qs z=>by rw[b6]at z;cases z) (fun qs n z=>by rw[b6]at z;cases z)),b4,b5,b6⟩
 refine FS ((F _ hKb (nsK hns) BM2).run callerA [] s₁ H ⟨[.ref a],[]⟩ [.ref a] [.ref a] _ _ hr e0 (hbind s₁ (.ref a)) (.cons rfl .nil) (hsp H HP hS)) fun r s' h=>?_
 cases r with
 | error e=>exact (hCX H e s' h).elim
 | ok fl =>
  cases fl with
  | next=>exact False.elim h
  | brk=>exact False.elim h
  | cont=>exact False.elim h
  | ret u =>
   obtain⟨v,H',os,bare,un,hok',r',q⟩:=h;have q':v=.bl true:=q;subst q';obtain rfl:u=Value.bool true:=r'
   have kp:∀ b o,s₁.heap.get? b=some o->b∉T->s'.heap.get? b=some o:=fun b o e n=>by
    by_cases z:b=a
    ·rcases HA with ⟨_,q1⟩ | ⟨_,q1⟩
     ·have z2:=un.frzs b _ _ (by rw[z];exact q1)
      obtain⟨e2,_⟩:=hok' b _ z2;rw[z,ha]at e;cases e;exact e2
     ·exact un.keep b o e (by rw[z];exact q1) (by intro z;exact absurd (show b∈([]:List Addr) from z) (by simp)) (by simp)
    ·exact un.keep b o e (Hrest b n z) (by intro z;exact absurd (show b∈([]:List Addr) from z) (by simp)) (by simp)
   have hP':∀ b∈T,∃ more,s'.heap.get? b=some (PySem.W.tabObj (#[]++more)):=fun b hb=>by
    obtain⟨more,hm⟩:=un.tbls b _ (HP b hb);exact⟨more,hok' b _ hm⟩
   refine⟨rfl,⟨fun b o e=>?_,fun b o e=>?_⟩,os,bare⟩
   ·by_cases z:b∈T
    ·have e':=e
     rw[hP b z]at e';cases e';obtain⟨c0,CB⟩:=C b z;obtain⟨more,hm⟩:=hP' b z;exact .inr (.inl ⟨(CB.tab (hP b z)).isCodeTable,rfl,#[],more,rfl,hm⟩)
    ·exact .inl (kp b o e z)
   ·by_cases z:b∈T
    ·obtain⟨more,hm⟩:=hP' b z
     exact⟨_,hm⟩
    ·exact⟨o,kp b o e z⟩
theorem walk_ofL {l:PySem.W.OpenLaw}{n k:Nat}{q:Program}{loose:List Str}{XP:(Str->Option Value)->Heap->Prop}{YP:World->Heap->Prop}{d:DefRec}{K:Params->PySem.W.Frag}{CX:World->qG}{sp:World->Sp}{x:Str}{tabs:List (Str×Addr×Addr)}
  (hn:l.most=some n) (hn2:n<=sizeLine) (hdf:d.params.defaults=[]) (hr:b8 k callerA)
  (hY:∀ (w:World)(h:Heap),YP w h->(K w.params).In h)
  (hTY:∀ (w:World)(h:Heap),YP w h->∀ t∈tabs,h.get? t.2.2=some (PySem.W.tabObj #[])) (hch:∀ w:World,∀ t∈tabs,PySem.W.codeHdIn (K w.params) t.2.1 t.2.2=true) (htab:∀ w:World,∀ t∈tabs,PySem.W.tabIn (K w.params) t.1=some (t.2.1,t.2.2)) (hnt:∀ w:World,PySem.W.noTabs (K w.params)=true)
  (F:∀ (w:World)(mg:Str->Option Value)(fa:Addr)(h:Heap),(K w.params).In h->h.Ns mainGlobals mg->mg d.name=some (.ref fa)->(∀ t∈tabs,iC (K w.params) t.2.1 t.2.2/\PySem.W.tabIn (K w.params) t.1=some (t.2.1,t.2.2)) ->
   ∃ fd:FuncData,(∀ (s:Shared)(u:Value),BindsTo s fd ⟨[u],[]⟩ [(x,u)]) /\
    ∀ base:Heap,(K w.params).In base->base.Ns mainGlobals mg->pI mg base->aW l.prog w (K w.params) mg base (CX w) k fa fd [x] (sp w))
  (hsp:∀ (w:World)(H:Hp)(a:Addr)(ns:List Int),ns.length<=n->(∀ t∈tabs,H t.2.2=some (.tbl #[]))->bz (K w.params) H a (ns.map V.int)->sp w [.ref a] H (fun v _=>v=.bl true) fun _ _ _=>False)
  (hCX:∀ (w:World)(H:Hp)(s:Shared)(e:Value)(s':Shared),CX w [] H s (fun _ _ _=>False) e s'->False) :
  PySem.W.WalkO q loose XP YP l.row.toRowW d [] (fun f vs=>PySem.call f vs):=by
 refine Att.attach_call hn hdf fun w s₀ s₁ mg mb fa o pm cd doc a vs ns G Y ho hd hcd hmg hobj hints hlen hg=>?_;have KX:=hY w _ Y;have CH:∀ t∈tabs,PySem.W.CodeHd _ t.2.1 t.2.2:=fun t ht=>PySem.W.codeHd_of_K KX (hch w t ht);have hP:=hTY w _ Y;obtain⟨fd,hb,hF⟩:=F w mg fa _ KX G.T.g hmg (fun t ht=>⟨yb (htab w t ht) KX (CH t ht),htab w t ht⟩);exact xy KX G.T.g G.T.b G.T.builtins G.T.nolimit hg hobj hints (EI hlen hn2) hr (T:=tabs.map (·.2.2)) (hnt w) (fun b hb=>by obtain⟨t,ht,rfl⟩:=EG.mp hb;exact⟨_,CH t ht⟩) (fun b hb=>by obtain⟨t,ht,rfl⟩:=EG.mp hb;exact hP t ht) G.T.bmain hF hb (fun H hO hS=>hsp w H a ns hlen (fun t ht=>hO _ (FL (f:=(·.2.2)) ht)) hS) fun H e s'=>hCX w H s₁ e s'
end L2
namespace Wk55
open PySem L2 Wz
def iG (i:Nat):Stmt:=PySem.Challenge.pw_lastwaltz_k55_whole_masks_walk_apart.main.body.getD i (.Pass ⟨0,0,0,0⟩)
structure DS (mg:Str->Option Value):Prop where
 len:mg "len" = none
 range:mg "range" = none
 isinstance:mg "isinstance" = none
 tuple:mg "tuple" = none
 list:mg "list" = none
 int:mg "int" = none
 bool:mg "bool" = none
 all:mg "all" = none
 any:mg "any" = none
 sorted:mg "sorted" = none
 reversed:mg "reversed" = none
 bset:mg "set" = none
 bmin:mg "min" = none
 bmax:mg "max" = none
 dict:mg "dict" = none
 zip:mg "zip" = none
 enumerate:mg "enumerate" = none
 sum:mg "sum" = none
 str:mg "str" = none
section
variable {P:Program}{w:World}{K:PySem.W.Frag}{mg:Str->Option Value}{base:Heap}{c:HX}{co cq ck f P0 P1:Addr}{fd:FuncData}
abbrev ff:Stmt:=dg (iG 7) 0
abbrev oN:List Str:=["self","guest"]
theorem mY:az oN ["self","guest"] (au ff):=iE
abbrev iq:Stmt:=dg (iG 9) 0
abbrev tD:List Str:=["self"]
theorem rQ:az tD ["self"] (au iq):=iE
abbrev ip:Stmt:=dg (iG 9) 1
abbrev tz:List Str:=["self","guest"]
theorem rP:az tz ["self","guest"] (au ip):=iE
abbrev j9:Stmt:=dg (iG 9) 2
abbrev xE:List Str:=["self","guest"]
theorem vz:az xE ["self","guest"] (au j9):=iE
abbrev eJ:Stmt:=dg (iG 9) 3
abbrev mV:List Str:=["self","one","other","mask","other_mask"]
theorem eF:az mV ["self","one","other"] (au eJ):=iE
abbrev gE:Stmt:=dg (iG 9) 4
abbrev rn:List Str:=["self","guest","mask"]
theorem pS:az rn ["self","guest","mask"] (au gE):=iE
abbrev eG:Stmt:=dg (iG 9) 5
abbrev mU:List Str:=["self","one","other","circle"]
theorem gT:az mU ["self","one","other"] (au eG):=iE
abbrev fT:Stmt:=dg (iG 9) 6
abbrev pN:List Str:=["self","guest"]
theorem pe:az pN ["self","guest"] (au fT):=iE
abbrev fS:Stmt:=dg (iG 9) 7
abbrev pM:List Str:=["self"]
theorem pd:az pM ["self"] (au fS):=iE
abbrev gG:Stmt:=dg (iG 9) 8
abbrev rp:List Str:=["self","guest"]
theorem pU:az rp ["self","guest"] (au gG):=iE
abbrev fU:Stmt:=dg (iG 9) 9
abbrev pO:List Str:=["self","mask"]
theorem ph:az pO ["self","mask"] (au fU):=iE
abbrev i8:Stmt:=dg (iG 9) 10
abbrev u9:List Str:=["self","one","other"]
theorem t8:az u9 ["self","one","other"] (au i8):=iE
abbrev gF:Stmt:=dg (iG 9) 13
abbrev ro:List Str:=["self"]
theorem pT:az ro ["self"] (au gF):=iE
abbrev ka:Stmt:=iG 11
abbrev xF:List Str:=["hall","deed"]
theorem vA:az xF ["hall","deed"] (au ka):=iE
abbrev gI:Stmt:=iG 12
abbrev rq:List Str:=["hall","guest","ask","then","walk","moment","deed"]
theorem cG:az rq ["hall","guest","ask"] (au gI):=iE
abbrev aO:Stmt:=iG 13
abbrev tL:List Str:=["hall","mask"]
abbrev bi:Str:=(("mask_walk" : Str)++".<locals>.")++"<lambda>"
abbrev dZ:Pos:=Cn (bF aO)
theorem rV:az tL ["hall","mask"] (au aO):=iE
abbrev aN:Stmt:=iG 14
abbrev tE:List Str:=["hall","guest"]
abbrev bh:Str:=(("face_walk" : Str)++".<locals>.")++"<lambda>"
abbrev dY:Pos:=Cn (bF aN)
theorem rR:az tE ["hall","guest"] (au aN):=iE
abbrev fV:Stmt:=iG 16
abbrev pP:List Str:=["_law_script","_law_k"]
theorem pj:az pP ["_law_script","_law_k"] (au fV):=iE
abbrev iB:Stmt:=iG 17
abbrev tK:List Str:=["_law_found"]
theorem rT:az tK ["_law_found"] (au iB):=iE
abbrev jc:Stmt:=iG 18
abbrev ve:List Str:=["_law_cell"]
theorem ud:az ve ["_law_cell"] (au jc):=iE
abbrev iw:Stmt:=iG 19
abbrev tH:List Str:=["_law_cell","_law_many","_law_base","_law_left","_law_row_here","_law_count","_law_k","_law_now"]
theorem bu:az tH ["_law_cell","_law_many","_law_base"] (au iw):=iE
abbrev d7:Stmt:=iG 20
abbrev lz:List Str:=["_law_script","_law_start","_law_most","_law_base","_law_row_here","_law_cell","_law_drawn"]
theorem cR:az lz ["_law_script","_law_start","_law_most","_law_base"] (au d7):=iE
abbrev iz:Stmt:=iG 21
abbrev tI:List Str:=["_law_k","_law_cell","_law_left","_law_turn","_law_number"]
theorem fz:az tI ["_law_k","_law_cell"] (au iz):=iE
abbrev kg:Stmt:=iG 22
abbrev xH:List Str:=["_law_one","_law_other"]
theorem vB:az xH ["_law_one","_law_other"] (au kg):=iE
abbrev kf:Stmt:=iG 23
abbrev xG:List Str:=["_law_worn","_law_met","_law_deed_here","_law_guest_here"]
theorem pk:az xG ["_law_worn","_law_met","_law_deed_here"] (au kf):=iE
abbrev ir:Stmt:=iG 24
abbrev tF:List Str:=["_law_worn","_law_met","_law_deed_here","_law_kept"]
theorem kP:az tF ["_law_worn","_law_met","_law_deed_here"] (au ir):=iE
abbrev i9:Stmt:=iG 25
abbrev vb:List Str:=["_law_drawn","_law_many","_law_cell","_law_one"]
theorem mG:az vb ["_law_drawn","_law_many","_law_cell"] (au i9):=iE
abbrev iu:Stmt:=iG 26
abbrev tG:List Str:=["_law_cell"]
theorem rS:az tG ["_law_cell"] (au iu):=iE
abbrev d6:Stmt:=iG 27
abbrev iV:List Str:=["_law_script","_law_cell","_law_many","_law_first","_law_deeds_here"]
theorem d5:az iV ["_law_script"] (au d6):=iE
abbrev fW:Stmt:=iG 28
abbrev pQ:List Str:=["_law_script","_law_worn","_law_met","_law_story","_law_deed_here"]
theorem da:az pQ ["_law_script"] (au fW):=iE
abbrev lN:Stmt:=iG 29
abbrev yH:List Str:=["_law_hall","_law_deed_here"]
theorem xU:az yH ["_law_hall","_law_deed_here"] (au lN):=iE
abbrev fX:Stmt:=iG 30
abbrev pR:List Str:=["_law_story","_law_hall","_law_deed_here"]
theorem fR:az pR ["_law_story"] (au fX):=iE
abbrev ja:Stmt:=iG 31
abbrev vc:List Str:=["_law_found"]
theorem uc:az vc ["_law_found"] (au ja):=iE
abbrev iA:Stmt:=iG 32
abbrev qq:List Str:=["_law_found"]
theorem vC:az qq ["_law_found"] (au iA):=iE
abbrev eK:Stmt:=iG 33
abbrev mX:List Str:=["_law_walk","_law_last","_law_found","_law_place","_law_moment","_law_guest_here","_law_until"]
theorem bC:az mX ["_law_walk","_law_last"] (au eK):=iE
abbrev jb:Stmt:=iG 34
abbrev vd:List Str:=["_law_stretches_here","_law_came","_law_found","_law_one","_law_until","_law_who","_law_mask"]
theorem dS:az vd ["_law_stretches_here","_law_came"] (au jb):=iE
abbrev dy:Stmt:=iG 35
abbrev jU:List Str:=["_law_walk","_law_mask","_law_story","_law_place","_law_deed_here","_law_one","_law_other"]
theorem bJ:az jU ["_law_walk","_law_mask","_law_story"] (au dy):=iE
abbrev lM:Stmt:=iG 36
abbrev ww:List Str:=["_law_script","_law_worn","_law_met","_law_story","_law_hall","_law_last","_law_masks","_law_faces","_law_came","_law_guest_here","_law_walk","_law_seen_here","_law_held","_law_one","_law_until","_law_who","_law_mask","_law_moment"]
theorem cu:az ww ["_law_script"] (au lM):=iE
variable (T:DS mg)(U:HT K mg c)(VM:HM K c)
include T U VM
theorem e7 (F:eR K "__init__" "NoGuest.__init__" ff f fd) : aW P w K mg base dB 1 f fd ["self","guest"] (Ar c.cN "guest"):=by
 refine F.ok mY (fun vs H Q E h=>?_) (fun cdv A outer s H vs Q E hr h=>?_)
 ·obtain⟨ea,g,rfl,_⟩:=h
  rfl
 ·obtain⟨ea,g,rfl,hg,hx,k⟩:=h
  refine⟨_,ah (bg (yO (fI:=c.fN) rfl U.mW U.wS U.wR U.wI (ar (pv 0) (ar (kI (dm (ii (pv 1)) (dm aY (o8)))) ax)))) (
   ai (yZ (pv 0) (pv 1) rfl)),?_⟩
  refine⟨_,rfl,_,rfl,g,rfl,hg,fun y hy=>⟨y,rfl,hy,_,rfl,by decide,fun z=>⟨ea,c.cN,_,rfl,hx,U.eN,?_⟩⟩⟩;exact⟨_,rfl,_,rfl,ea,c.cN,rfl,hx,U.gN,k⟩
theorem ic (F:eR K "__init__" "Hall.__init__" iq f fd) : aW P w K mg base dB 1 f fd ["self"] (wJ c.C):=by
 refine F.ok rQ (fun vs H Q E h=>?_) (fun cdv A outer s H vs Q E hr h=>?_)
 ·obtain⟨p,dx,rfl,_⟩:=h
  rfl
 ·obtain⟨p,dx,rfl,hp,k⟩:=h
  refine⟨_,ah (rN (pv 0) fO rfl) (
   ah (rN (pv 0) fO rfl) (
   ah (rN (pv 0) fO rfl) (
   ai (rN (pv 0) (e9 ax) rfl)))),?_⟩
  intro w hw;have n1:p≠w:=ak hp hw;refine⟨_,rfl,p,c.C,dx,[],rfl,(by rw[ae n1];exact hp),U.cl,U.nW,(by show 0<1000;decide),?_⟩;intro h hh;have n2:p≠h:=ak ag hh;refine⟨_,rfl,p,c.C,dx,_,rfl,(by rw[ae n2,ag]),U.cl,U.nH,(by show 1<1000;decide),?_⟩;intro cc hc;have n3:p≠cc:=ak ag hc;refine⟨_,rfl,p,c.C,dx,_,rfl,(by rw[ae n3,ag]),U.cl,U.nC,(by show 2<1000;decide),?_⟩;refine⟨by show 0<=sizeLine;exact EK _,fun d hd=>?_⟩;have n4:p≠d:=ak ag hd;refine⟨_,rfl,p,c.C,dx,_,rfl,(by rw[ae n4,ag]),U.cl,U.nD,(by show 3<1000;decide),?_⟩;rw[ae (Ex n2)]at hh;have wh:w≠h:=ak ag hh;rw[ae (Ex n3)]at hc;have hcw:h≠cc:=ak ag hc;rw[ae (Ex hcw),ae (Ex n3)]at hc;have hwc:w≠cc:=ak ag hc;rw[ae (Ex n4)]at hd;have hdc:cc≠d:=ak ag hd;rw[ae (Ex hdc),ae (Ex n4)]at hd;have hdh:h≠d:=ak ag hd;rw[ae (Ex hdh),ae (Ex n4)]at hd;have hdw:w≠d:=ak ag hd;rw[ae (Ex hdw)]at hd;rw[ae (Ex hwc)]at hc;rw[ae (Ex wh)]at hh;refine k ⟨dx,w,h,cc,d,[]⟩ _ ⟨ag,?_,?_,?_,?_,.nil,[],?_,.nil⟩ (fun b o e hb=>?_) fun b hb=>?_
  ·simp[HA.fp,wh,hwc,hdw,hcw,hdh,hdc]
  ·rw[ae (Ex n1),ae hdw,ae (Ex n1),ae hwc,ae (Ex n1),ae wh,ae (Ex n1),ag]
   rfl
  ·rw[ae (Ex n2),ae hdh,ae (Ex n2),ae hcw,ae (Ex n2),ag]
   rfl
  ·rw[ae (Ex n3),ae hdc,ae (Ex n3),ag]
   rfl
  ·rw[ae (Ex n4),ag]
   rfl
  ·rw[ae hb,ae (ak e hd),ae hb,ae (ak e hc),ae hb,ae (ak e hh),ae hb,ae (ak e hw)]
   exact e
  ·simp[HA.fp]at hb
   rcases hb with rfl | rfl | rfl | rfl
   ·exact hw
   ·exact hh
   ·exact hc
   ·exact hd
theorem hZ (F:eR K "come" "Hall.come" ip f fd)(ba:av P w K mg base dB c.C "dress" 1 ["self","guest","mask"] (ik c.C)) : aW P w K mg base (eY P w) 2 f fd ["self","guest"] (j6 c):=by
 refine F.okX rP (fun vs H Q E h=>?_) (fun cdv A outer s H vs Q E hr h=>?_)
 ·obtain⟨p,B,st,g,rfl,_⟩:=h
  rfl
 ·obtain⟨p,B,st,g,rfl,S,ft,hg,k⟩:=h
  have hu:=fJ hr
  refine⟨_,ah (br (ij (iY hu (pv 1) (c7 (pv 0) rfl))) (ai (kJ U.eA fG rfl hr.hd rfl U.mA (kI (dm (ii (pv 1)) (dm aY (o8)))))) aJ) (
   ah (bg (dE ba (pv 0) U.cl hr fM (ar (pv 1) (ar (pv 1) ax)))) (
   ai (bg (jJ EV ES ET cF (c7 (pv 0) rfl) (ar (bx (ar (aY) (ar (pv 1) (ax)))) ax))))),?_⟩
  have g1:cI H B.w (.int g) ((look st.worn g).map V.int):=by rw[<-dM];exact cI.k (k:=Sum.inl g) S.w
  refine⟨_,rfl,_,rfl,p,c.C,B.dx,_,_,rfl,S.ob,U.cl,U.nW,uR _,B.w,_,rfl,g1,_,rfl,?_⟩
  cases e:look st.worn g with
  | some m =>
   refine bY ⟨_,rfl,g,rfl,hg,fun y hy=>⟨y,rfl,hy,_,rfl,by decide,fun z=>?_⟩⟩;exact fF (o:=.already) k (by simp[aX,e]) (by simp) _ (fun _ _ z=>z)
  | none =>
   refine aV ⟨_,rfl,p,B.dx,_,rfl,S.ob,uS _ (by decide +kernel),_,rfl,_,rfl,p,B,st,g,g,rfl,S,by have:=ft.w;omega,by have:=ft.h;omega,?_⟩;have S1:=qY (qZ S (put st.worn g g)) (put st.hold g g);have k1:Kp B.fp H (upd (upd H B.w (.dK (dk (put st.worn g g)))) B.h (.dK (dk (put st.hold g g)))):=(fK wq).on (fK wo);have t1:Tr H (upd (upd H B.w (.dK (dk (put st.worn g g)))) B.h (.dK (dk (put st.hold g g)))):=(Tr.refl.upd _ _).upd _ _;generalize upd (upd H B.w (.dK (dk (put st.worn g g)))) B.h (.dK (dk (put st.hold g g)))=H1 at S1 k1 t1;obtain⟨as,hd,hp⟩:=id S1.d;have hl:as.length=st.deeds.length:=Er hp;refine⟨_,rfl,p,c.C,B.dx,_,_,rfl,S1.ob,U.cl,U.nD,zV _,.inl ⟨rfl,_,bz.of hd⟩,_,rfl,by show 2<=sizeLine;decide,fun t ht=>?_⟩;have td:B.d≠t:=ak hd ht;refine⟨B.d,_,_,rfl,rfl,by rw[ae td];exact hd,by rw[Eg];exact bn (by have:=ft.d;omega),?_⟩;refine lb k (by simp[aX,e]) _ ⟨B,ll S1 hd hp (.come g) ht,(k1.on (uV ht)).on (fK yG),fun b hb=>.inl hb,(t1.upd _ _).upd _ _⟩
theorem jV (F:eR K "go" "Hall.go" j9 f fd)(aB:av P w K mg base (eY P w) c.C "wears" 3 ["self","guest"] (fA c)) : aW P w K mg base (eY P w) 4 f fd ["self","guest"] (vE c):=by
 refine F.okX vz (fun vs H Q E h=>?_) (fun cdv A outer s H vs Q E hr h=>?_)
 ·obtain⟨p,B,st,g,rfl,_⟩:=h
  rfl
 ·obtain⟨p,B,st,g,rfl,S,ft,hg,hm,k⟩:=h
  refine⟨_,ah (br (aE qu (dE aB (pv 0) U.cl hr di (ar (pv 1) ax)) (pv 1) (aQ _)) (ai (kJ U.eM fG rfl hr.hd rfl U.mM (kI (dm (ii (pv 1)) (dm aY (dm (ii (dE aB (pv 0) U.cl hr di (ar (pv 1) ax))) (o8))))))) aJ) (
   ah (bg (o0 (c7 (pv 0) rfl) (pv 1) ⟨rfl,rfl,rfl,rfl⟩)) (
   ah (bg (o0 (c7 (pv 0) rfl) (pv 1) ⟨rfl,rfl,rfl,rfl⟩)) (
   ai (bg (jJ EV ES ET cF (c7 (pv 0) rfl) (ar (bx (ar (aY) (ar (pv 1) (ax)))) ax)))))),?_⟩
  have no:=kz B (m:="wears") (by decide +kernel) (by decide +kernel) (by decide +kernel) (by decide +kernel);refine⟨_,rfl,p,B.dx,_,rfl,S.ob,no,_,rfl,p,B,st,g,rfl,S,hg,?_⟩
  cases e:look st.worn g with
  | none=>exact fF (o:=.noguest g) k (by simp[aX,e]) (by simp)
  | some m =>
   obtain⟨hs,hh⟩:=hm m e;refine⟨_,rfl,rfl,_,rfl,?_⟩
   by_cases em:m=g
   ·subst em
    rw[EC rfl];refine aV ?_
    have hv:db (dk st.worn) (Sum.inl m:bR)=some (V.int m):=by rw[dM,e];rfl
    obtain⟨m2,e2⟩:=EL.mp (hh rfl)
    have hv2:db (dk st.hold) (Sum.inl m:bR)=some (V.int m2):=by rw[dM,e2];rfl
    refine⟨_,rfl,p,c.C,B.dx,_,_,rfl,S.ob,U.cl,U.nW,uR _,B.w,rfl,.inl ⟨_,.inl S.w⟩,_,rfl,_,Sum.inl m,_,S.w,rfl,hv,?_⟩;rw[ox];have S0:=qZ S (b7 st.worn m);refine⟨_,rfl,p,c.C,B.dx,_,_,rfl,S0.ob,U.cl,U.nH,zW _,B.h,rfl,.inl ⟨_,.inl S0.h⟩,_,rfl,_,Sum.inl m,_,S0.h,rfl,hv2,?_⟩;rw[ox];have S1:=qY S0 (b7 st.hold m);have k1:Kp B.fp H (upd (upd H B.w (.dK (dk (b7 st.worn m)))) B.h (.dK (dk (b7 st.hold m)))):=(fK wq).on (fK wo);have t1:Tr H (upd (upd H B.w (.dK (dk (b7 st.worn m)))) B.h (.dK (dk (b7 st.hold m)))):=(Tr.refl.upd _ _).upd _ _;generalize upd (upd H B.w (.dK (dk (b7 st.worn m)))) B.h (.dK (dk (b7 st.hold m)))=H1 at S1 k1 t1;obtain⟨as,hd,hp⟩:=id S1.d;have hl:as.length=st.deeds.length:=Er hp;refine⟨_,rfl,p,c.C,B.dx,_,_,rfl,S1.ob,U.cl,U.nD,zV _,.inl ⟨rfl,_,bz.of hd⟩,_,rfl,by show 2<=sizeLine;decide,fun t ht=>?_⟩;have td:B.d≠t:=ak hd ht;refine⟨B.d,_,_,rfl,rfl,by rw[ae td];exact hd,by rw[Eg];exact bn (by have:=ft.d;omega),?_⟩;refine lb k (by simp[aX,e]) _ ⟨B,ll S1 hd hp (.go m) ht,(k1.on (uV ht)).on (fK yG),fun b hb=>.inl hb,(t1.upd _ _).upd _ _⟩
   ·rw[EA (fun z=>em (V.int.inj z))]
    refine bY ⟨_,rfl,g,rfl,hg,fun y hy=>⟨y,rfl,hy,_,rfl,by decide,?_⟩⟩;refine⟨_,rfl,p,B.dx,_,rfl,S.ob,no,_,rfl,p,B,st,g,rfl,S,hg,?_⟩;rw[e];refine⟨m,rfl,hs,fun y hy=>⟨y,rfl,hy,fun z=>?_⟩⟩;exact fF (o:=.masked) k (by simp[aX,e,em]) (by simp) _ (fun _ _ z=>z)
theorem eE (F:eR K "exchange" "Hall.exchange" eJ f fd)(aB:av P w K mg base (eY P w) c.C "wears" 3 ["self","guest"] (fA c))(dO:av P w K mg base dB c.C "met" 1 ["self","one","other"] (qA c.C))(ba:av P w K mg base dB c.C "dress" 1 ["self","guest","mask"] (ik c.C))(bv:av P w K mg base dB c.C "acquaint" 1 ["self","one","other"] (qz c.C)) : aW P w K mg base (eY P w) 4 f fd ["self","one","other"] (j7 c):=by
 refine F.okX eF (fun vs H Q E h=>?_) (fun cdv A outer s H vs Q E hr h=>?_)
 ·obtain⟨p,B,st,a,b,rfl,_⟩:=h
  rfl
 ·obtain⟨p,B,st,a,b,rfl,S,ft,ha,hb,k⟩:=h
  have hr1:b8 1 _:=hr.mono (by decide)
  refine⟨_,ah (dw (i:=3) eF.nd rfl (Or.inl rfl) (dE aB (pv 0) U.cl hr di (ar (pv 1) ax))) (
   ah (dw (i:=4) eF.nd rfl (Or.inl rfl) (dE aB (pv 0) U.cl hr di (ar (pv 2) ax))) (
   ah (br (aE dX (pv 1) (pv 2) (aQ _)) (ai (kJ U.eS fG rfl hr.hd rfl U.mS (kI (dm (ii (pv 1)) (dm aY (o8)))))) aJ) (
   ah (br (i6 (dE dO (pv 0) U.cl hr1 fM (ar (pv 1) (ar (pv 2) ax)))) (ai (kJ U.eT fG rfl hr.hd rfl U.mT (kI (dm (ii (pv 1)) (dm aY (dm (ii (pv 2)) (dm aY (o8)))))))) aJ) (
   ah (bg (dE ba (pv 0) U.cl hr1 fM (ar (pv 1) (ar (pv 4) ax)))) (
   ah (bg (dE ba (pv 0) U.cl hr1 fM (ar (pv 2) (ar (pv 3) ax)))) (
   ah (bg (dE bv (pv 0) U.cl hr1 fM (ar (pv 1) (ar (pv 2) ax)))) (
   ah (bg (dE bv (pv 0) U.cl hr1 fM (ar (pv 2) (ar (pv 1) ax)))) (
   ai (bg (jJ EV ES ET cF (c7 (pv 0) rfl) (ar (bx (ar (aY) (ar (pv 1) (ar (pv 2) (ax))))) ax))))))))))),?_⟩
  have no:∀ (B:HA)(m:Str),m∈(["wears","met","dress","acquaint"]:List Str)->(bO B).lookup m=none:=fun B m hm=>by
   simp only[En,List.not_mem_nil,or_false]at hm;rcases hm with rfl | rfl | rfl | rfl<;>exact uS B (by decide +kernel)
  have n1:∀ B:HA,(bO B).lookup ("wears" : Str)=none:=fun B=>no B _ (by simp);have n2:∀ B:HA,(bO B).lookup ("met" : Str)=none:=fun B=>no B _ (by simp);have n3:∀ B:HA,(bO B).lookup ("dress" : Str)=none:=fun B=>no B _ (by simp);have n4:∀ B:HA,(bO B).lookup ("acquaint" : Str)=none:=fun B=>no B _ (by simp);refine⟨_,rfl,p,B.dx,_,rfl,S.ob,n1 B,_,rfl,p,B,st,a,rfl,S,ha,?_⟩
  cases ea:look st.worn a with
  | none=>exact fF (o:=.noguest a) k (by simp[aX,ea]) (by simp)
  | some ma =>
   refine⟨_,rfl,p,B.dx,_,rfl,S.ob,n1 B,_,rfl,p,B,st,b,rfl,S,hb,?_⟩
   cases eb:look st.worn b with
   | none=>exact fF (o:=.noguest b) k (by simp[aX,ea,eb]) (by simp)
   | some mb =>
    refine⟨_,rfl,_,rfl,rfl,_,rfl,?_⟩
    by_cases eab:a=b
    ·rw[EC (by rw[eab])]
     refine bY ⟨_,rfl,a,rfl,ha,fun y hy=>⟨y,rfl,hy,_,rfl,by decide,fun z=>?_⟩⟩;exact fF (o:=.same) k (by simp[aX,ea,eb,eab]) (by simp) _ (fun _ _ z=>z)
    ·rw[EA (fun z=>eab (V.int.inj z))]
     refine aV ⟨_,rfl,p,B.dx,_,rfl,S.ob,n2 B,_,rfl,_,rfl,p,B,st,a,b,rfl,S,fun H1 s1=>⟨_,rfl,?_⟩⟩
     cases em:iU st.circ a b with
     | true =>
      refine bY ⟨_,rfl,a,rfl,ha,fun y hy=>⟨y,rfl,hy,_,rfl,by decide,_,rfl,b,rfl,hb,fun y hy=>⟨y,rfl,hy,_,rfl,by decide,fun z=>?_⟩⟩⟩;exact fF (o:=.met) k (by simp[aX,ea,eb,eab,em]) (by simp) _ s1
     | false =>
      refine aV ?_;have S1:=S.mono s1;have kd:=lb k (by simp[aX,ea,eb,eab,em])
      have wa:wr st.worn a=ma:=by unfold wr;rw[ea];rfl
      have wb:wr st.worn b=mb:=by unfold wr;rw[eb];rfl
      have l1:=ri st.worn a mb;have l2:=ri st.hold mb a;have f1:=ft.w;have f2:=ft.h;refine⟨_,rfl,p,B.dx,_,rfl,S1.ob,n3 B,_,rfl,_,rfl,p,B,st,a,mb,rfl,S1,by omega,by omega,?_⟩;have S2:=qY (qZ S1 (put st.worn a mb)) (put st.hold mb a);have k2:Kp B.fp H (upd (upd H1 B.w (.dK (dk (put st.worn a mb)))) B.h (.dK (dk (put st.hold mb a)))):=((Kp.of_same s1).on (fK wq)).on (fK wo);have t2:Tr H (upd (upd H1 B.w (.dK (dk (put st.worn a mb)))) B.h (.dK (dk (put st.hold mb a)))):=((Tr.of_same s1).upd _ _).upd _ _;generalize upd (upd H1 B.w (.dK (dk (put st.worn a mb)))) B.h (.dK (dk (put st.hold mb a)))=H2 at S2 k2 t2;refine⟨_,rfl,p,B.dx,_,rfl,S2.ob,n3 B,_,rfl,_,rfl,p,B,_,b,ma,rfl,S2,by show (put st.worn a mb).length<2000;omega,by show (put st.hold mb a).length<2000;omega,?_⟩;have S3:=qY (qZ S2 (put (put st.worn a mb) b ma)) (put (put st.hold mb a) ma b);have k3:Kp B.fp H (upd (upd H2 B.w (.dK (dk (put (put st.worn a mb) b ma)))) B.h (.dK (dk (put (put st.hold mb a) ma b)))):=(k2.on (fK wq)).on (fK wo);dsimp only at S3 ⊢;have t3:Tr H (upd (upd H2 B.w (.dK (dk (put (put st.worn a mb) b ma)))) B.h (.dK (dk (put (put st.hold mb a) ma b)))):=(t2.upd _ _).upd _ _;generalize upd (upd H2 B.w (.dK (dk (put (put st.worn a mb) b ma)))) B.h (.dK (dk (put (put st.hold mb a) ma b)))=H3 at S3 k3 t3;refine⟨_,rfl,p,B.dx,_,rfl,S3.ob,n4 B,_,rfl,_,rfl,p,B,_,a,b,rfl,S3,by have:=ft.c;show st.circ.length<2000;omega,fun x hx=>by have:=ft.k x hx;omega,fun H4 ⟨B4,S4,k4,p4,t4⟩=>?_⟩;dsimp only at S4;refine⟨_,rfl,p,B4.dx,_,rfl,S4.ob,n4 B4,_,rfl,_,rfl,p,B4,_,b,a,rfl,S4,by have:=ft.c;have:=kE st.circ a b;show (bN st.circ a b).length<2000;omega,fun x hx=>by have:=nV (n:=999) (fun x hx=>by have:=ft.k x hx;omega) (by decide) x hx;omega,fun H5 ⟨B5,S5,k5,p5,t5⟩=>?_⟩
      dsimp only at S5;have k4':Kp B.fp H H4:=k3.on k4
      have f4:∀ x∈B4.fp,x∈B.fp\/H x=none:=fun x hx=>by
       rcases p4 x hx with z | z
       ·exact .inl z
       ·by_cases hq:x∈B.fp
        ·exact .inl hq
        ·refine .inr ?_
         cases e:H x with
         | none=>rfl
         | some o=>rw[k3 x o e hq]at z;cases z
      have k5':Kp B.fp H H5:=k4'.trans k5 f4
      have f5:∀ x∈B5.fp,x∈B.fp\/H x=none:=fun x hx=>by
       rcases p5 x hx with z | z
       ·exact f4 x z
       ·by_cases hq:x∈B.fp
        ·exact .inl hq
        ·refine .inr ?_
         cases e:H x with
         | none=>rfl
         | some o=>rw[k4' x o e hq]at z;cases z
      obtain⟨as,hd,hp⟩:=id S5.d;have hl:as.length=st.deeds.length:=Er hp;refine⟨_,rfl,p,c.C,B5.dx,_,_,rfl,S5.ob,U.cl,U.nD,zV _,.inl ⟨rfl,_,bz.of hd⟩,_,rfl,_,rfl,by show 3<=sizeLine;decide,fun t ht=>?_⟩;have td:B5.d≠t:=ak hd ht;refine⟨B5.d,_,_,rfl,rfl,by rw[ae td];exact hd,by rw[Eg];exact bn (by have:=ft.d;omega),?_⟩;have S6:=ll S5 hd hp (.exch a b) ht;refine kd _ ⟨B5,?_,?_,f5,(((t3.trans t4).trans t5).upd _ _).upd _ _⟩
      ·show aH c.C _ p B5 { worn:=put (put st.worn a (wr st.worn b)) b (wr st.worn a),hold:=put (put st.hold (wr st.worn b) a) (wr st.worn a) b,circ:=bN (bN st.circ a b) b a,deeds:=st.deeds++[.exch a b] }
       rw[wa,wb];exact S6
      ·intro x o e hx
       have h5:=k5' x o e hx
       have hx5:x≠B5.d:=fun z=>by
        rcases f5 B5.d yG with q | q
        ·exact hx (by rw[z];exact q)
        ·rw[z,q]at e;cases e
       show upd (upd H5 t _) B5.d _ x=some o
       rw[ae hx5,ae (ak h5 ht)];exact h5
theorem gy (F:eR K "dress" "Hall.dress" gE f fd) : aW P w K mg base dB 1 f fd ["self","guest","mask"] (ik c.C):=by
 refine F.ok pS (fun vs H Q E h=>?_) (fun cdv A outer s H vs Q E hr h=>?_)
 ·obtain⟨p,B,st,g,m,rfl,_⟩:=h
  rfl
 ·obtain⟨p,B,st,g,m,rfl,S,hw,hh,k⟩:=h
  have hu:=fJ hr
  have nwh:B.w≠B.h:=by have:=S.nd;simp[HA.fp]at this;exact this.1.1
  have npw:p≠B.w:=cQ S.ob S.w (by intro z;cases z)
  refine⟨_,ah (fu hu (c7 (pv 0) rfl) (pv 1) (pv 2) rfl) (
   ai (fu hu (c7 (pv 0) rfl) (pv 2) (pv 1) rfl)),?_⟩
  refine⟨_,rfl,_,rfl,p,c.C,B.dx,_,_,rfl,S.ob,U.cl,U.nW,uR _,_,rfl,B.w,_,rfl,jx.k (k:=Sum.inl g) S.w (by rw[uY];exact Ez hw (by decide)),?_⟩;rw[jt];refine⟨_,rfl,_,rfl,p,c.C,B.dx,_,_,rfl,(by rw[ae npw];exact S.ob),U.cl,U.nH,zW _,_,rfl,B.h,_,rfl,jx.k (k:=Sum.inl m) (by rw[ae (Ex nwh)];exact S.h) (by rw[uY];exact Ez hh (by decide)),?_⟩;rw[jt];exact k
theorem eD (F:eR K "acquaint" "Hall.acquaint" eG f fd) : aW P w K mg base dB 1 f fd ["self","one","other"] (qz c.C):=by
 refine F.ok gT (fun vs H Q E h=>?_) (fun cdv A outer s H vs Q E hr h=>?_)
 ·obtain⟨p,B,st,a,b,rfl,_⟩:=h
  rfl
 ·obtain⟨p,B,st,a,b,rfl,S,hl1,hl2,k⟩:=h
  have hu:=fJ hr
  refine⟨_,ah (dw (i:=3) gT.nd rfl (Or.inl rfl) (yS (c7 (pv 0) rfl) (pv 1) fO ⟨rfl,rfl,rfl,rfl⟩)) (
   ai (fu hu (pv 3) (pv 2) iZ rfl)),?_⟩
  refine⟨_,rfl,p,c.C,B.dx,_,_,rfl,S.ob,U.cl,U.nC,Cg _,B.c,rfl,.inl ⟨_,.inl S.c⟩,_,rfl,fun l hl=>?_⟩;have s1:aF H (upd H l (.dK [])):=ao hl;have S1:=S.mono s1;have ap:=S.apart;have lenc:B.cs.length=st.circ.length:=Er S.cs
  have lc:(dW B.cs st.circ).length<sizeLine:=by rw[qk lenc];exact Ez hl1 (by decide)
  have np:=S.pne;simp only[HA.fp,En,not_or]at np;refine⟨_,Sum.inl a,S1.c,rfl,lc,fun v hv=>?_,fun hv=>?_⟩
  ·rcases jm a S1.cs with ⟨h1,h2,h3⟩ | ⟨ad,h1,h2,h3,h4⟩
   ·rw[h1]at hv;cases hv
   ·rw[h2]at hv
    cases hv
    have lk:(rg (k9 st.circ a)).length<sizeLine:=by
     have e:∀ ci:List (Int×List Int),(∀ x∈ci,x.2.length<2000)->(k9 ci a).length<2000:=by
      intro ci
      induction ci with
      | nil=>intro _;show 0<2000;decide
      | cons x r ih =>
       intro h;unfold k9;split
       ·exact h x Ep
       ·exact ih fun y hy=>h y (Ek _ hy)
     unfold rg;rw[Eg];exact Ez (e _ hl2) (by decide)
    refine⟨_,rfl,_,rfl,ad,_,rfl,jx.k (k:=Sum.inl b) h3 lk,?_⟩;rw[An]
    have adfp:ad∈B.fp:=by simp[HA.fp,h1]
    have nn:∀ x,x∉B.cs->x≠ad:=fun x hx z=>hx (by rw[z];exact h1);obtain⟨q1,q2⟩:=h4 b (upd (upd H l (.dK [])) ad (.dK (rg (jy (k9 st.circ a) b)))) ap.cs (fun x _ hx o e=>by rw[ae hx];exact e) ag;refine k _ ⟨B,⟨by rw[ae (nn _ np.2.2.2.2)];exact S1.ob,S.nd,by rw[ae (nn _ ap.w)];exact S1.w,by rw[ae (nn _ ap.h)];exact S1.h,by rw[ae (nn _ ap.c),S1.c,q2],q1,?_⟩,(uV hl).on (fK adfp),fun x hx=>.inl hx,(Tr.refl.upd _ _).upd _ _⟩;obtain⟨as,hd,hp⟩:=S1.d;refine⟨as,by rw[ae (nn _ ap.d)];exact hd,Paired.mapP hp fun t x e=>?_⟩;obtain⟨xs,ex⟩:=cD x;rw[ae (fun z=>S1.tup (xs:=xs) (by rw[<-ex];exact e) (by rw[z];exact adfp))];exact e
  ·rcases jm a S1.cs with ⟨h1,h2,h3⟩ | ⟨ad,h1,h2,h3,h4⟩
   ·have lB:l∉B.fp:=fun z=>by obtain⟨o,e⟩:=S.tracked z;rw[hl]at e;cases e
    have lB':=lB;simp only[HA.fp,En,not_or]at lB';obtain⟨l1,l2,l3,l4,l5⟩:=lB';refine⟨_,rfl,_,rfl,l,_,rfl,jx.k (k:=Sum.inl b) (by rw[ae l3];exact ag) (by show 0<sizeLine;decide),?_⟩;rw[show fb [] (Sum.inl b:bR) (V.bl true)=rg [b] from rfl,y3 _ hv]
    have e1:∀ x o,H x=some o->x≠B.c->x≠l->(upd (upd (upd H l (.dK [])) B.c (.dK (dW B.cs st.circ++[(Sum.inl a,V.ref l)]))) l (.dK (rg [b]))) x=some o:=fun x o e hx hy=>by
     rw[ae hy,ae hx,ae hy];exact e
    have nl:∀ x o,H x=some o->x≠l:=fun x o e=>ak e hl;refine k _ ⟨⟨B.dx,B.w,B.h,B.c,B.d,B.cs++[l]⟩,⟨?_,?_,e1 _ _ S.w ap.wc (nl _ _ S.w),e1 _ _ S.h ap.hc (nl _ _ S.h),?_,?_,?_⟩,?_,fun x hx=>?_,((Tr.refl.upd _ _).upd _ _).upd _ _⟩
    ·exact e1 _ _ S.ob np.2.2.1 (nl _ _ S.ob)
    ·refine vJ.fp ⟨ap.wh,ap.wc,ap.wd,ap.hc,ap.hd,ap.cd,?_,?_,?_,?_,?_⟩
     ·simp[ap.w,Ex l1]
     ·simp[ap.h,Ex l2]
     ·simp[ap.c,Ex l3]
     ·simp[ap.d,Ex l4]
     ·exact ni ap.cs l5
    ·show (upd (upd (upd H l (.dK [])) B.c (.dK (dW B.cs st.circ++[(Sum.inl a,V.ref l)]))) l (.dK (rg [b]))) B.c=some (.dK (dW (B.cs++[l]) (bN st.circ a b)))
     rw[ae (Ex l3),ag,h3 b,oj a [b] l lenc]
    ·show C8 _ (B.cs++[l]) (bN st.circ a b)
     rw[h3 b];exact be (kx S.cs fun x hx o e=>e1 x o e (fun z=>ap.c (by rw[<-z];exact hx)) (nl x o e)) (.cons ag .nil)
    ·obtain⟨as,hd,hp⟩:=S.d
     refine⟨as,e1 _ _ hd (Ex ap.cd) (nl _ _ hd),Paired.mapP hp fun t x e=>?_⟩;obtain⟨xs,ex⟩:=cD x;exact e1 t _ e (fun z=>S.tup (xs:=xs) (by rw[<-ex];exact e) (by rw[z];exact AA)) (nl t _ e)
    ·intro x o e hx
     exact e1 x o e (fun z=>hx (by rw[z];exact AA)) (nl x o e)
    ·simp only[HA.fp,En,EB]at hx ⊢
     rcases hx with hx | hx | hx | hx | hx | hx | hx
     ·exact .inl (.inl hx)
     ·exact .inl (.inr (.inl hx))
     ·exact .inl (.inr (.inr (.inl hx)))
     ·exact .inl (.inr (.inr (.inr (.inl hx))))
     ·exact .inl (.inr (.inr (.inr (.inr hx))))
     ·exact .inr (by rw[hx];exact hl)
     ·cases hx
   ·rw[h2]at hv;cases hv
theorem fL (F:eR K "inside" "Hall.inside" fT f fd) : aW P w K mg base dB 1 f fd ["self","guest"] (gW c.C):=by
 refine F.ok pe (fun vs H Q E h=>?_) (fun cdv A outer s H vs Q E hr h=>?_)
 ·obtain⟨p,B,st,g,rfl,_⟩:=h
  rfl
 ·obtain⟨p,B,st,g,rfl,S,k⟩:=h
  have hu:=fJ hr;refine⟨_,ai (aA (yP (iY hu (pv 1) (c7 (pv 0) rfl)))),?_⟩
  have g1:cI H B.w (.int g) ((look st.worn g).map V.int):=by rw[<-dM];exact cI.k (k:=Sum.inl g) S.w
  refine⟨_,rfl,_,rfl,p,c.C,B.dx,_,_,rfl,S.ob,U.cl,U.nW,uR _,B.w,_,rfl,g1,?_⟩;rw[Option.isSome_map];exact k
theorem oS (F:eR K "guests" "Hall.guests" fS f fd) : aW P w K mg base dB 1 f fd ["self"] (kS c.C):=by
 refine F.ok pd (fun vs H Q E h=>?_) (fun cdv A outer s H vs Q E hr h=>?_)
 ·obtain⟨p,B,st,rfl,_⟩:=h
  rfl
 ·obtain⟨p,B,st,rfl,S,hl,k⟩:=h
  refine⟨_,ai (aA (bQ (qT rfl) (by rfl) T.sorted PyProof.Rows.boot_sorted (ar (c7 (pv 0) rfl) ax))),?_⟩;refine⟨_,rfl,p,c.C,B.dx,_,_,rfl,S.ob,U.cl,U.nW,uR _,B.w,_,aD st.worn,rfl,S.w,?_,by unfold aD;rw[Eg];exact hl,k⟩;unfold dk aD;rw[Fi,Fi];rfl
theorem gA (F:eR K "wears" "Hall.wears" gG f fd)(NG:fD P w K mg base c) : aW P w K mg base (eY P w) 3 f fd ["self","guest"] (fA c):=by
 refine F.okX pU (fun vs H Q E h=>?_) (fun cdv A outer s H vs Q E hr h=>?_)
 ·obtain⟨p,B,st,g,rfl,_⟩:=h
  rfl
 ·obtain⟨p,B,st,g,rfl,S,hg,k⟩:=h
  have hu:=fJ hr
  refine⟨_,ah (br (ij (lH hu (pv 1) (c7 (pv 0) rfl))) (ai (oY NG U hr fG rfl hr.hd rfl (pv 1))) aJ) (
   ai (aA (ig hu (c7 (pv 0) rfl) (pv 1) (fun _ _=>rfl)))),?_⟩
  have g1:cI H B.w (.int g) ((look st.worn g).map V.int):=by rw[<-dM];exact cI.k (k:=Sum.inl g) S.w
  refine⟨_,rfl,_,rfl,p,c.C,B.dx,_,_,rfl,S.ob,U.cl,U.nW,uR _,B.w,_,rfl,g1,_,rfl,?_⟩
  cases e:look st.worn g with
  | none =>
   rw[e]at k;exact bY ⟨_,rfl,g,rfl,hg,fun dx hdx=>k dx _ (ao hdx) ag⟩
  | some m =>
   rw[e]at k;refine aV ⟨_,rfl,p,c.C,B.dx,_,_,rfl,S.ob,U.cl,U.nW,uR _,_,rfl,B.w,_,rfl,(by rw[e]at g1;exact g1),k⟩
theorem iX (F:eR K "wearer" "Hall.wearer" fU f fd)(NG:fD P w K mg base c) : aW P w K mg base (eY P w) 3 f fd ["self","mask"] (i7 c):=by
 refine F.okX ph (fun vs H Q E h=>?_) (fun cdv A outer s H vs Q E hr h=>?_)
 ·obtain⟨p,B,st,g,rfl,_⟩:=h
  rfl
 ·obtain⟨p,B,st,g,rfl,S,hg,k⟩:=h
  have hu:=fJ hr
  refine⟨_,ah (br (ij (lH hu (pv 1) (c7 (pv 0) rfl))) (ai (oY NG U hr fG rfl hr.hd rfl (pv 1))) aJ) (
   ai (aA (ig hu (c7 (pv 0) rfl) (pv 1) (fun _ _=>rfl)))),?_⟩
  have g1:cI H B.h (.int g) ((look st.hold g).map V.int):=by rw[<-dM];exact cI.k (k:=Sum.inl g) S.h
  refine⟨_,rfl,_,rfl,p,c.C,B.dx,_,_,rfl,S.ob,U.cl,U.nH,zW _,B.h,_,rfl,g1,_,rfl,?_⟩
  cases e:look st.hold g with
  | none =>
   rw[e]at k;exact bY ⟨_,rfl,g,rfl,hg,fun dx hdx=>k dx _ (ao hdx) ag⟩
  | some m =>
   rw[e]at k;refine aV ⟨_,rfl,p,c.C,B.dx,_,_,rfl,S.ob,U.cl,U.nH,zW _,_,rfl,B.h,_,rfl,(by rw[e]at g1;exact g1),k⟩
theorem iW (F:eR K "met" "Hall.met" i8 f fd) : aW P w K mg base dB 1 f fd ["self","one","other"] (qA c.C):=by
 refine F.ok t8 (fun vs H Q E h=>?_) (fun cdv A outer s H vs Q E hr h=>?_)
 ·obtain⟨p,B,st,a,b,rfl,_⟩:=h
  rfl
 ·obtain⟨p,B,st,a,b,rfl,S,k⟩:=h
  have hu:=fJ hr;refine⟨_,ai (aA (yP (iY hu (pv 2) (yR hu (c7 (pv 0) rfl) (pv 1) fO ⟨rfl,rfl,rfl,rfl⟩)))),?_⟩;refine⟨_,rfl,_,rfl,p,c.C,B.dx,_,_,rfl,S.ob,U.cl,U.nC,Cg _,B.c,rfl,.inl ⟨_,.inl S.c⟩,_,rfl,fun l hl=>?_⟩;have s1:aF H (upd H l (.dK [])):=ao hl;have S1:=S.mono s1;refine⟨_,cI.k (k:=Sum.inl a) S1.c,?_⟩;rcases jm a S1.cs with ⟨h1,h2,h3⟩ | ⟨ad,h1,h2,h3,h4⟩
  ·rw[h1]
   refine⟨l,_,rfl,cI.k (k:=Sum.inl b) ag,?_⟩;have:=k _ s1;unfold iU at this;rw[h2]at this;exact this
  ·rw[h2]
   refine⟨ad,_,rfl,cI.k (k:=Sum.inl b) h3,?_⟩;rw[Av];exact k _ s1
theorem gz (F:eR K "story" "Hall.story" gF f fd) : aW P w K mg base dB 1 f fd ["self"] (ju c.C):=by
 refine F.ok pT (fun vs H Q E h=>?_) (fun cdv A outer s H vs Q E hr h=>?_)
 ·obtain⟨p,B,st,rfl,_⟩:=h
  rfl
 ·obtain⟨p,B,st,rfl,S,k⟩:=h
  refine⟨_,ai (aA (xN qQ (by rfl) T.list PyProof.Rows.boot_list (ar (c7 (pv 0) rfl) ax))),?_⟩;obtain⟨as,hd,hp⟩:=S.d;refine⟨_,rfl,p,c.C,B.dx,_,_,rfl,S.ob,U.cl,U.nD,zV _,B.d,_,rfl,.inl (bz.of hd),fun l hl=>?_⟩;exact k l _ hl (ao hl) ⟨as,ag,Paired.mapP hp fun b y e=>(ao hl) _ _ e⟩
theorem jW (F:eR K "do_deed" "do_deed" ka f fd)(bL:av P w K mg base (eY P w) c.C "come" 2 ["self","guest"] (j6 c))(cE:av P w K mg base (eY P w) c.C "go" 4 ["self","guest"] (vE c))(a7:av P w K mg base (eY P w) c.C "exchange" 4 ["self","one","other"] (j7 c)) : aW P w K mg base (eY P w) 5 f fd ["hall","deed"] (r0 c):=by
 refine F.okX vA (fun vs H Q E h=>?_) (fun cdv A outer s H vs Q E hr h=>?_)
 ·obtain⟨p,t,B,st,d,rfl,_⟩:=h
  rfl
 ·obtain⟨p,t,B,st,d,rfl,ht0,S,ft,hg,sm,k⟩:=h
  have ht:H t=some (.tup (b9 d)):=by rw[<-jo];exact ht0
  have T0:dv K H t (b9 d):=dv.of ht;refine⟨_,ai (br (aE dX (aI aG (pv 1) (aj) (fun _ _=>rfl)) (aY) (aQ _)) (ai (bg (dE bL (pv 0) U.cl hr.m di (ki (aI aG (pv 1) (aj) (fun _ _=>rfl)))))) (ai (br (aE dX (aI aG (pv 1) (aj) (fun _ _=>rfl)) (aY) (aQ _)) (ai (bg (dE cE (pv 0) U.cl hr.m di (ki (aI aG (pv 1) (aj) (fun _ _=>rfl)))))) (ai (bg (dE a7 (pv 0) U.cl hr.m di (ie (aI aG (pv 1) (aj) (fun _ _=>rfl)) (aI aG (pv 1) (aj) (fun _ _=>rfl))))))))),?_⟩;have n1:=kz B (m:="come") (by decide +kernel) (by decide +kernel) (by decide +kernel) (by decide +kernel);have n2:=kz B (m:="go") (by decide +kernel) (by decide +kernel) (by decide +kernel) (by decide +kernel);have n3:=kz B (m:="exchange") (by decide +kernel) (by decide +kernel) (by decide +kernel) (by decide +kernel)
  cases d with
  | come g =>
   refine⟨_,rfl,t,_,_,_,rfl,rfl,T0,rfl,rfl,_,rfl,?_⟩;rw[show decide (V.str (dq (.come g))=V.str "come")=true from cc];exact bY ⟨_,rfl,p,B.dx,_,rfl,S.ob,n1,_,rfl,t,_,_,_,rfl,rfl,T0,rfl,p,B,st,g,rfl,S,ft,sm g (by simp[names]),k⟩
  | go g =>
   refine⟨_,rfl,t,_,_,_,rfl,rfl,T0,rfl,rfl,_,rfl,?_⟩;rw[show decide (V.str (dq (.go g))=V.str "come")=false from gc];refine aV ⟨_,rfl,t,_,_,_,rfl,rfl,T0,rfl,rfl,_,rfl,?_⟩;rw[show decide (V.str (dq (.go g))=V.str "go")=true from gg];exact bY ⟨_,rfl,p,B.dx,_,rfl,S.ob,n2,_,rfl,t,_,_,_,rfl,rfl,T0,rfl,p,B,st,g,rfl,S,ft,sm g (by simp[names]),(fun m hm=>⟨hg.sm g m hm,fun e=>by rw[e]at hm;rw[(hg.wh g g).mp hm];rfl⟩),k⟩
  | exch a b =>
   refine⟨_,rfl,t,_,_,_,rfl,rfl,T0,rfl,rfl,_,rfl,?_⟩;rw[show decide (V.str (dq (.exch a b))=V.str "come")=false from ec];refine aV ⟨_,rfl,t,_,_,_,rfl,rfl,T0,rfl,rfl,_,rfl,?_⟩;rw[show decide (V.str (dq (.exch a b))=V.str "go")=false from eg];exact aV ⟨_,rfl,p,B.dx,_,rfl,S.ob,n3,_,rfl,t,_,_,_,rfl,rfl,T0,rfl,_,rfl,t,_,_,_,rfl,rfl,T0,rfl,p,B,st,a,b,rfl,S,ft,sm a (by simp[names]),sm b (by simp[names]),k⟩
theorem jI (F:eR K "walk_since" "walk_since" gI f fd)(bX:av P w K mg base dB c.C "inside" 1 ["self","guest"] (gW c.C))(NG:fD P w K mg base c)(MH:BQ P w K mg base c)(de:av P w K mg base dB c.C "story" 1 ["self"] (ju c.C))(Cdo_deed:dI P w K mg base "do_deed" 5 ["hall","deed"] (r0 c)){lk:bZ->List (Int×Int)}{fl c1:Addr}{fdl:FuncData}{ol:Obj}{ql:Str}{vy:V}(hlk:∀ st g,d9 st->(look st.worn g).isSome=true->(look (lk st) g).isSome=true)(LA0:∀ g,vy=.int g->aW P w K mg base dB 4 fl fdl ["then"] (wG c c1 ql lk g))(lob:base.get? fl=some ol)(lod:ol.data=.func fdl)(lbi:∀ (s:Shared)(us:List Value),us.length=(["then"]:List Str).length->BindsTo s fdl ⟨us,[]⟩ ((["then"]:List Str).zip us)):aW P w K mg base (eY P w) 7 f fd ["hall","guest","ask"] (lL c lk ql fl c1 vy):=by
 refine F.okX cG (fun vs H Q E h=>?_) (fun cdv A outer s H vs Q E hr h=>?_)
 ·obtain⟨p,B,es,L,g,_,rfl,_⟩:=h
  rfl
 ·obtain⟨p,B,es,L,g,hvy,rfl,⟨S,hdn,hdl,hL,hnm,sg⟩,hcf,k⟩:=h
  have LA:=LA0 g hvy;have hu:=fJ hr;have nil0:(0:Nat)<=sizeLine:=EK _
  have two:(2:Nat)<=sizeLine:=by decide
  refine⟨_,ah (br (jZ (i6 (dE bX (pv 0) U.cl hr.m fM (ki (pv 1))))) (ai (oY NG U (hr.mono (by decide)) fG rfl hr.hd rfl (pv 1))) (aJ)) (
   ah (bW 3 cG.nd (AB MH U hr.m rfl)) (
   ah (bW 4 cG.nd (e9 ax)) (
   ah (d4 PassesOwn.leaving rfl (yX (by rfl) T.enumerate (ki (vq de (pv 0) U.cl hr.m fM))) (jX rfl (aZ (jY 5 cG.nd) (aZ (jY 6 cG.nd) gd))) (ah (bg (rO Cdo_deed hr.m rfl di (ie (pv 3) (pv 6)))) (
   ah (br (aE (vo 1 (zA hr (by decide))) (pv 6) (bx (ie (aY) (pv 1))) (aQ _)) (ai (bW 4 cG.nd (e9 ax))) (aJ)) (
   ai (br (PW.pt (gB (i6 (dE bX (pv 3) U.cl hr.m fM (ki (pv 1)))) (gf (PW.pt (o9 (aE (vo 1 (zA hr (by decide))) (pv 4) (e9 ax) (aQ _)) (pb (aE qu (aI aG (aI dh (pv 4) (AC zm (aj)) (fun _ _=>rfl)) (aj) (fun _ _=>rfl)) (tV (i:=2) LA hr.m rfl (Or.inl rfl) lob lod lbi fM (ki (pv 3))) (aQ _)))))))) (ai (bg (jJ EV ES ET cF (pv 4) (ki (bx (ie (pv 5) (tV (i:=2) LA hr.m rfl (Or.inl rfl) lob lod lbi fM (ki (pv 3))))))))) (aJ)))))) (
   ai (aA (pv 4)))))),?_⟩
  have nS:(bO B).lookup ("story" : Str)=none:=uS B (by decide +kernel);have nI:∀ B:HA,(bO B).lookup ("inside" : Str)=none:=fun B=>uS B (by decide +kernel);refine⟨_,rfl,p,B.dx,_,rfl,S.ob,nI B,_,rfl,p,B,_,g,rfl,S,_,rfl,?_⟩
  cases hin:(look (bb es).worn g).isSome with
  | false =>
   rw[hin,Ed Ej]at k;exact bY ⟨_,rfl,g,rfl,sg,fun dx hdx=>k dx _ (ao hdx) ag⟩
  | true =>
  rw[hin,Ee rfl]at k;refine aV ?_;intro x dx nx ndx nex;refine⟨x,dx,rfl,ag,fun B1 H1 S1 kp fr=>⟨rfl,?_⟩⟩
  have s0:aF H (upd (upd H dx (.own x)) x (.ins c.C dx [])):=fun b o e=>by rw[ae (ak e nx),ae (ak e ndx)];exact e
  have E1:Ev c H H1 x B1 ⟨[],[],[],[]⟩:=⟨fun b o e=>kp b o (s0 b o e) (ak e nx),S1,jR,fun b hb=>s0.free (fr b hb)⟩;refine⟨nil0,fun lw0 hlw0=>?_⟩;have s1:=ao (o:=.lst []) hlw0;have hlw1:upd H1 lw0 (.lst []) lw0=some (.lst []):=ag;have E2:=E1.on s1;have lwB:=E1.track hlw0;have lwH:H lw0=none:=E1.same.free hlw0;generalize upd H1 lw0 (.lst [])=H2 at s1 hlw1 E2 ⊢;have S2:=S.mono E2.same;refine⟨_,rfl,p,B.dx,_,rfl,S2.ob,nS,p,B,_,rfl,S2,fun l2 H3 hl2 s2 dl=>?_⟩;rw[j8]at dl;obtain⟨qs,hq,hqp⟩:=id dl;have E3:=E2.on s2;have l2B:l2∉B1.fp:=E2.track hl2
  have l2w:l2≠lw0:=fun z=>by rw[z,hlw1]at hl2;cases hl2
  have hql:=Er hqp;refine⟨l2,rfl,⟨_,bz.of hq⟩,?_⟩
  refine xm (K:=K) (a:=l2) (xs:=qs.map V.ref) (fun i σ HH=>∃ (B2:HA)(lw:Addr)(W:List (Int×Int))(v5 v6:Option V),σ=[some (.ref p),some (.int g),some (.ref fl),some (.ref x),some (.ref lw),v5,v6]/\Ev c H HH x B2 (bb (es.take i))/\Of L (bb (es.take i))/\Sz i (bb (es.take i))/\lw∉B2.fp/\H lw=none/\l2≠lw/\dD HH lw W/\W.length<=i/\fg lk g 0 ⟨[],[],[],[]⟩ es []=fg lk g i (bb (es.take i)) (es.drop i) W/\HH l2=some (.lst (qs.map V.ref))/\l2∉B2.fp/\Paired (fun a x=>HH a=some (cx x)) qs es)
   ⟨B1,lw0,[],none,none,rfl,E3,of_empty,CC,lwB,lwH,l2w,⟨[],s2 _ _ hlw1,.nil⟩,Eh _,rfl,hq,l2B,hqp⟩ (fun i σ HH _ ⟨_,_,_,_,_,_,_,_,_,_,_,_,_,_,_,h,_⟩=>bz.of h) ?_ ?_
  ·rintro i y σ HH T hi ⟨B2,lw,W,v5,v6,rfl,E,o,z,lwB,lwH,l2w,row,wl,ew,hq,l2B,hqp⟩ hTn
   obtain⟨t,ht,rfl⟩:=cO hi;have hil:=(List.getElem?_eq_some_iff.mp ht).1;have sT:=ao (o:=.tup [.int ((i:Int)+1),.ref t]) hTn;have hTT:upd HH T (.tup [.int ((i:Int)+1),.ref t]) T=some (.tup [.int ((i:Int)+1),.ref t]):=ag;have E:=E.on sT;have row:=row.mono sT;have hq:=sT _ _ hq;have hqp:Paired (fun a x=>upd HH T (.tup [.int ((i:Int)+1),.ref t]) a=some (cx x)) qs es:=Paired.mapP hqp fun b y e=>sT _ _ e;generalize upd HH T (.tup [.int ((i:Int)+1),.ref t])=HH at hTT E row hq hqp ⊢;obtain⟨d,hd,hT⟩:=bj hqp ht;have hj:=hdn i d hd;have ft:=v8 E.good o hL z (by omega);have nm:=hnm d (EN hd);refine⟨T,_,rfl,dv.of hTT,rfl,_,_,rfl,_,_,rfl,rfl,?_⟩;refine⟨_,rfl,_,rfl,x,t,B2,_,d,rfl,hT,E.hall,ft,E.good,fun g hg=>(nm g hg).2,?_⟩;unfold pJ;rw[Ee hj];intro H4 mv
   have en:bI (bb (es.take i)) d=bb (es.take (i+1)):=by unfold bI;rw[Ee hj,EU,hd,E9,jv]
   have g2:=lj E.good (d:=d) (fun g hg=>(nm g hg).2);have o2:=rA E.good o (fun g hg=>(nm g hg).1);have z2:=sj z d
   have mv2:p7 c.C HH x B2 (bI (bb (es.take i)) d) H4:=by unfold bI;rw[Ee hj];exact mv
   obtain⟨B',E2,kp2,_⟩:=E.moved mv2 g2;have ew2:=pE (lk:=lk) (g:=g) (st:=bb (es.take i)) (W:=W) hd;rw[<-ew,en]at ew2;rw[en]at E2 o2 z2;have tp:∀ b xs,HH b=some (.tup xs)->H4 b=some (.tup xs):=fun b xs e=>(kp2 b _ e (E.hall.tup e)).1;obtain⟨as,hlw,hpw⟩:=row;have wl2:=Er hpw;obtain⟨hlw4,lwB4⟩:=kp2 lw _ hlw lwB;obtain⟨hq4,l2B4⟩:=kp2 l2 _ hq l2B
   have hqp4:Paired (fun a x=>H4 a=some (cx x)) qs es:=Paired.mapP hqp fun b y e=>by
    obtain⟨xs,ex⟩:=cD y;rw[ex]at e ⊢;exact tp _ _ e
   have row4:dD H4 lw W:=⟨as,hlw4,Paired.mapP hpw fun b e q=>tp _ _ q⟩
   have hT4:H4 t=some (.tup (b9 d)):=by rw[<-jo];obtain⟨d',hd',q⟩:=bj hqp4 ht;rw[hd]at hd';cases hd';exact q
   clear mv mv2 kp2 tp hlw hpw hqp hq E hTT hT;refine⟨_,rfl,_,rfl,two,fun t9 ht9=>?_⟩;have s5:=ao (o:=.tup [.str "come",.int g]) ht9;have ht95:upd H4 t9 (.tup [.str "come",.int g]) t9=some (.tup [.str "come",.int g]):=ag;have E5:=E2.on s5;generalize upd H4 t9 (.tup [.str "come",.int g])=H5 at s5 ht95 E5 ⊢
   have fl9:∀ z∈[V.str "come",V.int g],gL z=true:=fun z hz=>by
    rcases En.mp hz with e | e
    ·rw[e];rfl
    ·rw[El.mp e];rfl
   refine⟨t,t9,_,_,rfl,rfl,eX (s5 _ _ hT4) (jp d),eX ht95 fl9,fun b hb=>⟨_,rfl,?_⟩⟩
   have hb2:b=decide (d=.come g):=by
    have e1:b=true↔d=.come g:=by
     rw[hb,kW];exact⟨fun z=>xh (e:=.come g) z,fun z=>by rw[z];rfl⟩
    cases b with
    | true=>exact (EC (e1.mp rfl)).symm
    | false=>exact (EA fun z=>by have:=e1.mpr z;cases this).symm
   rw[show (if false=true then !b else b)=decide (d=.come g) from hb2]
   obtain⟨W1,eW1⟩:∃ W1,W1=if d=.come g then [] else W:=⟨_,rfl⟩
   apply Br (fun q HH=>aF H5 HH/\q∉B'.fp/\H q=none/\l2≠q/\dD HH q W1)
   ·intro rest
    by_cases hc:d=.come g
    ·rw[EC hc]
     refine bY ⟨nil0,fun lw9 hlw9=>?_⟩;have s6:=ao (o:=.lst []) hlw9
     have r6:dD (upd H5 lw9 (.lst [])) lw9 W1:=by rw[eW1,Ee hc];exact⟨[],ag,.nil⟩
     have n6:l2≠lw9:=fun z=>by rw[<-z,s5 _ _ hq4]at hlw9;cases hlw9
     generalize upd H5 lw9 (.lst [])=H6 at s6 r6 ⊢;exact rest lw9 H6 ⟨s6,E5.track hlw9,E5.same.free hlw9,n6,r6⟩
    ·rw[EA hc]
     exact aV (rest lw H5 ⟨aF.refl _,lwB4,lwH,l2w,by rw[eW1,Ed hc];exact row4.mono s5⟩)
   clear row4 hlw4 lwB4 lwH l2w;rintro lw H6 ⟨s6,lwB,lwH,l2w,row⟩;have E6:=E5.on s6
   have hl1:W1.length<=W.length:=by rw[eW1];split<;>simp
   have hcf6:∀ {HH:Hp},aF H6 HH->jA HH c1 ql:=fun sm=>by
    obtain⟨oc,vs,tt,e,r⟩:=hcf;exact⟨oc,vs,tt,sm _ _ (E6.same _ _ e),r⟩
   obtain⟨as,hlw,hpw⟩:=row;have wl2:=Er hpw
   have fin:∀ {HH:Hp}{W2:List (Int×Int)},aF H6 HH\/(∀ b o,H6 b=some o->b≠lw->HH b=some o)->dD HH lw W2->Ev c H HH x B' (bb (es.take (i+1)))->W2.length<=i+1->ur lk g i d (bb (es.take (i+1))) W=W2 ->
     ∃ (B2:HA)(lw':Addr)(W:List (Int×Int))(v5 v6:Option V),([some (.ref p),some (.int g),some (.ref fl),some (.ref x),some (.ref lw),some (.int ((i:Int)+1)),some (.ref t)]:St)=[some (.ref p),some (.int g),some (.ref fl),some (.ref x),some (.ref lw'),v5,v6]/\Ev c H HH x B2 (bb (es.take (i+1)))/\Of L (bb (es.take (i+1)))/\Sz (i+1) (bb (es.take (i+1)))/\lw'∉B2.fp/\H lw'=none/\l2≠lw'/\dD HH lw' W/\W.length<=i+1/\fg lk g 0 ⟨[],[],[],[]⟩ es []=fg lk g (i+1) (bb (es.take (i+1))) (es.drop (i+1)) W/\HH l2=some (.lst (qs.map V.ref))/\l2∉B2.fp/\Paired (fun a x=>HH a=some (cx x)) qs es:=fun {HH W2} hk r2 E' hl ews=>by
    have hk:∀ b o,H6 b=some o->b≠lw->HH b=some o:=fun b o e n=>hk.elim (fun z=>z b o e) (fun z=>z b o e n);have k46:=s5.trans s6;refine⟨B',lw,W2,_,_,rfl,E',o2,z2,lwB,lwH,l2w,r2,hl,by rw[ew2,ews],hk _ _ (k46 _ _ hq4) l2w,l2B4,Paired.mapP hqp4 fun b y e=>?_⟩;obtain⟨xs,ex⟩:=cD y;rw[ex]at e ⊢;exact hk _ _ (k46 _ _ e) (cQ (k46 _ _ e) hlw (by intro z;cases z))
   have ws:ur lk g i d (bb (es.take (i+1))) W=if (look (bb (es.take (i+1))).worn g).isSome=true/\(W1=[]\/(W1.getLast?.map (·.2))≠look (lk (bb (es.take (i+1)))) g) then W1++[((i:Int)+1,(look (lk (bb (es.take (i+1)))) g).getD 0)] else W1:=by rw[eW1];rfl
   refine⟨_,rfl,x,B'.dx,_,rfl,E6.hall.ob,nI B',_,rfl,x,B',_,g,rfl,E6.hall,_,rfl,?_⟩
   cases hin2:(look (bb (es.take (i+1))).worn g).isSome with
   | false =>
    rw[hin2,Ed (fun z=>by cases z.1)]at ws;exact aV (aV (fin (.inl (aF.refl _)) ⟨as,hlw,hpw⟩ E6 (by omega) ws))
   | true =>
   obtain⟨m,hm⟩:=EL.mp (hlk _ g E6.good hin2);rw[hin2,hm]at ws
   have app:∀ {HH:Hp}(t1:Addr),aF H6 HH->HH t1=none->(W1=[]\/(W1.getLast?.map (·.2))≠some m)->_:=fun {HH} t1 sm ht1 hcnd=>by
    have hlw7:=sm _ _ hlw;have r7:=ze (a:=(i:Int)+1) (b:=m) hlw7 (Paired.mapP hpw fun b e q=>sm _ _ q) ht1;rw[Ee ⟨rfl,hcnd⟩]at ws
    have E7:Ev c H (upd (upd HH t1 (.tup [.int ((i:Int)+1),.int m])) lw (.lst (as.map V.ref++[V.ref t1]))) x B' (bb (es.take (i+1))):=by
     have E7:=(E6.on sm).on (ao (o:=.tup [.int ((i:Int)+1),.int m]) ht1);have q7:=(ao (o:=.tup [.int ((i:Int)+1),.int m]) ht1) _ _ hlw7;refine E7.write (ws:=[lw]) (fun b o e n=>?_) (fun y hy=>?_) (fun n=>?_) (fun y hy=>?_) (fun b xs e n=>?_)
     ·rw[ae (fun z=>n (by rw[z];exact El.mpr rfl))];exact e
     ·rw[El.mp hy];exact lwB
     ·have ob:=E7.hall.ob
      rw[El.mp n,q7]at ob;cases ob
     ·rw[El.mp hy];exact lwH
     ·rw[El.mp n,q7]at e;cases e
    exact fin (.inr fun b o e n=>by rw[ae n];exact (ao ht1) _ _ (sm _ _ e)) r7 E7 (by rw[Ew,Fh];omega) ws
   refine bY ⟨_,rfl,nil0,fun l9 hl9=>?_⟩;have s7:=ao (o:=.lst []) hl9;have r9:dD (upd H6 l9 (.lst [])) l9 []:=⟨[],ag,.nil⟩;generalize upd H6 l9 (.lst [])=H7 at s7 r9 ⊢;have E7:=E6.on s7;have hlw7:=s7 _ _ hlw;refine⟨lw,l9,_,_,rfl,rfl,vt ⟨as,hlw7,Paired.mapP hpw fun b e q=>s7 _ _ q⟩,vt r9,fun b hb=>⟨_,rfl,?_⟩⟩
   by_cases hW:W1=[]
   ·rw[show (if false=true then !b else b)=true from hb.mpr (by rw[hW])]
    refine bY (bY ⟨_,rfl,.inl ⟨rfl,_,bz.of hlw7⟩,_,rfl,rfl,_,rfl,x,B',_,m,rfl,E7.hall,sg,hcf6 s7,hm,two,fun t1 ht1=>⟨lw,_,_,rfl,rfl,(ao ht1) _ _ hlw7,by rw[Eg];exact bn (by omega),?_⟩⟩);exact app t1 s7 ht1 (.inl hW)
   ·have hbf:b=false:=by
     cases b with
     | true=>exact absurd (zc.mp (hb.mp rfl)) hW
     | false=>rfl
    rw[hbf];have hlen1:0<W1.length:=List.length_pos_iff.mpr hW;obtain⟨la,hla⟩:∃ la,W1[W1.length-1]? = some la:=⟨_,List.getElem?_eq_getElem (by omega)⟩;obtain⟨al,hal⟩:∃ al,as[as.length-1]? = some al:=⟨_,List.getElem?_eq_getElem (by omega)⟩
    have hgl:W1.getLast? = some la:=by rw[List.getLast?_eq_getElem?];exact hla
    obtain⟨la',hla',hA⟩:=bj hpw hal;rw[wl2,hla]at hla';cases hla'
    have at1:vP (as.map V.ref) (-1)=some (V.ref al):=by
     obtain⟨a0,b0,e⟩:∃ a0 b0,as=a0++[b0]:=by
      rcases List.eq_nil_or_concat as with z | ⟨a0,b0,z⟩
      ·rw[z]at wl2;simp at wl2;omega
      ·exact⟨a0,b0,by rw[z,List.concat_eq_append]⟩
     have eb:b0=al:=by
      rw[e,Ew,Fh,Nat.add_sub_cancel,List.getElem?_append_right (Eh _),FU]at hal;exact Ei hal
     rw[e,EE,eb];exact x6 _ _
    refine aV ⟨_,rfl,_,rfl,lw,_,_,_,rfl,rfl,bz.of hlw7,at1,al,_,_,_,rfl,rfl,dv.of (s7 _ _ hA),(dJ (j:=1) rfl:vP [V.int la.1,V.int la.2] 1=_),rfl,_,rfl,x,B',_,m,rfl,E7.hall,sg,hcf6 s7,hm,rfl,_,rfl,?_⟩;rw[hgl]at ws app
    by_cases hne:la.2=m
    ·rw[Ed (fun z=>by rcases z.2 with y | y;exact hW y;exact y (EM some hne))]at ws
     rw[EC (EM V.int hne)];exact aV (fin (.inl s7) ⟨as,hlw7,Paired.mapP hpw fun b e q=>s7 _ _ q⟩ E7 (by omega) ws)
    ·rw[EA (fun z=>hne (V.int.inj z))]
     refine bY ⟨_,rfl,.inl ⟨rfl,_,bz.of hlw7⟩,_,rfl,rfl,_,rfl,x,B',_,m,rfl,E7.hall,sg,hcf6 s7,hm,two,fun t1 ht1=>⟨lw,_,_,rfl,rfl,(ao ht1) _ _ hlw7,by rw[Eg];exact bn (by omega),?_⟩⟩;exact app t1 s7 ht1 (.inr fun z=>hne (Ei z))
  ·rintro σ HH ⟨B2,lw,W,v5,v6,rfl,E,o,z,lwB,lwH,l2w,row,wl,ew,hq,l2B,hqp⟩
   rw[Eg,hql,List.drop_length]at ew;rw[ew]at k;exact⟨_,rfl,k lw HH lwH E.same row⟩
theorem lE {fl c1 cy:Addr}{pm ct:Value}{g:Int}(eP:av P w K mg base (eY P w) c.C "wearer" 3 ["self","mask"] (i7 c))(Lm:km base bi (sR (bF aO)) (sS (bF aO)) (sU (bF aO)) "mask" (.int g) fl c1 cy pm ct) :
  aW P w K mg base dB 4 fl (PySem.W.kla_fn "<lambda>" bi (sR (bF aO)) (sS (bF aO)) (sU (bF aO)) [("mask",cy)] pm (.ref c1) ct) ["then"] (wG c c1 bi (·.hold) g):=by
 refine yB (ps:=["then"]) (y:="mask") ⟨rfl,rfl,rfl,by decide +kernel,by decide +kernel,by decide +kernel,fun x hx=>?_,rfl⟩ Lm (fun vs H Q E h=>?_) (fun vs H Q E h=>?_) (fun A outer s H vs Q E hr h=>?_)
 ·have hm:=Ff hx
  have hm:(x,NameKind.free)∈[(("then" : Str),NameKind.local),(("mask" : Str),NameKind.free)]:=hm;rcases En.mp hm with z | z
  ·cases z
  ·exact (Prod.mk.inj (El.mp z)).1
 ·obtain⟨p,A,st,m,rfl,_⟩:=h
  rfl
 ·obtain⟨p,A,st,m,rfl,_,_,hc,_⟩:=h
  exact hc
 ·obtain⟨p,A,st,m,rfl,S,sg,_,hm,k⟩:=h
  refine⟨_,dE eP (pv 0) U.cl hr.m qv (ki (pv 1)),?_⟩;have nX:(bO A).lookup ("wearer" : Str)=none:=uS A (by decide +kernel);refine⟨_,rfl,p,A.dx,_,rfl,S.ob,nX,_,rfl,p,A,st,g,rfl,S,sg,?_⟩;have hm:look st.hold g=some m:=hm;rw[hm];exact k
theorem rJ (F:eR K "mask_walk" "mask_walk" aO f fd){c0 fw:Addr}{fdw:FuncData}(hco:fd.code=.ref c0)(CK:iC K c0 P0)(BK:pI mg base)(hmw:mg "walk_since" = some (.ref fw))(hkw:PySem.W.keepIn K (.ref fw)=true)(hbw:d8 K fdw ["hall","guest","ask"] [])(WS:∀ (b:Heap)(fl c1 cy:Addr)(vy:V)(pm ct:Value),Mod K mg b->km b bi (sR (bF aO)) (sS (bF aO)) (sU (bF aO)) "mask" vy fl c1 cy pm ct->aW P w K mg b (eY P w) 7 fw fdw ["hall","guest","ask"] (lL c (·.hold) bi fl c1 vy)):aW P w K mg base (eY P w) 8 f fd ["hall","mask"] (io c (·.hold) P0 dZ bi):=by
 refine F.okXC rV hco (fun vs H Q E h=>?_) (fun A outer s H vs Q E hr h=>?_)
 ·obtain⟨p,B,es,L,g,rfl,_⟩:=h
  rfl
 ·obtain⟨p,B,es,L,g,rfl,⟨S,w1,w2,w3,w4,w5⟩,hT,k⟩:=h
  refine⟨_,ai (aA (oZ (iy:=1) (y:="mask") WS hr.m rfl hmw hkw hbw di (pv 0) (pv 1) rfl CK BK rfl rfl rfl rfl rfl rfl rfl)),?_⟩;refine⟨_,rfl,_,rfl,hT,_,rfl,fun fl c1 H3 hcf hT3 bt=>?_⟩;refine⟨p,B,es,L,g,rfl,rfl,⟨mZ.hall S hT bt,w1,w2,w3,w4,w5⟩,hcf,?_⟩
  cases hin:(look (bb es).worn g).isSome with
  | true =>
   rw[hin,Ee rfl]at k;rw[Ee rfl];exact fun l H' hl s' row=>k l H' (mZ.none bt hT3 hl) (mZ.same bt s') (hT3.same s') row
  | false =>
   rw[hin,Ed Ej]at k;rw[Ed Ej];exact fun dx H' s' hx=>k dx H' (mZ.same bt s') (hT3.same s') hx
theorem lD {fl c1 cy:Addr}{pm ct:Value}{g:Int}(aB:av P w K mg base (eY P w) c.C "wears" 3 ["self","guest"] (fA c))(Lm:km base bh (sR (bF aN)) (sS (bF aN)) (sU (bF aN)) "guest" (.int g) fl c1 cy pm ct) :
  aW P w K mg base dB 4 fl (PySem.W.kla_fn "<lambda>" bh (sR (bF aN)) (sS (bF aN)) (sU (bF aN)) [("guest",cy)] pm (.ref c1) ct) ["then"] (wG c c1 bh (·.worn) g):=by
 refine yB (ps:=["then"]) (y:="guest") ⟨rfl,rfl,rfl,by decide +kernel,by decide +kernel,by decide +kernel,fun x hx=>?_,rfl⟩ Lm (fun vs H Q E h=>?_) (fun vs H Q E h=>?_) (fun A outer s H vs Q E hr h=>?_)
 ·have hm:=Ff hx
  have hm:(x,NameKind.free)∈[(("then" : Str),NameKind.local),(("guest" : Str),NameKind.free)]:=hm;rcases En.mp hm with z | z
  ·cases z
  ·exact (Prod.mk.inj (El.mp z)).1
 ·obtain⟨p,A,st,m,rfl,_⟩:=h
  rfl
 ·obtain⟨p,A,st,m,rfl,_,_,hc,_⟩:=h
  exact hc
 ·obtain⟨p,A,st,m,rfl,S,sg,_,hm,k⟩:=h
  refine⟨_,dE aB (pv 0) U.cl hr.m qv (ki (pv 1)),?_⟩;have nX:(bO A).lookup ("wears" : Str)=none:=uS A (by decide +kernel);refine⟨_,rfl,p,A.dx,_,rfl,S.ob,nX,_,rfl,p,A,st,g,rfl,S,sg,?_⟩;have hm:look st.worn g=some m:=hm;rw[hm];exact k
theorem rB (F:eR K "face_walk" "face_walk" aN f fd){c0 fw:Addr}{fdw:FuncData}(hco:fd.code=.ref c0)(CK:iC K c0 P1)(BK:pI mg base)(hmw:mg "walk_since" = some (.ref fw))(hkw:PySem.W.keepIn K (.ref fw)=true)(hbw:d8 K fdw ["hall","guest","ask"] [])(WS:∀ (b:Heap)(fl c1 cy:Addr)(vy:V)(pm ct:Value),Mod K mg b->km b bh (sR (bF aN)) (sS (bF aN)) (sU (bF aN)) "guest" vy fl c1 cy pm ct->aW P w K mg b (eY P w) 7 fw fdw ["hall","guest","ask"] (lL c (·.worn) bh fl c1 vy)):aW P w K mg base (eY P w) 8 f fd ["hall","guest"] (io c (·.worn) P1 dY bh):=by
 refine F.okXC rR hco (fun vs H Q E h=>?_) (fun A outer s H vs Q E hr h=>?_)
 ·obtain⟨p,B,es,L,g,rfl,_⟩:=h
  rfl
 ·obtain⟨p,B,es,L,g,rfl,⟨S,w1,w2,w3,w4,w5⟩,hT,k⟩:=h
  refine⟨_,ai (aA (oZ (iy:=1) (y:="guest") WS hr.m rfl hmw hkw hbw di (pv 0) (pv 1) rfl CK BK rfl rfl rfl rfl rfl rfl rfl)),?_⟩;refine⟨_,rfl,_,rfl,hT,_,rfl,fun fl c1 H3 hcf hT3 bt=>?_⟩;refine⟨p,B,es,L,g,rfl,rfl,⟨mZ.hall S hT bt,w1,w2,w3,w4,w5⟩,hcf,?_⟩
  cases hin:(look (bb es).worn g).isSome with
  | true =>
   rw[hin,Ee rfl]at k;rw[Ee rfl];exact fun l H' hl s' row=>k l H' (mZ.none bt hT3 hl) (mZ.same bt s') (hT3.same s') row
  | false =>
   rw[hin,Ed Ej]at k;rw[Ed Ej];exact fun dx H' s' hx=>k dx H' (mZ.same bt s') (hT3.same s') hx
theorem oU (F:eR K "_law_cell_at" "_law_cell_at" fV f fd) : aW P w K mg base dB 1 f fd ["_law_script","_law_k"] (rZ K):=by
 refine F.ok pj (fun vs H Q E h=>?_) (fun cdv A outer s H vs Q E hr h=>?_)
 ·obtain⟨a,ns,k,rfl,_⟩:=h
  rfl
 ·obtain⟨a,ns,i,rfl,hS,hi,k⟩:=h
  refine⟨_,ah (br (aE qt (pv 1) (bQ cB (by rfl) T.len F2 (ar (pv 0) ax)) (aQ _)) (ai (aA (aI dh (pv 0) (pv 1) (fun _ _=>rfl)))) aJ) (ai (aA aj)),?_⟩;refine⟨_,rfl,_,rfl,a,_,rfl,.inl hS,_,_,rfl,rfl,_,rfl,?_⟩;unfold gu at k;rw[Eg]
  by_cases hc:i<(ns.length:Int)
  ·rw[Ee hc]at k
   rw[EC hc];refine bY ⟨_,rfl,_,rfl,a,_,_,_,rfl,rfl,hS,?_,k⟩;have e:i=((i.toNat:Nat):Int):=(Int.toNat_of_nonneg hi).symm
   have hl:i.toNat<ns.length:=by omega
   rw[e];refine dJ ?_;rw[List.getElem?_map,List.getD_eq_getElem?_getD,Int.toNat_natCast,List.getElem?_eq_getElem hl];rfl
  ·rw[Ed hc]at k
   rw[EA hc];exact aV k
theorem rH (F:eR K "_law_whole" "_law_whole" iB f fd) : aW P w K mg base dB 1 f fd ["_law_found"] nz:=by
 refine F.ok rT (fun vs H Q E h=>?_) (fun cdv A outer s H vs Q E hr h=>?_)
 ·obtain⟨i,rfl,_⟩:=h
  rfl
 ·obtain⟨i,rfl,k⟩:=h
  refine⟨_,ai (aA (yN (bQ ko (by rfl) T.isinstance FN (ar (pv 0) (ar (nj (v:=.ty "int") (by rfl) T.int PyProof.Rows.boot_int rfl) ax))) (yV (Bk (bQ ko (by rfl) T.isinstance FN (ar (pv 0) (ar (nj (v:=.ty "bool") (by rfl) T.bool PyProof.Rows.boot_bool rfl) ax))))))),?_⟩;refine⟨_,rfl,_,_,_,true,rfl,iQ.int i,rfl,_,rfl,bY ?_⟩;exact⟨_,rfl,_,_,_,false,rfl,iQ.int i,rfl,_,rfl,k⟩
theorem tT (F:eR K "_law_size" "_law_size" jc f fd) : aW P w K mg base dB 1 f fd ["_law_cell"] pz:=by
 refine F.ok ud (fun vs H Q E h=>?_) (fun cdv A outer s H vs Q E hr h=>?_)
 ·obtain⟨c,rfl,_⟩:=h
  rfl
 ·obtain⟨c,rfl,k⟩:=h
  refine⟨_,ah (br (aE qt (pv 0) aj (aQ _)) (ai (aA (AC zm (pv 0)))) aJ) (ai (aA (pv 0))),?_⟩;refine⟨_,rfl,_,_,rfl,rfl,_,rfl,?_⟩;unfold iH at k
  by_cases hc:c<0
  ·rw[Ee hc]at k
   rw[EC hc];exact bY ⟨_,rfl,_,rfl,k⟩
  ·rw[Ed hc]at k
   rw[EA hc];exact aV ⟨_,rfl,k⟩
theorem rF (F:eR K "_law_draws" "_law_draws" iw f fd)(ek:aK P w K mg base "_law_size" 1 ["_law_cell"] pz) : aW P w K mg base dB 2 f fd ["_law_cell","_law_many","_law_base"] nw:=by
 refine F.ok bu (fun vs H Q E h=>?_) (fun cdv A outer s H vs Q E hr h=>?_)
 ·obtain⟨c,m,b,rfl,_⟩:=h
  rfl
 ·obtain⟨c,m,b,rfl,⟨m0,m1⟩,⟨b0,b1⟩,k⟩:=h
  refine⟨_,ah (dw (i:=3) bu.nd rfl (Or.inl rfl) (bV ek hr rfl (ar (pv 0) ax)))
   (ah (dw (i:=4) bu.nd rfl (Or.inl rfl) (e9 ax))
   (ah (br (aE yK (pv 3) (aM yL aj aj) (aQ _))
    (ah (dw (i:=3) bu.nd rfl (Or.inl rfl) (aM lG (pv 3) (aM yL aj aj)))
    (ah (dw (i:=5) bu.nd rfl (Or.inl rfl) (aM cC (pv 3) (aM e8 (pv 1) aj)))
    (ah (dw (i:=3) bu.nd rfl (Or.inl rfl) (aM f8 (pv 3) (aM e8 (pv 1) aj)))
    (ah (d4 Fa rfl (lI rfl T.range (ar (pv 5) ax)) (js (i:=6) bu.nd rfl (Or.inl rfl))
     (ah (bg (jJ EV ES ET cF (pv 4) (ar (aM cC (pv 3) (pv 2)) ax)))
     (ai (dw (i:=3) bu.nd rfl (Or.inl rfl) (aM f8 (pv 3) (pv 2))))))
    (ai (aA (pv 4)))))))
    aJ)
   (ah (dw (i:=7) bu.nd rfl (Or.inl rfl) (aM e8 (aM cC (pv 3) aj) aj))
   (ah (d4 Fa rfl (lI rfl T.range (ar (aM cC (pv 3) (aM e8 (pv 1) aj)) ax)) (js (i:=6) bu.nd rfl (Or.inl rfl))
     (ah (dw (i:=7) bu.nd rfl (Or.inl rfl) (aM cC (aM oX (pv 7) aj) aj))
     (ai (bg (jJ EV ES ET cF (pv 4) (ar (aM cC (aM f8 (aM cC (aM oX (pv 7) aj) aj) aj) (pv 2)) ax))))))
   (ai (aA (pv 4))))))),?_⟩
  refine⟨_,rfl,_,rfl,by show 0<=sizeLine;exact EK _,fun l hl=>?_⟩
  have big:(10:Int) ^ (18:Int).toNat=1000000000000000000:=by decide
  have room:∀ ds:List Int,(ds.length:Int)<=1000->(ds.map V.int).length<sizeLine:=fun ds h=>by rw[Eg];exact bn (by omega)
  have app:∀ (ds:List Int)(z:Int),upd (upd H l (.lst (ds.map V.int))) l (.lst (ds.map V.int++[V.int z]))=upd H l (.lst ((ds++[z]).map V.int)):=fun ds z=>by rw[wT,EE];rfl
  have inb:∀ (ds:List Int)(z:Int),(∀ d∈ds,0<=d/\d<b)->∀ d∈ds++[z%b],0<=d/\d<b:=fun ds z h d hd=>by
   rcases EB.mp hd with hd | hd
   ·exact h d hd
   ·rw[El.mp hd];exact⟨FY _ (by omega),FB _ b0⟩
  refine⟨_,rfl,_,_,rfl,rfl,⟨by decide,by decide,by decide⟩,_,_,rfl,rfl,_,rfl,?_⟩;refine uT (fun _=>?_) (fun _=>?_)
  ·refine⟨_,rfl,_,_,rfl,rfl,⟨by decide,by decide,by decide⟩,_,_,rfl,rfl,?_⟩
   refine⟨_,rfl,_,rfl,_,_,rfl,rfl,_,_,rfl,rfl,by show (0:Int)<m+1;omega,?_⟩;refine⟨_,rfl,_,rfl,_,_,rfl,rfl,_,_,rfl,rfl,⟨by show (0:Int)<m+1;omega,by show m+1<1073741824;omega⟩,?_⟩;have cb:=FB (iH c-(10:Int) ^ (18:Int).toNat) (show 0<m+1 by omega);have cn:=FY (iH c-(10:Int) ^ (18:Int).toNat) (show m+1≠0 by omega)
   refine⟨_,rfl,_,rfl,by omega,by omega,gM (n:=((iH c-(10:Int) ^ (18:Int).toNat)%(m+1)).toNat) (fun i σ H2=>∃ (z:Int)(v:Option V)(ds:List Int),σ=[some (.int c),some (.int m),some (.int b),some (.int z),some (.ref l),some (.int ((iH c-(10:Int) ^ (18:Int).toNat)%(m+1))),v,none]/\H2=upd H l (.lst (ds.map V.int))/\ds.length=i/\∀ d∈ds,0<=d/\d<b)
    ⟨_,none,[],rfl,rfl,rfl,fun _ z=>nomatch z⟩ ?_ ?_⟩
   ·rintro i σ H2 hi ⟨z,v,ds,rfl,rfl,hlen,hds⟩
    refine⟨_,rfl,.inl ⟨rfl,_,bz.of ag⟩,_,rfl,_,rfl,_,_,rfl,rfl,b0,l,_,_,rfl,rfl,ag,room ds (by omega),?_⟩;refine⟨_,rfl,_,rfl,_,_,rfl,rfl,⟨b0,b1⟩,?_⟩;exact⟨_,_,ds++[z%b],rfl,app ds _,by rw[Ew,hlen];rfl,inb ds z hds⟩
   ·rintro σ H2 ⟨z,v,ds,rfl,rfl,hlen,hds⟩
    exact⟨_,rfl,k l ds hl hds (by omega)⟩
  ·refine⟨_,rfl,_,_,rfl,rfl,by show (0:Int)<2147483629;decide,_,_,rfl,rfl,?_⟩
   have cb:=FB (iH c) (show 0<m+1 by omega);have cn:=FY (iH c) (show m+1≠0 by omega);refine⟨_,rfl,_,rfl,_,_,rfl,rfl,_,_,rfl,rfl,by show (0:Int)<m+1;omega,?_⟩
   refine⟨_,rfl,by omega,by omega,gM (n:=(iH c%(m+1)).toNat) (fun i σ H2=>∃ (z:Int)(v:Option V)(ds:List Int),σ=[some (.int c),some (.int m),some (.int b),some (.int (iH c)),some (.ref l),none,v,some (.int z)]/\H2=upd H l (.lst (ds.map V.int))/\ds.length=i/\∀ d∈ds,0<=d/\d<b)
    ⟨_,none,[],rfl,rfl,rfl,fun _ z=>nomatch z⟩ ?_ ?_⟩
   ·rintro i σ H2 hi ⟨z,v,ds,rfl,rfl,hlen,hds⟩
    refine⟨_,rfl,_,_,rfl,rfl,.inr ⟨by decide,by decide⟩,_,_,rfl,rfl,by show (0:Int)<2147483647;decide,?_⟩;refine⟨_,rfl,.inl ⟨rfl,_,bz.of ag⟩,_,rfl,_,_,rfl,rfl,.inr ⟨by decide,by decide⟩,_,_,rfl,rfl,by show (0:Int)<998244353;decide,_,_,rfl,rfl,⟨by decide,by decide⟩,_,rfl,_,_,rfl,rfl,b0,l,_,_,rfl,rfl,ag,room ds (by omega),?_⟩;exact⟨_,_,ds++[_],rfl,app ds _,by rw[Ew,hlen];rfl,inb ds _ hds⟩
   ·rintro σ H2 ⟨z,v,ds,rfl,rfl,hlen,hds⟩
    exact⟨_,rfl,k l ds hl hds (by omega)⟩
theorem kG (F:eR K "_law_draws_from" "_law_draws_from" d7 f fd)(iN:aK P w K mg base "_law_draws" 2 ["_law_cell","_law_many","_law_base"] nw) : aW P w K mg base dB 3 f fd ["_law_script","_law_start","_law_most","_law_base"] (sd K):=by
 refine F.ok cR (fun vs H Q E h=>?_) (fun cdv A outer s H vs Q E hr h=>?_)
 ·obtain⟨a,ns,st,m,b,rfl,_⟩:=h
  rfl
 ·obtain⟨a,ns,st,m,b,rfl,hS,⟨s0,s1⟩,⟨m0,m1⟩,⟨b0,b1⟩,k⟩:=h
  refine⟨_,ah (dw (i:=4) cR.nd rfl (Or.inl rfl) (e9 ax))
   (ah (d4 Fa rfl (dL (tX Aq (pv 0) (rL (pv 1)) (rL aj))) (js (i:=5) cR.nd rfl (Or.inl rfl))
    (ai (d4 Fa rfl (dL (bV iN hr rfl (ar (pv 5) (ar aj (ar (pv 3) ax))))) (js (i:=6) cR.nd rfl (Or.inl rfl))
     (ai (br (aE qt (bQ cB (by rfl) T.len F2 (ar (pv 4) ax)) (pv 2) (aQ _))
      (ai (bg (jJ EV ES ET cF (pv 4) (ar (pv 6) ax)))) aJ)))))
   (ai (aA (pv 4)))),?_⟩
  refine⟨by show 0<=sizeLine;exact EK _,fun l hl=>?_⟩;have hS':bz K (upd H l (.lst [])) a (ns.map V.int):=(ao hl).seq hS;refine⟨_,rfl,_,rfl,_,rfl,_,rfl,a,_,rfl,hS',fun q hq=>?_⟩
  have hlq:l≠q:=fun e=>by rw[<-e,ag]at hq;cases hq
  have hHq:H q=none:=by rw[ae (Ex hlq)]at hq;exact hq
  obtain⟨zs,hzs⟩:∃ zs:List Int,mP (ns.map V.int) (some st) (some 63)=zs.map V.int:=⟨(ns.drop (HT.sIx ns.length 0 (some st))).take (HT.sIx ns.length ns.length (some 63)-HT.sIx ns.length 0 (some st)),by unfold mP;rw[Eg,List.map_take,List.map_drop]⟩;rw[hzs]
  refine⟨q,rfl,⟨_,bz.of ag⟩,cY (K:=K) (a:=q) (xs:=zs.map V.int) (fun i σ H2=>∃ (v u:Option V)(ds:List Int),σ=[some (.ref a),some (.int st),some (.int m),some (.int b),some (.ref l),v,u]/\aF H H2/\H2 q=some (.lst (zs.map V.int))/\H2 l=some (.lst (ds.map V.int))/\(∀ d∈ds,0<=d/\d<b)/\(ds.length:Int)<=m)
   ⟨none,none,[],rfl,c8 (ao hl) hHq,ag,by rw[ae hlq,ag];rfl,(fun _ z=>nomatch z),by simpa using m0⟩ (fun i σ H2 _ ⟨_,_,_,_,_,h,_⟩=>bz.of h) ?_ ?_⟩
  ·rintro i y σ H2 hi ⟨v,u,ds,rfl,s2,hq2,hl2,hds,hlen⟩
   obtain⟨z,_,rfl⟩:=cO hi;refine⟨_,rfl,_,rfl,z,24,b,rfl,⟨by decide,by decide⟩,⟨b0,b1⟩,fun r es hr2 hes hel=>?_⟩;have hrq:q≠r:=ak hq2 hr2;have hrl:l≠r:=ak hl2 hr2
   refine⟨r,rfl,⟨_,bz.of ag⟩,cY (K:=K) (a:=r) (xs:=es.map V.int) (fun i σ H3=>∃ (u:Option V)(ds:List Int),σ=[some (.ref a),some (.int st),some (.int m),some (.int b),some (.ref l),some (.int z),u]/\aF H H3/\H3 q=some (.lst (zs.map V.int))/\H3 r=some (.lst (es.map V.int))/\H3 l=some (.lst (ds.map V.int))/\(∀ d∈ds,0<=d/\d<b)/\(ds.length:Int)<=m)
    ⟨u,ds,rfl,c8 s2 (s2.free hr2),by rw[ae hrq];exact hq2,ag,by rw[ae hrl];exact hl2,hds,hlen⟩ (fun i σ H2 _ ⟨_,_,_,_,_,h,_⟩=>bz.of h) ?_ ?_⟩
   ·rintro i y σ H3 hi ⟨u,ds,rfl,s3,hq3,hr3,hl3,hds,hlen⟩
    obtain⟨d,hd,rfl⟩:=cO hi;refine⟨_,rfl,l,_,rfl,.inl (bz.of hl3),_,rfl,_,_,rfl,rfl,_,rfl,?_⟩;rw[Eg];refine uT (fun hc=>?_) (fun _=>?_)
    ·have hc:=FH hc
     refine⟨_,rfl,.inl ⟨rfl,_,bz.of hl3⟩,_,rfl,l,_,_,rfl,rfl,hl3,by rw[Eg];exact bn (by omega),?_⟩;refine⟨_,ds++[d],rfl,c8 s3 hl,by rw[ae (Ex hlq)];exact hq3,by rw[ae (Ex hrl)];exact hr3,by rw[ag,EE];rfl,fun x hx=>?_,by rw[Ew];show ((ds.length+1:Nat):Int)<=m;omega⟩;rcases EB.mp hx with hx | hx
     ·exact hds x hx
     ·rw[El.mp hx];exact hes d (EN hd)
    ·exact⟨_,ds,rfl,s3,hq3,hr3,hl3,hds,hlen⟩
   ·rintro σ H3 ⟨u,ds,rfl,s3,hq3,hr3,hl3,hds,hlen⟩
    exact⟨_,_,ds,rfl,s3,hq3,hl3,hds,hlen⟩
  ·rintro σ H2 ⟨v,u,ds,rfl,s2,hq2,hl2,hds,hlen⟩
   exact⟨_,rfl,k l H2 ds hl s2 hl2 hds hlen⟩
theorem rG (F:eR K "_law_guest" "_law_guest" iz f fd)(ek:aK P w K mg base "_law_size" 1 ["_law_cell"] pz) : aW P w K mg base dB 2 f fd ["_law_k","_law_cell"] kR:=by
 refine F.ok fz (fun vs H Q E h=>?_) (fun cdv A outer s H vs Q E hr h=>?_)
 ·obtain⟨k,c,rfl,_⟩:=h
  rfl
 ·obtain⟨i,c,rfl,⟨i0,i1⟩,k⟩:=h
  refine⟨_,ah (dw (i:=2) fz.nd rfl (Or.inl rfl) (bV ek hr rfl (ar (pv 1) ax)))
   (ah (dw (i:=3) fz.nd rfl (Or.inl rfl) (aM e8 aj (aM cC (aM oX (pv 2) aj) aj)))
   (ah (dw (i:=4) fz.nd rfl (Or.inl rfl) (aM cC (aM e8 (aM oX (pv 0) (pv 3)) (aM yJ (pv 2) aj)) aj))
   (ah (br (aE dX (aM cC (pv 2) aj) aj (aQ _)) (ai (aA (aM e8 (pv 4) aj))) aJ)
   (ai (aA (pv 4)))))),?_⟩
  refine⟨_,rfl,_,rfl,?_⟩;refine⟨_,rfl,_,_,rfl,rfl,.inr ⟨by decide,by decide⟩,_,_,rfl,rfl,by show (0:Int)<2147483646;decide,_,_,rfl,rfl,?_⟩;refine⟨_,rfl,_,rfl,_,_,rfl,rfl,.inl ⟨by show (-(2 ^ 64):Int)<i;omega,by show i<(2 ^ 64:Int);omega⟩,_,rfl,_,_,rfl,rfl,⟨by decide,by decide⟩,_,_,rfl,rfl,_,_,rfl,rfl,by show (0:Int)<2147483647;decide,?_⟩;refine⟨_,rfl,_,_,rfl,rfl,by show (0:Int)<5;decide,rfl,_,rfl,?_⟩;unfold uN at k;dsimp only at k
  by_cases hc:iH c%5=4
  ·rw[Ee hc]at k
   rw[EC (show V.int (iH c%5)=V.int 4 by rw[hc])];exact bY ⟨_,rfl,_,_,rfl,rfl,k⟩
  ·rw[Ed hc]at k
   rw[EA (show ¬ V.int (iH c%5)=V.int 4 from fun z=>hc (by injection z))];exact aV ⟨_,rfl,k⟩
theorem vk (F:eR K "_law_key" "_law_key" kg f fd) : aW P w K mg base dB 1 f fd ["_law_one","_law_other"] ug:=by
 refine F.ok vB (fun vs H Q E h=>?_) (fun cdv A outer s H vs Q E hr h=>?_)
 ·obtain⟨a,b,rfl,_⟩:=h
  rfl
 ·obtain⟨a,b,rfl,k⟩:=h
  refine⟨_,ah (br (aE qt (pv 1) (pv 0) (aQ _)) (ai (aA (bx (ie (pv 1) (pv 0))))) (aJ)) (
   ai (aA (bx (ie (pv 0) (pv 1))))),?_⟩
  refine⟨_,rfl,_,rfl,_,_,rfl,rfl,_,rfl,?_⟩;unfold gv at k
  by_cases hc:b<a
  ·rw[Ee hc]at k
   rw[EC hc];exact bY ⟨_,rfl,_,rfl,by show 2<=sizeLine;decide,k⟩
  ·rw[Ed hc]at k
   rw[EA hc];exact aV ⟨_,rfl,_,rfl,by show 2<=sizeLine;decide,k⟩
theorem vj (F:eR K "_law_due" "_law_due" kf f fd)(fB:aK P w K mg base "_law_key" 1 ["_law_one","_law_other"] ug) : aW P w K mg base dB 2 f fd ["_law_worn","_law_met","_law_deed_here"] wH:=by
 refine F.ok pk (fun vs H Q E h=>?_) (fun cdv A outer s H vs Q E hr h=>?_)
 ·obtain⟨w,m,t,wl,ml,d,rfl,_⟩:=h
  rfl
 ·obtain⟨w,m,t,wl,ml,d,rfl,hw,hm,ht0,k⟩:=h
  have hu:=fJ hr
  have ht:H t=some (.tup (b9 d)):=by rw[<-jo];exact ht0
  have gw:∀ (H2:Hp)(x:Int),aF H H2->cI H2 w (.int x) ((look wl x).map V.int):=fun H2 x s2=>by rw[<-dM];exact cI.k (k:=Sum.inl x) (s2 _ _ hw)
  have two:(2:Nat)<=sizeLine:=by decide
  refine⟨_,ah (d4 Fa rfl (Bl (tX Bu (pv 2) (rL (aj)) Ak)) (jY 3 pk.nd) (ai (br (PW.pt (gB (aE qu (aI aG (pv 2) (aj) (fun _ _=>rfl)) (aY) (aQ _)) (gf (ij (lH hu (pv 3) (pv 0)))))) (ai (aA (bx (ie (aY) (pv 3))))) (aJ)))) (
   ah (br (PW.pt (gB (aE dX (aI aG (pv 2) (aj) (fun _ _=>rfl)) (aY) (aQ _)) (gf (ij (iY hu (aI aG (pv 2) (aj) (fun _ _=>rfl)) (pv 0)))))) (ai (aA (bx (ie (aY) (o7))))) (aJ)) (
   ah (br (PW.pt (gB (aE dX (aI aG (pv 2) (aj) (fun _ _=>rfl)) (aY) (aQ _)) (gf (aE qu (ig hu (pv 0) (aI aG (pv 2) (aj) (fun _ _=>rfl)) (fun _ _=>rfl)) (aI aG (pv 2) (aj) (fun _ _=>rfl)) (aQ _))))) (ai (aA (bx (ie (aY) (o7))))) (aJ)) (
   ah (br (PW.pt (gB (aE dX (aI aG (pv 2) (aj) (fun _ _=>rfl)) (aY) (aQ _)) (gf (aE dX (aI aG (pv 2) (aj) (fun _ _=>rfl)) (aI aG (pv 2) (aj) (fun _ _=>rfl)) (aQ _))))) (ai (aA (bx (ie (aY) (o7))))) (aJ)) (
   ah (br (PW.pt (gB (aE dX (aI aG (pv 2) (aj) (fun _ _=>rfl)) (aY) (aQ _)) (gf (ij (iY hu (bV fB hr.m rfl (ie (aI aG (pv 2) (aj) (fun _ _=>rfl)) (aI aG (pv 2) (aj) (fun _ _=>rfl)))) (pv 1)))))) (ai (aA (bx (ie (aY) (o7))))) (aJ)) (
   ai (aA (bx (ie (aY) (o7))))))))),?_⟩
  refine⟨_,rfl,_,rfl,t,_,rfl,dv.of ht,zK d,fun q hq=>?_⟩;have s1:aF H (upd H q (.tup (mP (b9 d) (some 1) none))):=ao hq
  have hq1:upd H q (.tup (mP (b9 d) (some 1) none)) q=some (.tup ((names d).map V.int)):=by rw[ag,yc]
  generalize upd H q (.tup (mP (b9 d) (some 1) none))=H1 at s1 hq1
  refine⟨q,rfl,⟨_,dv.of hq1⟩,zT (K:=K) (a:=q) (xs:=(names d).map V.int) (fun i σ H2=>∃ v:Option V,σ=[some (.ref w),some (.ref m),some (.ref t),v]/\H2=H1/\(dq d≠"come"->∀ y∈(names d).take i,(look wl y).isSome=true))
   ⟨none,rfl,rfl,fun _ y hy=>by simp at hy⟩ (fun i σ H2 _ ⟨_,_,e,_⟩=>by rw[e];exact dv.of hq1) ?_ ?_⟩
  ·rintro i y σ H2 hi ⟨v,rfl,rfl,hp⟩
   obtain⟨x,hx,rfl⟩:=cO hi;refine⟨_,rfl,t,_,_,_,rfl,rfl,dv.of (s1 _ _ ht),dJ (j:=0) rfl,rfl,_,rfl,?_⟩
   have nxt:(dq d≠"come"->(look wl x).isSome=true)->(dq d≠"come"->∀ y∈(names d).take (i+1),(look wl y).isSome=true):=fun h hc y hy=>by
    rw[xW hx]at hy;rcases EB.mp hy with z | z
    ·exact hp hc y z
    ·rw[El.mp z];exact h hc
   by_cases hc:dq d="come"
   ·rw[EC (by rw[hc])]
    exact aV (aV ⟨_,rfl,rfl,nxt fun z=>absurd hc z⟩)
   ·rw[EA (fun z=>hc (V.str.inj z))]
    refine bY ⟨_,rfl,_,rfl,w,_,rfl,gw _ x s1,_,rfl,?_⟩
    cases e:look wl x with
    | none =>
     refine bY ⟨_,rfl,two,fun r hr2=>?_⟩;refine k r _ (s1.free hr2) (s1.trans (ao hr2)) ?_;rw[ag,yy hc (hp hc) hx e];rfl
    | some z=>exact aV ⟨_,rfl,rfl,nxt fun _=>by rw[e];rfl⟩
  ·rintro σ H2 ⟨v,rfl,rfl,hp⟩
   have fin:∀ (o:zy)(H3:Hp)(r:Addr),bS wl (pL ml) d=o->aF H H3->H3 r=none->Q (.ref r) (upd H3 r (.tup (Bj o))):=fun o H3 r e s3 h3=>k r _ (s3.free h3) (s3.trans (ao h3)) (by rw[ag,e]);rw[Eg,Fe]at hp;have T0:dv K H2 t (b9 d):=dv.of (s1 _ _ ht)
   cases d with
   | come g =>
    refine⟨_,rfl,t,_,_,_,rfl,rfl,T0,rfl,rfl,_,rfl,?_⟩;rw[show decide (V.str (dq (.come g))=V.str "come")=true from cc];refine bY ⟨_,rfl,t,_,_,_,rfl,rfl,T0,rfl,_,rfl,w,_,rfl,gw _ g s1,_,rfl,?_⟩
    cases e:look wl g with
    | some z=>exact bY ⟨two,fun r h3=>fin .already _ r (by simp[bS,e]) s1 h3⟩
    | none =>
     refine aV ⟨_,rfl,t,_,_,_,rfl,rfl,T0,rfl,rfl,_,rfl,?_⟩;rw[show decide (V.str (dq (.come g))=V.str "go")=false from cg];refine aV (aV ⟨_,rfl,t,_,_,_,rfl,rfl,T0,rfl,rfl,_,rfl,?_⟩);rw[show decide (V.str (dq (.come g))=V.str "exchange")=false from ce];refine aV (aV ⟨_,rfl,t,_,_,_,rfl,rfl,T0,rfl,rfl,_,rfl,?_⟩);rw[show decide (V.str (dq (.come g))=V.str "exchange")=false from ce];exact aV (aV ⟨two,fun r h3=>fin .done _ r (by simp[bS,e]) s1 h3⟩)
   | go g =>
    have hg:=hp (by show ("go" : Str)≠"come";decide +kernel) g (by simp[names]);obtain⟨z,e⟩:=EL.mp hg;refine⟨_,rfl,t,_,_,_,rfl,rfl,T0,rfl,rfl,_,rfl,?_⟩;rw[show decide (V.str (dq (.go g))=V.str "come")=false from gc];refine aV (aV ⟨_,rfl,t,_,_,_,rfl,rfl,T0,rfl,rfl,_,rfl,?_⟩);rw[show decide (V.str (dq (.go g))=V.str "go")=true from gg];refine bY ⟨_,rfl,_,rfl,t,_,_,_,rfl,rfl,T0,rfl,w,_,rfl,(by have:=gw H2 g s1;rw[e]at this;exact this),_,rfl,t,_,_,_,rfl,rfl,T0,rfl,rfl,_,rfl,?_⟩
    by_cases hz:z=g
    ·rw[EC (by rw[hz])]
     refine aV ⟨_,rfl,t,_,_,_,rfl,rfl,T0,rfl,rfl,_,rfl,?_⟩;rw[show decide (V.str (dq (.go g))=V.str "exchange")=false from ge];refine aV (aV ⟨_,rfl,t,_,_,_,rfl,rfl,T0,rfl,rfl,_,rfl,?_⟩);rw[show decide (V.str (dq (.go g))=V.str "exchange")=false from ge];exact aV (aV ⟨two,fun r h3=>fin .done _ r (by simp[bS,e,hz]) s1 h3⟩)
    ·rw[EA (fun q=>hz (V.int.inj q))]
     exact bY ⟨two,fun r h3=>fin .masked _ r (by simp[bS,e,hz]) s1 h3⟩
   | exch a b =>
    have ha:=hp (by show ("exchange" : Str)≠"come";decide +kernel) a (by simp[names]);have hb:=hp (by show ("exchange" : Str)≠"come";decide +kernel) b (by simp[names]);obtain⟨za,ea⟩:=EL.mp ha;obtain⟨zb,eb⟩:=EL.mp hb;refine⟨_,rfl,t,_,_,_,rfl,rfl,T0,rfl,rfl,_,rfl,?_⟩;rw[show decide (V.str (dq (.exch a b))=V.str "come")=false from ec];refine aV (aV ⟨_,rfl,t,_,_,_,rfl,rfl,T0,rfl,rfl,_,rfl,?_⟩);rw[show decide (V.str (dq (.exch a b))=V.str "go")=false from eg];refine aV (aV ⟨_,rfl,t,_,_,_,rfl,rfl,T0,rfl,rfl,_,rfl,?_⟩);rw[show decide (V.str (dq (.exch a b))=V.str "exchange")=true from ee];refine bY ⟨_,rfl,t,_,_,_,rfl,rfl,T0,rfl,_,rfl,t,_,_,_,rfl,rfl,T0,rfl,rfl,_,rfl,?_⟩
    by_cases hab:a=b
    ·rw[EC (by rw[hab])]
     exact bY ⟨two,fun r h3=>fin .same _ r (by simp[bS,ea,eb,hab]) s1 h3⟩
    ·rw[EA (fun q=>hab (V.int.inj q))]
     refine aV ⟨_,rfl,t,_,_,_,rfl,rfl,T0,rfl,rfl,_,rfl,?_⟩;rw[show decide (V.str (dq (.exch a b))=V.str "exchange")=true from ee];refine bY ⟨_,rfl,t,_,_,_,rfl,rfl,T0,rfl,_,rfl,t,_,_,_,rfl,rfl,T0,rfl,a,b,rfl,fun kt hk=>?_⟩;have s2:=s1.trans (ao (o:=.tup [.int (gv a b).1,.int (gv a b).2]) hk);refine⟨_,rfl,m,_,rfl,cI.t (k:=[Sum.inl (gv a b).1,Sum.inl (gv a b).2]) (s2 _ _ hm) ag,_,rfl,?_⟩;rw[Ab]
     by_cases hmt:gv a b∈ml
     ·rw[EC hmt]
      exact bY ⟨two,fun r h3=>fin .met _ r (by simp[bS,ea,eb,hab,pL,hmt]) s2 h3⟩
     ·rw[EA hmt]
      exact aV ⟨two,fun r h3=>fin .done _ r (by simp[bS,ea,eb,hab,pL,hmt]) s2 h3⟩
theorem rC (F:eR K "_law_after" "_law_after" ir f fd)(fB:aK P w K mg base "_law_key" 1 ["_law_one","_law_other"] ug) : aW P w K mg base dB 2 f fd ["_law_worn","_law_met","_law_deed_here"] nk:=by
 refine F.ok kP (fun vs H Q E h=>?_) (fun cdv A outer s H vs Q E hr h=>?_)
 ·obtain⟨w,m,t,wl,ml,d,rfl,_⟩:=h
  rfl
 ·obtain⟨w,m,t,wl,ml,d,rfl,hw,hm,ht0,l1,l2,hj,k⟩:=h
  have hu:=fJ hr
  have ht:H t=some (.tup (b9 d)):=by rw[<-jo];exact ht0
  have T0:dv K H t (b9 d):=dv.of ht;have nwt:t≠w:=cQ ht hw (by intro z;cases z);have nwm:m≠w:=cQ hm hw (by intro z;cases z);have ntm:t≠m:=cQ ht hm (by intro z;cases z)
  have sz:∀ v:List (Int×Int),v.length<=2000->(dk v).length<sizeLine:=fun v h=>by rw[uY];exact Nat.lt_of_le_of_lt h (by decide)
  refine⟨_,ai (br (aE dX (aI aG (pv 2) (aj) (fun _ _=>rfl)) (aY) (aQ _)) (ai (fu hu (pv 0) (aI aG (pv 2) (aj) (fun _ _=>rfl)) (aI aG (pv 2) (aj) (fun _ _=>rfl)) rfl)) (ai (br (aE dX (aI aG (pv 2) (aj) (fun _ _=>rfl)) (aY) (aQ _)) (ai (bg (o0 (pv 0) (aI aG (pv 2) (aj) (fun _ _=>rfl)) ⟨rfl,rfl,rfl,rfl⟩))) (ah (bW 3 kP.nd (ig hu (pv 0) (aI aG (pv 2) (aj) (fun _ _=>rfl)) (fun _ _=>rfl))) (
   ah (fu hu (pv 0) (aI aG (pv 2) (aj) (fun _ _=>rfl)) (ig hu (pv 0) (aI aG (pv 2) (aj) (fun _ _=>rfl)) (fun _ _=>rfl)) rfl) (
   ah (fu hu (pv 0) (aI aG (pv 2) (aj) (fun _ _=>rfl)) (pv 3) rfl) (
   ai (fu hu (pv 1) (bV fB hr.m rfl (ie (aI aG (pv 2) (aj) (fun _ _=>rfl)) (aI aG (pv 2) (aj) (fun _ _=>rfl)))) (iZ) rfl)))))))),?_⟩
  cases d with
  | come g =>
   refine⟨_,rfl,t,_,_,_,rfl,rfl,T0,rfl,rfl,_,rfl,?_⟩;rw[show decide (V.str (dq (.come g))=V.str "come")=true from cc];refine bY ⟨_,rfl,t,_,_,_,rfl,rfl,T0,rfl,_,rfl,_,rfl,t,_,_,_,rfl,rfl,T0,rfl,w,_,rfl,jx.k (k:=Sum.inl g) hw (sz _ (by omega)),?_⟩;rw[jt]
   exact k _ ag (by rw[ae nwm];exact hm) fun b o e h1 _=>by rw[ae h1];exact e
  | go g =>
   refine⟨_,rfl,t,_,_,_,rfl,rfl,T0,rfl,rfl,_,rfl,?_⟩;rw[show decide (V.str (dq (.go g))=V.str "come")=false from gc];refine aV ⟨_,rfl,t,_,_,_,rfl,rfl,T0,rfl,rfl,_,rfl,?_⟩;rw[show decide (V.str (dq (.go g))=V.str "go")=true from gg]
   obtain⟨z,e⟩:∃ z,look wl g=some z:=by
    cases e:look wl g with
    | none=>simp[bS,e]at hj
    | some z=>exact⟨z,rfl⟩
   refine bY ⟨_,rfl,w,rfl,.inl ⟨_,.inl hw⟩,_,rfl,t,_,_,_,rfl,rfl,T0,rfl,_,Sum.inl g,_,hw,rfl,by rw[dM,e];rfl,?_⟩;rw[ox]
   exact k _ ag (by rw[ae nwm];exact hm) fun b o e h1 _=>by rw[ae h1];exact e
  | exch a b =>
   refine⟨_,rfl,t,_,_,_,rfl,rfl,T0,rfl,rfl,_,rfl,?_⟩;rw[show decide (V.str (dq (.exch a b))=V.str "come")=false from ec];refine aV ⟨_,rfl,t,_,_,_,rfl,rfl,T0,rfl,rfl,_,rfl,?_⟩;rw[show decide (V.str (dq (.exch a b))=V.str "go")=false from eg]
   obtain⟨za,ea⟩:∃ z,look wl a=some z:=by
    cases e:look wl a with
    | none=>simp[bS,e]at hj
    | some z=>exact⟨z,rfl⟩
   obtain⟨zb,eb⟩:∃ z,look wl b=some z:=by
    cases e:look wl b with
    | none=>simp[bS,ea,e]at hj
    | some z=>exact⟨z,rfl⟩
   have ga:cI H w (.int a) (some (V.int za)):=by have:=cI.k (k:=Sum.inl a) hw;rw[dM,ea]at this;exact this
   have gb:cI H w (.int b) (some (V.int zb)):=by have:=cI.k (k:=Sum.inl b) hw;rw[dM,eb]at this;exact this
   refine aV ⟨_,rfl,_,rfl,t,_,_,_,rfl,rfl,T0,rfl,w,_,rfl,ga,?_⟩;refine⟨_,rfl,_,rfl,t,_,_,_,rfl,rfl,T0,rfl,w,_,rfl,gb,_,rfl,_,rfl,t,_,_,_,rfl,rfl,T0,rfl,w,_,rfl,jx.k (k:=Sum.inl a) hw (sz _ (by omega)),?_⟩;rw[jt];have lp:=ri wl a zb;have T1:dv K (upd H w (.dK (dk (put wl a zb)))) t (b9 (.exch a b)):=dv.of (by rw[ae nwt];exact ht);refine⟨_,rfl,_,rfl,_,rfl,t,_,_,_,rfl,rfl,T1,rfl,w,_,rfl,jx.k (k:=Sum.inl b) ag (sz _ (by omega)),?_⟩;rw[jt,wT];have T2:dv K (upd H w (.dK (dk (put (put wl a zb) b za)))) t (b9 (.exch a b)):=dv.of (by rw[ae nwt];exact ht);refine⟨_,rfl,_,rfl,t,_,_,_,rfl,rfl,T2,rfl,_,rfl,t,_,_,_,rfl,rfl,T2,rfl,a,b,rfl,fun kt hk=>?_⟩;have hkm:m≠kt:=ak (by rw[ae nwm];exact hm) hk;have hkw:w≠kt:=ak ag hk;refine⟨m,_,rfl,jx.t (k:=[Sum.inl (gv a b).1,Sum.inl (gv a b).2]) (by rw[ae hkm,ae nwm];exact hm) ag (by unfold wu;rw[Eg];exact Nat.lt_of_le_of_lt l2 (by decide)),?_⟩;rw[Aa]
   have wa:wr wl a=za:=by unfold wr;rw[ea];rfl
   have wb:wr wl b=zb:=by unfold wr;rw[eb];rfl
   refine k _ ?_ ag fun x o e h1 h2=>?_
   ·rw[ae (Ex nwm),ae hkw,ag]
    show some (HO.dK (dk (put (put wl a zb) b za)))=some (HO.dK (dk (put (put wl a (wr wl b)) b (wr wl a))))
    rw[wa,wb]
   ·have e':upd H w (.dK (dk (put (put wl a zb) b za))) x=some o:=by rw[ae h1];exact e
    rw[ae h2,ae (ak e' hk)];exact e'
theorem tQ (F:eR K "_law_deed" "_law_deed" i9 f fd)(cV:aK P w K mg base "_law_guest" 2 ["_law_k","_law_cell"] kR) : aW P w K mg base dB 3 f fd ["_law_drawn","_law_many","_law_cell"] nv:=by
 refine F.ok mG (fun vs H Q E h=>?_) (fun cdv A outer s H vs Q E hr h=>?_)
 ·obtain⟨dr,m,n,rfl,_⟩:=h
  rfl
 ·obtain⟨dr,m,n,rfl,⟨d0,d1⟩,⟨m0,m1⟩,k⟩:=h
  refine⟨_,ah (bW 3 mG.nd (bV cV hr.m rfl (ie (aM cC (aM f8 (pv 0) (aj)) (pv 1)) (pv 2)))) (
   ah (br (aE dX (aM cC (pv 0) (aj)) (aj) (aQ _)) (ai (aA (bx (ie (aY) (pv 3))))) (aJ)) (
   ah (br (aE dX (aM cC (pv 0) (aj)) (aj) (aQ _)) (ai (aA (bx (ie (aY) (pv 3))))) (aJ)) (
   ai (aA (bx (Af (aY) (pv 3) (bV cV hr.m rfl (ie (aM cC (aM f8 (pv 0) (aM oX (aj) (pv 1))) (pv 1)) (pv 2))))))))),?_⟩
  have em:∀ z:Int,0<=z%m/\z%m<m:=fun z=>⟨FY _ (by omega),FB _ (by omega)⟩;have a0:=em (dr/8);refine⟨_,rfl,_,_,rfl,rfl,⟨by decide,by decide⟩,_,rfl,_,_,rfl,rfl,by show (0:Int)<m;omega,_,rfl,_,_,rfl,⟨a0.1,by omega⟩,?_⟩;have g0:uN (dr/8%m) n∈bP 40 n:=uO ⟨a0.1,by omega⟩;refine⟨_,rfl,_,_,rfl,rfl,by show (0:Int)<8;decide,rfl,_,rfl,?_⟩;refine uT (fun _=>⟨_,rfl,by show 2<=sizeLine;decide,fun t ht=>k t (.come (uN (dr/8%m) n)) ht fun g hg=>by simp[names]at hg;rw[hg];exact g0⟩) (fun _=>?_);refine⟨_,rfl,_,_,rfl,rfl,by show (0:Int)<8;decide,rfl,_,rfl,?_⟩;refine uT (fun _=>⟨_,rfl,by show 2<=sizeLine;decide,fun t ht=>k t (.go (uN (dr/8%m) n)) ht fun g hg=>by simp[names]at hg;rw[hg];exact g0⟩) (fun _=>?_);have a1:=em (dr/(8*m));have g1:uN (dr/(8*m)%m) n∈bP 40 n:=uO ⟨a1.1,by omega⟩;refine⟨_,rfl,_,rfl,_,rfl,_,_,rfl,rfl,.inl ⟨by decide,by decide⟩,_,_,rfl,rfl,⟨by show (0:Int)<8*m;omega,by show 8*m<1073741824;omega⟩,_,rfl,_,_,rfl,rfl,by show (0:Int)<m;omega,_,rfl,_,_,rfl,⟨a1.1,by omega⟩,by show 3<=sizeLine;decide,fun t ht=>?_⟩
  exact k t (.exch (uN (dr/8%m) n) (uN (dr/(8*m)%m) n)) ht fun g hg=>by
   simp[names]at hg;rcases hg with rfl | rfl
   ·exact g0
   ·exact g1
theorem rD (F:eR K "_law_crowd" "_law_crowd" iu f fd) : aW P w K mg base dB 1 f fd ["_law_cell"] nu:=by
 refine F.ok rS (fun vs H Q E h=>?_) (fun cdv A outer s H vs Q E hr h=>?_)
 ·obtain⟨n,rfl,_⟩:=h
  rfl
 ·obtain⟨n,rfl,k⟩:=h
  refine⟨_,ah (br (aE dX (aM cC (aM f8 (pv 0) (aj)) (aj)) (aj) (aQ _)) (ai (aA (aM e8 (aj) (aM cC (aM f8 (pv 0) (aj)) (aj))))) (aJ)) (
   ai (aA (aM e8 (aj) (aM cC (pv 0) (aj))))),?_⟩
  refine⟨_,rfl,_,_,rfl,rfl,⟨by decide,by decide⟩,_,_,rfl,rfl,by show (0:Int)<8;decide,rfl,_,rfl,?_⟩;refine uT (fun _=>?_) (fun _=>?_)
  ·refine⟨_,rfl,_,_,rfl,rfl,⟨by decide,by decide⟩,_,_,rfl,rfl,by show (0:Int)<28;decide,_,_,rfl,rfl,k _ ?_⟩
   have:=FB (n/1408) (show (0:Int)<28 by decide);have:=FY (n/1408) (show (28:Int)≠0 by decide);omega
  ·refine⟨_,rfl,_,_,rfl,rfl,by show (0:Int)<11;decide,_,_,rfl,rfl,k _ ?_⟩
   have:=FB n (show (0:Int)<11 by decide);have:=FY n (show (11:Int)≠0 by decide);omega
theorem rE (F:eR K "_law_deeds" "_law_deeds" d6 f fd)(dC:aK P w K mg base "_law_cell_at" 1 ["_law_script","_law_k"] (rZ K))(iL:aK P w K mg base "_law_crowd" 1 ["_law_cell"] nu)(cV:aK P w K mg base "_law_guest" 2 ["_law_k","_law_cell"] kR)(jM:aK P w K mg base "_law_deed" 3 ["_law_drawn","_law_many","_law_cell"] nv)(ed:aK P w K mg base "_law_draws_from" 3 ["_law_script","_law_start","_law_most","_law_base"] (sd K)) : aW P w K mg base dB 4 f fd ["_law_script"] (kQ K):=by
 refine F.ok d5 (fun vs H Q E h=>?_) (fun cdv A outer s H vs Q E hr h=>?_)
 ·obtain⟨a,ns,rfl,_⟩:=h
  rfl
 ·obtain⟨a,ns,rfl,hS,k⟩:=h
  refine⟨_,ah (bW 1 d5.nd (bV dC hr.m rfl (ie (pv 0) (aj)))) (
   ah (bW 2 d5.nd (bV iL hr.m rfl (ki (bV dC hr.m rfl (ie (pv 0) (aj)))))) (
   ah (bW 3 d5.nd (aM cC (aM f8 (bV dC hr.m rfl (ie (pv 0) (aj))) (aj)) (aj))) (
   ah (Al (ix:=4) (so:=au d6) (N:=iV) (N':=["_law_k","_law_first","_law_cell"]) (src:=[none,some 3,some 1]) rfl rfl Cb rfl (lI (by rfl) T.range (ki (pv 2))) (fun cl C s2 H2 ex=>⟨jY 0 (show (["_law_k","_law_first","_law_cell"]:List Str).Nodup by decide +kernel),Am (PW.pt (o9 (aE Cs (pv 1) (aj) (aQ _)) (pb (aE dX (aM cC (pv 0) (aj)) (aj) (aQ _))))),bx (ie (aY) (bV cV hr.m rfl (ie (pv 0) (pv 2))))⟩) d5.nd rfl rfl) (
   ai (aA (aM vn (pv 4) (kH (so:=au d6) (N:=iV) (N':=["_law_drawn","_law_many","_law_cell"]) (src:=[none,some 2,some 1]) rfl rfl Cb rfl (dL (bV ed hr.m rfl (ar (pv 0) (ar (aj) (ar (aj) (ar (aj) ax)))))) (fun cl C s2 H2 ex=>⟨jY 0 (show (["_law_drawn","_law_many","_law_cell"]:List Str).Nodup by decide +kernel),kK,bV jM hr.m rfl (Af (pv 0) (pv 1) (pv 2))⟩)))))))),?_⟩
  refine⟨_,rfl,a,ns,1,rfl,hS,by decide,?_⟩;generalize hcn:gu ns 1=cn at k ⊢;refine⟨_,rfl,a,ns,0,rfl,hS,by decide,_,rfl,fun m ⟨m0,m1⟩=>?_⟩;refine⟨_,rfl,a,ns,0,rfl,hS,by decide,_,_,rfl,rfl,⟨by decide,by decide⟩,_,_,rfl,rfl,by show (0:Int)<16;decide,?_⟩;refine⟨_,rfl,m,rfl,by omega,by omega,fun l hl=>?_⟩
  refine gM (n:=m.toNat) (fun i σ H2=>∃ (v:Option V)(ds:List ay),σ=[v,some (.int (gu ns 0/11%16)),some (.int cn)]/\aF H H2/\bT H2 l ds/\(∀ d∈ds,∀ g∈names d,g∈bP 40 cn)/\ds.length<=i/\ds.filter pK=[])
   ⟨none,[],rfl,ao hl,⟨[],ag,.nil⟩,(fun d hd=>nomatch hd),Eh _,rfl⟩ ?_ ?_
  ·rintro i σ H2 hi ⟨v,ds,rfl,s2,⟨as,hl2,hp2⟩,hn,hlen,hex⟩
   have hal:=Er hp2
   have app:∀ t,H2 t=none->∃ (v:Option V)(ds:List ay),([some (.int (0+(i:Int))),some (.int (gu ns 0/11%16)),some (.int cn)]:St)=[v,some (.int (gu ns 0/11%16)),some (.int cn)]/\aF H (upd (upd H2 t (cx (.come (uN (0+(i:Int)) cn)))) l (.lst (as.map V.ref++[.ref t])))/\bT (upd (upd H2 t (cx (.come (uN (0+(i:Int)) cn)))) l (.lst (as.map V.ref++[.ref t]))) l ds/\(∀ d∈ds,∀ g∈names d,g∈bP 40 cn)/\ds.length<=i+1/\ds.filter pK=[]:=fun t ht=>by
    refine⟨_,ds++[.come (uN (0+(i:Int)) cn)],rfl,c8 (s2.trans (ao ht)) hl,oq hl2 hp2 ht _,fun d hd g hg=>?_,by rw[Ew];show ds.length+1<=i+1;omega,by rw[List.filter_append,hex];rfl⟩;rcases EB.mp hd with z | z
    ·exact hn d z g hg
    ·rw[El.mp z]at hg
     simp[names]at hg;rw[hg];exact uO ⟨by omega,by omega⟩
   refine BH ⟨_,rfl,_,_,rfl,rfl,_,rfl,uT (fun _=>bY ?_) (fun _=>⟨_,rfl,_,_,rfl,rfl,by show (0:Int)<2;decide,rfl,_,rfl,uT (fun _=>?_) (fun _=>?_)⟩)⟩
   ·refine⟨_,rfl,_,rfl,_,_,rfl,⟨by omega,by omega⟩,by show 2<=sizeLine;decide,fun t ht=>⟨_,by rw[ae (ak hl2 ht)];exact hl2,by rw[Eg];exact bn (by omega),?_⟩⟩
    exact app t ht
   ·refine⟨_,rfl,_,rfl,_,_,rfl,⟨by omega,by omega⟩,by show 2<=sizeLine;decide,fun t ht=>⟨_,by rw[ae (ak hl2 ht)];exact hl2,by rw[Eg];exact bn (by omega),?_⟩⟩
    exact app t ht
   ·exact⟨_,ds,rfl,s2,⟨as,hl2,hp2⟩,hn,by omega,hex⟩
  ·rintro σ H2 ⟨v,ds,rfl,s2,d2,hn,hlen,hex⟩
   refine⟨_,rfl,_,rfl,a,ns,2,48,12800,rfl,s2.seq hS,⟨by decide,by decide⟩,⟨by decide,by decide⟩,⟨by decide,by decide⟩,fun q H3 es hq s3 hq3 hes hel=>?_⟩;refine⟨q,rfl,⟨_,bz.of hq3⟩,fun l2 hl2=>?_⟩;have d3:=dQ (dQ d2 s3) (ao (o:=.lst []) hl2);have nq:q≠l2:=ak hq3 hl2
   refine cY (K:=K) (a:=q) (xs:=es.map V.int) (fun i σ H4=>∃ (v:Option V)(fs:List ay),σ=[v,some (.int m),some (.int cn)]/\aF H3 H4/\bT H4 l2 fs/\(∀ d∈fs,∀ g∈names d,g∈bP 40 cn)/\fs.length=i)
    ⟨none,[],rfl,ao hl2,⟨[],ag,.nil⟩,(fun d hd=>nomatch hd),rfl⟩ (fun i σ H4 _ ⟨_,_,_,s4,_⟩=>bz.of (s4 _ _ hq3)) ?_ ?_
   ·rintro i y σ H4 hi ⟨v,fs,rfl,s4,⟨as,hl4,hp4⟩,hn4,hlen4⟩
    obtain⟨dr,hdr,rfl⟩:=cO hi;have hil:i<es.length:=(List.getElem?_eq_some_iff.mp hdr).1;have hb:=hes dr (EN hdr);have hal:=Er hp4;refine nA ⟨_,rfl,_,rfl,_,rfl,dr,m,cn,rfl,⟨hb.1,by omega⟩,⟨m0,m1⟩,fun t d ht hnd=>⟨_,by rw[ae (ak hl4 ht)];exact hl4,by rw[Eg];exact bn (by omega),?_⟩⟩;refine⟨_,fs++[d],rfl,c8 (s4.trans (ao ht)) hl2,oq hl4 hp4 ht d,fun d' hd' g hg=>?_,by rw[Ew];show fs.length+1=i+1;omega⟩;rcases EB.mp hd' with z | z
    ·exact hn4 d' z g hg
    ·rw[El.mp z]at hg;exact hnd g hg
   ·rintro σ H4 ⟨v,fs,rfl,s4,⟨as4,hl4,hp4⟩,hn4,hlen4⟩
    rw[Eg]at hlen4;obtain⟨as2,hl2',hp2⟩:=dQ (dQ d2 s3) s4;have l1:=Er hp2;have l3:=Er hp4;refine⟨l,l2,_,_,rfl,rfl,hl2',hl4,by rw[Eg,Eg];exact Nat.le_of_lt (bn (by omega)),fun p hp=>?_⟩;have s24:=(s2.trans s3).trans s4;refine k p _ (ds++fs) (s24.free hp) (s24.trans (ao hp)) ⟨as2++as4,by rw[ag,EE],?_⟩ (fun d hd g hg=>?_) (by rw[Ew];omega) (by rw[List.filter_append,hex,List.nil_append];exact EI (Fz _ _) (by omega))
    ·exact be (Paired.mapP hp2 fun b y e=>(ao hp) _ _ e) (Paired.mapP hp4 fun b y e=>(ao hp) _ _ e)
    ·rcases EB.mp hd with z | z
     ·exact hn d z g hg
     ·exact hn4 d z g hg
theorem oV (F:eR K "_law_evening" "_law_evening" fW f fd)(iM:aK P w K mg base "_law_deeds" 4 ["_law_script"] (kQ K))(kZ:aK P w K mg base "_law_due" 2 ["_law_worn","_law_met","_law_deed_here"] wH)(iK:aK P w K mg base "_law_after" 2 ["_law_worn","_law_met","_law_deed_here"] nk) : aW P w K mg base dB 6 f fd ["_law_script"] (im K):=by
 refine F.ok da (fun vs H Q E h=>?_) (fun cdv A outer s H vs Q E hr h=>?_)
 ·obtain⟨a,ns,rfl,_⟩:=h
  rfl
 ·obtain⟨a,ns,rfl,hS,k⟩:=h
  have hu:=fJ hr;have nil0:(0:Nat)<=sizeLine:=EK _
  have three:(3:Nat)<=sizeLine:=by decide
  refine⟨_,ah (bW 1 da.nd fO) (
   ah (bW 2 da.nd tW) (
   ah (bW 3 da.nd (e9 ax)) (
   ah (d4 Fa rfl (dL (bV iM hr.m rfl (ki (pv 0)))) (jY 4 da.nd) (ai (br (aE dX (aI aG (bV kZ hr.m rfl (Af (pv 1) (pv 2) (pv 4))) (aj) (fun _ _=>rfl)) (aY) (aQ _)) (ah (bg (bV iK hr.m rfl (Af (pv 1) (pv 2) (pv 4)))) (
   ai (bg (jJ EV ES ET cF (pv 3) (ki (pv 4)))))) (aJ)))) (
   ai (aA (bx (Af (pv 1) (pv 2) (pv 3)))))))),?_⟩
  intro w hw;have sA:=ao (o:=.dK []) hw;have hw2:upd H w (.dK []) w=some (.dK (dk [])):=ag;generalize upd H w (.dK [])=H2 at hw2 sA ⊢;intro m hm;have sB:=ao (o:=.dT []) hm;have hm0:H m=none:=sA.free hm;have hm3:upd H2 m (.dT []) m=some (.dT (wu [])):=ag;have hw3:=sB _ _ hw2;generalize upd H2 m (.dT [])=H3 at hm3 hw3 sB ⊢;refine⟨nil0,fun ls hls=>?_⟩;have sC:=ao (o:=.lst []) hls;have s4:=(sA.trans sB).trans sC;have hs0:H ls=none:=(sA.trans sB).free hls;have M4:w8 H (upd H3 ls (.lst [])) w m ls ⟨[],[],[],[]⟩ []:=⟨sC _ _ hw3,sC _ _ hm3,⟨[],ag,.nil⟩,hw,hm0,hs0⟩;generalize upd H3 ls (.lst [])=H4 at M4 s4 ⊢;refine⟨_,rfl,a,ns,rfl,s4.seq hS,fun lq H6 ds hlq s6 dlq hds hdl hxl=>?_⟩;have M6:=M4.on s6;have S6:=s4.trans s6;generalize hcn:gu ns 1=cn at hds k;have L40:(bP 40 cn).length=40:=qm 40 cn;obtain⟨qs,hq6,hqp6⟩:=id dlq;have hql:=Er hqp6
  refine⟨lq,rfl,⟨_,bz.of hq6⟩,cY (K:=K) (a:=lq) (xs:=qs.map V.ref) (fun i σ HH=>∃ (es:List ay)(v4:Option V),σ=[some (.ref a),some (.ref w),some (.ref m),some (.ref ls),v4]/\aF H HH/\w8 H HH w m ls (bb es) (lx es)/\cz es/\es.Sublist (ds.take i) /\
    HH lq=some (.lst (qs.map V.ref))/\Paired (fun a x=>HH a=some (cx x)) qs ds/\lq≠ls)
   ⟨[],none,rfl,S6,M6,sL,List.nil_sublist _,hq6,hqp6,?_⟩ (fun i σ HH _ ⟨_,_,_,_,_,_,_,h,_⟩=>bz.of h) ?_ ?_⟩
  ·intro z;obtain⟨as,h,_⟩:=M4.hs;rw[z,h]at hlq;cases hlq
  ·rintro i y σ HH hi ⟨es,v4,rfl,S,M,dn,sub,hq,hqp,lqs⟩
   obtain⟨t,ht,rfl⟩:=cO hi;have hil:i<qs.length:=(List.getElem?_eq_some_iff.mp ht).1;obtain⟨d,hd,hT⟩:=bj hqp ht;have nmD:=hds d (EN hd);have smD:∀ g∈names d,g∈bP 40 cn/\cK g:=fun g hg=>⟨nmD g hg,f7 (nmD g hg)⟩
   have nmE:∀ e∈es,∀ g∈names e,g∈bP 40 cn/\cK g:=fun e he g hg=>by have:=hds e (List.mem_of_mem_take (sub.mem he)) g hg;exact⟨this,f7 this⟩
   have ev:=rM dn nmE es.length;rw[Fe]at ev;have esl:=sub.length_le;rw[E8]at esl;have ln:=vi ev.good ev.of;have lm:=ev.ml;have lf:=Fz pK es;refine⟨_,rfl,_,rfl,_,rfl,w,m,t,(bb es).worn,lx es,d,rfl,M.hw,M.hm,hT,fun r H1 hr1 s1 hrt=>?_⟩;rw[sP ev.al]at hrt;refine⟨r,_,_,_,rfl,rfl,dv.of hrt,dJ (j:=0) (Dq _),rfl,_,rfl,?_⟩;rw[xL];have M1:=M.on s1;have hT1:=s1 _ _ hT;have hq1:=s1 _ _ hq;have hqp1:Paired (fun a x=>H1 a=some (cx x)) qs ds:=Paired.mapP hqp fun b y e=>s1 _ _ e
   have sub1:(es++[d]).Sublist (ds.take (i+1)):=by rw[EU,hd,E9];exact sub.append (List.Sublist.refl _)
   have sub0:es.Sublist (ds.take (i+1)):=by rw[EU];exact sub.trans (List.sublist_append_left _ _)
   by_cases hj:aX (bb es) d=.done
   ·rw[EC hj]
    obtain⟨as,hl,hp⟩:=id M1.hs;have hal:=Er hp;rw[j8]at hal;refine bY ⟨_,rfl,_,rfl,_,rfl,w,m,t,(bb es).worn,lx es,d,rfl,M1.hw,M1.hm,hT1,by omega,by omega,(sP ev.al d).trans hj,fun H3 h1 h2 k3=>?_⟩;obtain⟨M4,hl1⟩:=M1.done hj h1 h2 k3 hl hp hT1;rw[oR hj,oQ hj]at M4;refine⟨_,rfl,.inl ⟨rfl,_,bz.of hl1⟩,_,rfl,ls,_,_,rfl,rfl,hl1,by rw[Eg];exact bn (by omega),?_⟩
    have kp:∀ b o,H1 b=some o->b≠w->b≠m->b≠ls->(upd H3 ls (.lst (as.map V.ref++[.ref t]))) b=some o:=fun b o e n1 n2 n3=>by rw[ae n3];exact k3 b o e n1 n2
    refine⟨_,_,rfl,fun b o e=>kp b o (s1 _ _ (S b o e)) (ak e M.w0) (ak e M.m0) (ak e M.s0),M4,qU dn hj,sub1,kp lq _ hq1 (cQ hq1 M1.hw (by intro z;cases z)) (cQ hq1 M1.hm (by intro z;cases z)) lqs,Paired.mapP hqp1 fun b y e=>?_,lqs⟩;obtain⟨xs,ex⟩:=cD y;rw[ex]at e ⊢;exact kp b _ e (cQ e M1.hw (by intro z;cases z)) (cQ e M1.hm (by intro z;cases z)) (cQ e hl (by intro z;cases z))
   ·rw[EA hj]
    exact aV ⟨_,_,rfl,S.trans s1,M1,dn,sub0,hq1,hqp1,lqs⟩
  ·rintro σ HH ⟨es,v4,rfl,S,M,dn,sub,hq,hqp,lqs⟩
   have sub2:=sub.trans (List.take_sublist _ _);refine⟨_,rfl,_,rfl,_,rfl,three,fun t ht=>k t w m ls _ es (S.trans (ao ht)) ag (M.on (ao ht)) dn (fun e he g hg=>hds e (sub2.mem he) g hg) (EI sub2.length_le hdl) (EI (sub2.filter pK).length_le hxl)⟩
theorem xK (F:eR K "_law_do" "_law_do" lN f fd)(bL:av P w K mg base (eY P w) c.C "come" 2 ["self","guest"] (j6 c))(cE:av P w K mg base (eY P w) c.C "go" 4 ["self","guest"] (vE c))(a7:av P w K mg base (eY P w) c.C "exchange" 4 ["self","one","other"] (j7 c)) : aW P w K mg base (eY P w) 5 f fd ["_law_hall","_law_deed_here"] (r0 c):=by
 refine F.okX xU (fun vs H Q E h=>?_) (fun cdv A outer s H vs Q E hr h=>?_)
 ·obtain⟨p,t,B,st,d,rfl,_⟩:=h
  rfl
 ·obtain⟨p,t,B,st,d,rfl,ht0,S,ft,hg,sm,k⟩:=h
  have ht:H t=some (.tup (b9 d)):=by rw[<-jo];exact ht0
  have T0:dv K H t (b9 d):=dv.of ht
  refine⟨_,ah (br (aE dX (aI aG (pv 1) (aj) (fun _ _=>rfl)) (aY) (aQ _)) (ai (aA (dE bL (pv 0) U.cl hr.m di (ki (aI aG (pv 1) (aj) (fun _ _=>rfl)))))) (aJ)) (
   ah (br (aE dX (aI aG (pv 1) (aj) (fun _ _=>rfl)) (aY) (aQ _)) (ai (aA (dE cE (pv 0) U.cl hr.m di (ki (aI aG (pv 1) (aj) (fun _ _=>rfl)))))) (aJ)) (
   ai (aA (dE a7 (pv 0) U.cl hr.m di (ie (aI aG (pv 1) (aj) (fun _ _=>rfl)) (aI aG (pv 1) (aj) (fun _ _=>rfl))))))),?_⟩
  have n1:=kz B (m:="come") (by decide +kernel) (by decide +kernel) (by decide +kernel) (by decide +kernel);have n2:=kz B (m:="go") (by decide +kernel) (by decide +kernel) (by decide +kernel) (by decide +kernel);have n3:=kz B (m:="exchange") (by decide +kernel) (by decide +kernel) (by decide +kernel) (by decide +kernel)
  cases d with
  | come g =>
   refine⟨_,rfl,t,_,_,_,rfl,rfl,T0,rfl,rfl,_,rfl,?_⟩;rw[show decide (V.str (dq (.come g))=V.str "come")=true from cc];exact bY ⟨_,rfl,p,B.dx,_,rfl,S.ob,n1,_,rfl,t,_,_,_,rfl,rfl,T0,rfl,p,B,st,g,rfl,S,ft,sm g (by simp[names]),k⟩
  | go g =>
   refine⟨_,rfl,t,_,_,_,rfl,rfl,T0,rfl,rfl,_,rfl,?_⟩;rw[show decide (V.str (dq (.go g))=V.str "come")=false from gc];refine aV ⟨_,rfl,t,_,_,_,rfl,rfl,T0,rfl,rfl,_,rfl,?_⟩;rw[show decide (V.str (dq (.go g))=V.str "go")=true from gg];exact bY ⟨_,rfl,p,B.dx,_,rfl,S.ob,n2,_,rfl,t,_,_,_,rfl,rfl,T0,rfl,p,B,st,g,rfl,S,ft,sm g (by simp[names]),(fun m hm=>⟨hg.sm g m hm,fun e=>by rw[e]at hm;rw[(hg.wh g g).mp hm];rfl⟩),k⟩
  | exch a b =>
   refine⟨_,rfl,t,_,_,_,rfl,rfl,T0,rfl,rfl,_,rfl,?_⟩;rw[show decide (V.str (dq (.exch a b))=V.str "come")=false from ec];refine aV ⟨_,rfl,t,_,_,_,rfl,rfl,T0,rfl,rfl,_,rfl,?_⟩;rw[show decide (V.str (dq (.exch a b))=V.str "go")=false from eg];exact aV ⟨_,rfl,p,B.dx,_,rfl,S.ob,n3,_,rfl,t,_,_,_,rfl,rfl,T0,rfl,_,rfl,t,_,_,_,rfl,rfl,T0,rfl,p,B,st,a,b,rfl,S,ft,sm a (by simp[names]),sm b (by simp[names]),k⟩
theorem oW (F:eR K "_law_hall_of" "_law_hall_of" fX f fd)(MH:BQ P w K mg base c)(nJ:dI P w K mg base "_law_do" 5 ["_law_hall","_law_deed_here"] (r0 c)) : aW P w K mg base dB 7 f fd ["_law_story"] (kT c):=by
 refine F.ok fR (fun vs H Q E h=>?_) (fun cdv A outer s H vs Q E hr h=>?_)
 ·obtain⟨l,ds,L,rfl,_⟩:=h
  rfl
 ·obtain⟨l,ds,L,rfl,dl,hdn,hdl,hL,hnm,k⟩:=h
  have hu:=fJ hr
  refine⟨_,ah (bW 1 fR.nd (AB MH U hr.m rfl)) (
   ah (d4 Fa rfl (dL (pv 0)) (jY 2 fR.nd) (ai (bg (rO nJ hr.m rfl qv (ie (pv 1) (pv 2)))))) (
   ai (aA (pv 1)))),?_⟩
  intro x dx nx ndx nex;refine⟨x,dx,rfl,ag,fun B H1 S1 kp fr=>⟨rfl,?_⟩⟩
  have s0:aF H (upd (upd H dx (.own x)) x (.ins c.C dx [])):=fun b o e=>by rw[ae (ak e nx),ae (ak e ndx)];exact e
  have E1:Ev c H H1 x B ⟨[],[],[],[]⟩:=⟨fun b o e=>kp b o (s0 b o e) (ak e nx),S1,jR,fun b hb=>s0.free (fr b hb)⟩;obtain⟨qs,hq,hqp⟩:=id dl
  refine⟨_,rfl,l,rfl,⟨_,bz.of (E1.same _ _ hq)⟩,cY (K:=K) (a:=l) (xs:=qs.map V.ref) (fun i σ HH=>∃ (B:HA)(v:Option V),σ=[some (.ref l),some (.ref x),v]/\Ev c H HH x B (bb (ds.take i))/\Of L (bb (ds.take i))/\Sz i (bb (ds.take i)))
   ⟨B,none,rfl,E1,of_empty,CC⟩ (fun i σ HH _ ⟨_,_,_,E,_⟩=>bz.of (E.same _ _ hq)) ?_ ?_⟩
  ·rintro i y σ HH hi ⟨B,v,rfl,E,o,z⟩
   obtain⟨t,ht,rfl⟩:=cO hi;obtain⟨d,hd,hT0⟩:=bj hqp ht;have hT:=E.same _ _ hT0;have hj:=hdn i d hd;have hil:=(List.getElem?_eq_some_iff.mp hd).1;have ft:=v8 E.good o hL z (by omega);have nm:=hnm d (EN hd);refine⟨_,rfl,_,rfl,x,t,B,_,d,rfl,hT,E.hall,ft,E.good,fun g hg=>(nm g hg).2,?_⟩;unfold pJ;rw[Ee hj];intro H2 mv
   have en:bI (bb (ds.take i)) d=bb (ds.take (i+1)):=by unfold bI;rw[Ee hj,EU,hd,E9,jv]
   have g2:=lj E.good (d:=d) (fun g hg=>(nm g hg).2);have o2:=rA E.good o (fun g hg=>(nm g hg).1);have z2:=sj z d
   have mv2:p7 c.C HH x B (bI (bb (ds.take i)) d) H2:=by unfold bI;rw[Ee hj];exact mv
   obtain⟨B',E2,_⟩:=E.moved mv2 g2;rw[en]at E2 o2 z2;exact⟨B',_,rfl,E2,o2,z2⟩
  ·rintro σ HH ⟨B,v,rfl,E,o,z⟩
   have el:=Er hqp;rw[Eg,el,Fe]at E;exact⟨_,rfl,k x B HH nx E⟩
theorem tR (F:eR K "_law_pair" "_law_pair" ja f fd)(fY:aK P w K mg base "_law_whole" 1 ["_law_found"] nz) : aW P w K mg base dB 2 f fd ["_law_found"] ny:=by
 refine F.ok uc (fun vs H Q E h=>?_) (fun cdv A outer s H vs Q E hr h=>?_)
 ·obtain⟨a,p,rfl,_⟩:=h
  rfl
 ·obtain⟨a,p,rfl,hp,k⟩:=h
  refine⟨_,ah (br (o9 (jZ (i6 (bQ ko (by rfl) T.isinstance FN (ar (pv 0) (ar (nj (v:=.ty "tuple") (by rfl) T.tuple PyProof.Rows.boot_tuple rfl) ax))))) (pb (aE qu (bQ cB (by rfl) T.len F2 (ar (pv 0) ax)) aj (aQ _)))).pt (ai (aA iZ)) aJ)
   (ai (aA (yN (bV fY hr rfl (ar (aI aG (pv 0) aj (fun _ _=>rfl)) ax)) (yV (bV fY hr rfl (ar (aI aG (pv 0) aj (fun _ _=>rfl)) ax)))))),?_⟩
  refine⟨_,rfl,_,_,_,true,rfl,iQ.tup hp,rfl,_,rfl,aV ?_⟩;refine⟨_,rfl,a,_,rfl,.inr (dv.of hp),rfl,_,rfl,aV ?_⟩;refine⟨_,rfl,a,_,_,_,rfl,rfl,dv.of hp,rfl,_,rfl,_,rfl,bY ?_⟩;exact⟨_,rfl,a,_,_,_,rfl,rfl,dv.of hp,rfl,_,rfl,k⟩
theorem vm (F:eR K "_law_row" "_law_row" iA f fd)(jN:aK P w K mg base "_law_pair" 2 ["_law_found"] ny) : aW P w K mg base dB 3 f fd ["_law_found"] se:=by
 refine F.ok vC (fun vs H Q E h=>?_) (fun cdv A outer s H vs Q E hr h=>?_)
 ·obtain⟨l,ps,rfl,_⟩:=h
  rfl
 ·obtain⟨l,ps,rfl,⟨as,hl,hp⟩,hlen,k⟩:=h
  refine⟨_,ah (br (jZ (i6 (bQ ko (by rfl) T.isinstance FN (ar (pv 0) (ar (nj (v:=.ty "list") (by rfl) T.list PyProof.Rows.boot_list rfl) ax))))) (ai (aA iZ)) aJ)
   (ai (aA (bQ (qd rfl) (by rfl) T.all PyProof.Rows.boot_all (ar (kH (so:=au iA) (N:=qq) (N':=["_law_pair_here"]) (src:=[none]) rfl rfl ⟨rfl,by decide +kernel,by decide +kernel,by decide +kernel,by decide +kernel,rfl,by decide +kernel⟩ rfl (dL (pv 0))
    (fun cl C s2 H2 ex=>⟨js (i:=0) (show (["_law_pair_here"]:List Str).Nodup by decide +kernel) rfl (Or.inl rfl),kK,bV jN hr rfl (ar (pv 0) ax)⟩)) ax)))),?_⟩
  refine⟨_,rfl,_,_,_,true,rfl,iQ.lst hl,rfl,_,rfl,aV ?_⟩;refine⟨_,rfl,l,rfl,⟨_,bz.of hl⟩,fun q hq=>?_⟩;have hlq:l≠q:=ak hl hq
  refine cY (K:=K) (a:=l) (xs:=as.map V.ref) (fun i σ H2=>∃ (v:Option V),σ=[v]/\aF H H2/\H2 q=some (.lst ((List.replicate i true).map V.bl)))
   ⟨none,rfl,ao hq,ag⟩ (fun i σ H2 _ ⟨_,_,s2,_⟩=>bz.of (s2 _ _ hl)) ?_ ?_
  ·rintro i y σ H2 hi ⟨v,rfl,s2,hq2⟩
   have hil:i<as.length:=by have:=(List.getElem?_eq_some_iff.mp hi).1;simpa using this
   obtain⟨a,ha,rfl⟩:=cO hi;obtain⟨p,_,hpa⟩:=bj hp ha;have hpl:=Er hp;refine nA ⟨_,rfl,a,p,rfl,s2 _ _ hpa,_,hq2,by rw[Eg,List.length_replicate];exact bn (by omega),?_⟩;exact⟨_,rfl,c8 s2 hq,by rw[ag,List.replicate_succ',EE];rfl⟩
  ·rintro σ H2 ⟨v,rfl,s2,hq2⟩
   refine⟨q,List.replicate as.length true,rfl,bz.of (by rw[hq2,Eg]),?_⟩;rw[show (List.replicate as.length true).all id=true by simp];exact k H2 s2
theorem lF (F:eR K "_law_stretches" "_law_stretches" eK f fd) : aW P w K mg base dB 1 f fd ["_law_walk","_law_last"] wK:=by
 refine F.ok bC (fun vs H Q E h=>?_) (fun cdv A outer s H vs Q E hr h=>?_)
 ·obtain⟨l,W,n,rfl,_⟩:=h
  rfl
 ·obtain⟨l,W,n,rfl,row,hl,k⟩:=h
  have three:(3:Nat)<=sizeLine:=by decide
  have nil0:(0:Nat)<=sizeLine:=EK _
  refine⟨_,ah (bW 2 bC.nd (e9 ax)) (
   ah (d4 Fa rfl (Ai (by rfl) T.enumerate (ki (pv 0))) (jX rfl (aZ (jY 3 bC.nd) (aZ (jX rfl (aZ (jY 4 bC.nd) (aZ (jY 5 bC.nd) gd))) gd))) (ah (bW 6 bC.nd (pv 1)) (
   ah (br (aE qt (aM e8 (pv 3) (aj)) (bQ cB (by rfl) T.len F2 (ki (pv 0))) (aQ _)) (ai (bW 6 bC.nd (aM lG (aI aG (aI dh (pv 0) (aM e8 (pv 3) (aj)) (fun _ _=>rfl)) (aj) (fun _ _=>rfl)) (aj)))) (aJ)) (
   ai (bg (jJ EV ES ET cF (pv 2) (ki (bx (Af (pv 4) (pv 6) (pv 5)))))))))) (
   ai (aA (pv 2)))),?_⟩
  obtain⟨as,hla,hp⟩:=id row;have al:=Er hp;refine⟨nil0,fun lf hlf=>?_⟩;have s1:=ao (o:=.lst []) hlf;have h1:upd H lf (.lst []) lf=some (.lst []):=ag
  have zB:lf≠l:=fun z=>by rw[z,hla]at hlf;cases hlf
  have lfn:=hlf;generalize upd H lf (.lst [])=H1 at s1 h1 ⊢
  refine⟨_,rfl,l,rfl,⟨_,bz.of (s1 _ _ hla)⟩,yp (K:=K) (a:=l) (xs:=as.map V.ref) (fun i σ HH=>∃ (v3 v4 v5 v6:Option V),σ=[some (.ref l),some (.int n),some (.ref lf),v3,v4,v5,v6]/\aF H HH/\w9 HH lf ((pW W n).take i))
   ⟨none,none,none,none,rfl,s1,⟨[],h1,.nil⟩⟩ (fun i σ HH _ ⟨_,_,_,_,_,s,_⟩=>bz.of (s _ _ hla)) ?_ ?_⟩
  ·rintro i y σ HH T hi ⟨v3,v4,v5,v6,rfl,sH,tf⟩ hTn
   obtain⟨b,hb,rfl⟩:=cO hi;obtain⟨p,hp0,hB⟩:=bj hp hb;have hil:=(List.getElem?_eq_some_iff.mp hp0).1;have sT:=ao (o:=.tup [.int (i:Int),.ref b]) hTn;have hTT:upd HH T (.tup [.int (i:Int),.ref b]) T=some (.tup [.int (i:Int),.ref b]):=ag;have sH:=sH.trans sT;have tf:=tf.mono sT;generalize upd HH T (.tup [.int (i:Int),.ref b])=HH at hTT sH tf ⊢;refine⟨T,_,rfl,dv.of hTT,rfl,_,_,rfl,_,_,rfl,b,_,rfl,dv.of (sH _ _ hB),rfl,_,_,rfl,_,_,rfl,rfl,rfl,?_⟩;refine⟨_,rfl,_,rfl,_,_,rfl,rfl,_,rfl,l,_,rfl,.inl (bz.of (sH _ _ hla)),_,_,rfl,rfl,_,rfl,?_⟩;rw[Eg,al]
   apply Bs (fun σ HX=>σ=[some (.ref l),some (.int n),some (.ref lf),some (.int (i:Int)),some (.int p.1),some (.int p.2),some (.int (jf W n i))]/\HX=HH)
   ·intro rest
    by_cases hk:i+1<W.length
    ·rw[EC (show (i:Int)+1<(W.length:Int) by omega)]
     obtain⟨q,hq⟩:∃ q,W[i+1]? = some q:=⟨_,List.getElem?_eq_getElem hk⟩;obtain⟨b2,hb2,hB2⟩:=dR hp hq;have ei:((i:Int)+1)=((i+1:Nat):Int):=rfl;refine bY ⟨_,rfl,_,rfl,_,_,rfl,rfl,l,_,_,_,rfl,rfl,bz.of (sH _ _ hla),by rw[ei];exact dJ (by rw[List.getElem?_map,hb2];rfl),b2,_,_,_,rfl,rfl,dv.of (sH _ _ hB2),dJ (j:=0) rfl,_,_,rfl,rfl,?_⟩;refine Ce (rest _ _ ⟨?_,rfl⟩);unfold jf;rw[hq];rfl
    ·rw[EA (show ¬ (i:Int)+1<(W.length:Int) by omega)]
     refine aV (rest _ _ ⟨?_,rfl⟩);unfold jf;rw[List.getElem?_eq_none (by omega)];rfl
   rintro σ HX ⟨rfl,rfl⟩;obtain⟨fs,hf,pf⟩:=id tf;have fl:=Er pf;rw[E8,je]at fl;refine⟨_,rfl,.inl ⟨rfl,_,bz.of hf⟩,_,rfl,_,rfl,_,rfl,three,fun t ht=>?_⟩;have s3:=ao (o:=.tup [.int p.1,.int (jf W n i),.int p.2]) ht;have hf3:=s3 _ _ hf;have ht3:upd HX t (.tup [.int p.1,.int (jf W n i),.int p.2]) t=some (.tup (CO (p.1,jf W n i,p.2))):=ag;generalize upd HX t (.tup [.int p.1,.int (jf W n i),.int p.2])=H3 at s3 hf3 ht3 ⊢;refine⟨lf,_,_,rfl,rfl,hf3,by rw[Eg];exact bn (by omega),?_⟩
   have tlf:t≠lf:=fun z=>by rw[z,hf3]at ht3;cases ht3
   refine⟨_,_,_,_,rfl,c8 (sH.trans s3) lfn,fs++[t],by rw[ag,EE];rfl,?_⟩;rw[EU,ui W n i p hp0,E9];refine be (Wz.Paired.mapP' pf fun c z hc e=>?_) (.cons (by rw[ae tlf];exact ht3) .nil);rw[ae (fun q=>by rw[q,hf]at e;cases e)];exact s3 _ _ e
  ·rintro σ HH ⟨v3,v4,v5,v6,rfl,sH,tf⟩
   rw[Eg,al,FQ (by rw[je];exact Eh _)]at tf;exact⟨_,rfl,k lf HH lfn sH tf⟩
theorem tS (F:eR K "_law_seen" "_law_seen" jb f fd) : aW P w K mg base dB 1 f fd ["_law_stretches_here","_law_came"] sh:=by
 refine F.ok dS (fun vs H Q E h=>?_) (fun cdv A outer s H vs Q E hr h=>?_)
 ·obtain⟨l,d,qs,C,rfl,_⟩:=h
  rfl
 ·obtain⟨l,d,qs,C,rfl,row,hd,hl,nd,k⟩:=h
  have hu:=fJ hr
  have four:(4:Nat)<=sizeLine:=by decide
  have nil0:(0:Nat)<=sizeLine:=EK _
  refine⟨_,ah (bW 2 dS.nd (e9 ax)) (
   ah (d4 Fa rfl (dL (pv 0)) (jX rfl (aZ (jY 3 dS.nd) (aZ (jY 4 dS.nd) (aZ (jY 5 dS.nd) (aZ (jY 6 dS.nd) gd))))) (ai (br (PW.pt (gB (ij (iY hu (pv 5) (pv 1))) (gB (ij (iY hu (pv 6) (pv 1))) (gB (aE yK (pv 3) (ig hu (pv 1) (pv 5) (fun _ _=>rfl)) (aQ _)) (gf (aE yK (pv 3) (ig hu (pv 1) (pv 6) (fun _ _=>rfl)) (aQ _))))))) (ai (bg (jJ EV ES ET cF (pv 2) (ki (bx (ar (pv 3) (ar (pv 4) (ar (pv 5) (ar (pv 6) ax))))))))) (aJ)))) (
   ai (aA (bQ qS (by rfl) T.sorted PyProof.Rows.boot_sorted (ki (pv 2)))))),?_⟩
  obtain⟨as,hla,hp⟩:=id row;have al:=Er hp;refine⟨nil0,fun lf hlf=>?_⟩;have s1:=ao (o:=.lst []) hlf;have h1:upd H lf (.lst []) lf=some (.lst []):=ag;have lfn:=hlf;generalize upd H lf (.lst [])=H1 at s1 h1 ⊢
  refine⟨_,rfl,l,rfl,⟨_,bz.of (s1 _ _ hla)⟩,cY (K:=K) (a:=l) (xs:=as.map V.ref) (fun i σ HH=>∃ (v3 v4 v5 v6:Option V),σ=[some (.ref l),some (.ref d),some (.ref lf),v3,v4,v5,v6]/\aF H HH/\fE HH lf ((qs.take i).filter (cU C)))
   ⟨none,none,none,none,rfl,s1,⟨[],h1,.nil⟩⟩ (fun i σ HH _ ⟨_,_,_,_,_,s,_⟩=>bz.of (s _ _ hla)) ?_ ?_⟩
  ·rintro i y σ HH hi ⟨v3,v4,v5,v6,rfl,sH,tf⟩
   obtain⟨b,hb,rfl⟩:=cO hi;obtain⟨p,hp0,hB⟩:=bj hp hb;have hil:=(List.getElem?_eq_some_iff.mp hp0).1
   have ex:(qs.take (i+1)).filter (cU C)=(qs.take i).filter (cU C)++[p].filter (cU C):=by rw[EU,hp0,E9,List.filter_append]
   refine⟨b,_,rfl,dv.of (sH _ _ hB),rfl,_,_,rfl,_,_,rfl,_,_,rfl,_,_,rfl,rfl,?_⟩
   have gC:∀ x:Int,cI HH d (.int x) ((look C x).map V.int):=fun x=>by have:=cI.k (k:=Sum.inl x) (sH _ _ hd);rw[dM]at this;exact this
   have g1:=gC p.2.2.1;have g2:=gC p.2.2.2
   have no:cU C p=false->fE HH lf ((qs.take (i+1)).filter (cU C)):=fun e=>by
    rw[ex,show [p].filter (cU C)=[] by simp[e],List.append_nil];exact tf
   refine⟨_,rfl,_,rfl,d,_,rfl,g1,_,rfl,?_⟩
   cases e1:look C p.2.2.1 with
   | none=>exact aV (aV ⟨_,_,_,_,rfl,sH,no (by unfold cU;rw[e1];rfl)⟩)
   | some c1 =>
    rw[e1]at g1;refine bY ⟨_,rfl,_,rfl,d,_,rfl,g2,_,rfl,?_⟩
    cases e2:look C p.2.2.2 with
    | none=>exact aV (aV ⟨_,_,_,_,rfl,sH,no (by unfold cU;rw[e1,e2];rfl)⟩)
    | some c2 =>
     rw[e2]at g2;refine bY ⟨_,rfl,_,rfl,_,rfl,d,_,rfl,g1,_,_,rfl,rfl,_,rfl,?_⟩
     have es:cU C p=(decide (c1<=p.1)&&decide (c2<=p.1)):=by unfold cU;rw[e1,e2];rfl
     by_cases h1:c1<=p.1
     ·rw[EC h1]
      refine bY ⟨_,rfl,_,rfl,_,rfl,d,_,rfl,g2,_,_,rfl,rfl,_,rfl,?_⟩
      by_cases h2:c2<=p.1
      ·rw[EC h2]
       have yes:cU C p=true:=by rw[es,EC h1,EC h2];rfl
       obtain⟨fs,hf,pf⟩:=id tf;have fl:=Er pf;have fle:((qs.take i).filter (cU C)).length<=qs.length:=EI (Fz _ _) (by rw[E8];omega);refine bY ⟨_,rfl,.inl ⟨rfl,_,bz.of hf⟩,_,rfl,_,rfl,_,rfl,_,rfl,four,fun t ht=>?_⟩;have s3:=ao (o:=.tup [.int p.1,.int p.2.1,.int p.2.2.1,.int p.2.2.2]) ht;have hf3:=s3 _ _ hf;have ht3:upd HH t (.tup [.int p.1,.int p.2.1,.int p.2.2.1,.int p.2.2.2]) t=some (.tup (kL p)):=ag;generalize upd HH t (.tup [.int p.1,.int p.2.1,.int p.2.2.1,.int p.2.2.2])=H3 at s3 hf3 ht3 ⊢;refine⟨lf,_,_,rfl,rfl,hf3,by rw[Eg];have:=FD;omega,?_⟩
       have tlf:t≠lf:=fun z=>by rw[z,hf3]at ht3;cases ht3
       refine⟨_,_,_,_,rfl,c8 (sH.trans s3) lfn,fs++[t],by rw[ag,EE];rfl,?_⟩;rw[ex,show [p].filter (cU C)=[p] by simp[yes]];refine be (Wz.Paired.mapP' pf fun c z hc e=>?_) (.cons (by rw[ae tlf];exact ht3) .nil);rw[ae (fun q=>by rw[q,hf]at e;cases e)];exact s3 _ _ e
      ·rw[EA h2]
       exact aV ⟨_,_,_,_,rfl,sH,no (by rw[es,EA h2,Bool.and_false])⟩
     ·rw[EA h1]
      exact aV (aV ⟨_,_,_,_,rfl,sH,no (by rw[es,EA h1,Bool.false_and])⟩)
  ·rintro σ HH ⟨v3,v4,v5,v6,rfl,sH,tf⟩
   rw[Eg,al,Fe]at tf;refine⟨_,rfl,lf,_,rfl,tf,nd,EI (Fz _ _) (by omega),fun r rs H' hr s' q' pr pw=>k r rs H' (sH.free hr) (sH.trans s') q' pr pw⟩
theorem jz (F:eR K "_law_by_the_story" "_law_by_the_story" dy f fd) : aW P w K mg base dB 2 f fd ["_law_walk","_law_mask","_law_story"] rY:=by
 refine F.ok bJ (fun vs H Q E h=>?_) (fun cdv A outer s H vs Q E hr h=>?_)
 ·obtain⟨l,ls,W,m,es,rfl,_⟩:=h
  rfl
 ·obtain⟨l,ls,W,m,es,rfl,row,dls,hl,B,k⟩:=h
  have hu:=fJ hr
  have three:(3:Nat)<=sizeLine:=by decide
  have two:(2:Nat)<=sizeLine:=by decide
  have nil0:(0:Nat)<=sizeLine:=EK _
  refine⟨_,ah (br (PW.pt (o9 (aE (vo 1 (zA hr (by decide))) (pv 0) (e9 ax) (aQ _)) (o9 (aE qu (aI aG (aI dh (pv 0) (aj) (fun _ _=>rfl)) (aj) (fun _ _=>rfl)) (pv 1) (aQ _)) (pb (aE (rK 1 (zA hr (by decide))) (aI dh (pv 2) (aM lG (aI aG (aI dh (pv 0) (aj) (fun _ _=>rfl)) (aj) (fun _ _=>rfl)) (aj)) (fun _ _=>rfl)) (bx (ie (aY) (pv 1))) (aQ _)))))) (ai (aA (iZ))) (aJ)) (
   ah (d4 Fa rfl (qw (by rfl) T.range (ie (aj) (bQ cB (by rfl) T.len F2 (ki (pv 0))))) (jY 3 bJ.nd) (ah (br (jZ (y0 qt Ct (aI aG (aI dh (pv 0) (aM lG (pv 3) (aj)) (fun _ _=>rfl)) (aj) (fun _ _=>rfl)) (aI aG (aI dh (pv 0) (pv 3) (fun _ _=>rfl)) (aj) (fun _ _=>rfl)) (bQ cB (by rfl) T.len F2 (ki (pv 2))))) (ai (aA (iZ))) (aJ)) (
   ah (bW 4 bJ.nd (aI dh (pv 2) (aM lG (aI aG (aI dh (pv 0) (pv 3) (fun _ _=>rfl)) (aj) (fun _ _=>rfl)) (aj)) (fun _ _=>rfl))) (
   ah (bW 5 bJ.nd (aI aG (aI dh (pv 0) (aM lG (pv 3) (aj)) (fun _ _=>rfl)) (aj) (fun _ _=>rfl))) (
   ah (bW 6 bJ.nd (aI aG (aI dh (pv 0) (pv 3) (fun _ _=>rfl)) (aj) (fun _ _=>rfl))) (
   ai (br (PW.pt (gB (aE (rK 1 (zA hr (by decide))) (pv 4) (bx (Af (aY) (pv 5) (pv 6))) (aQ _)) (gf (aE (rK 1 (zA hr (by decide))) (pv 4) (bx (Af (aY) (pv 6) (pv 5))) (aQ _))))) (ai (aA (iZ))) (aJ)))))))) (
   ai (aA (iZ)))),?_⟩
  obtain⟨as,hla,hp⟩:=id row;have al:=Er hp;obtain⟨qs,hq,hqp⟩:=id dls;have ql:=Er hqp;obtain⟨c0,hW0,hc0⟩:=B.hd;have at0:∀ {u:V}{us:List V},vP (u::us) 0=some u:=dJ (j:=0) rfl;have at1:∀ {u v:V}{us:List V},vP (u::v::us) 1=some v:=dJ (j:=1) rfl
  have atW:∀ {j:Nat}{p:Int×Int},W[j]? = some p->∃ b,vP (as.map V.ref) (j:Int)=some (.ref b)/\H b=some (.tup [.int p.1,.int p.2]):=fun {j p} h=>by
   obtain⟨b,hb,hB⟩:=dR hp h;exact⟨b,dJ (by rw[List.getElem?_map,hb];rfl),hB⟩
  have atS:∀ {j:Nat}{d:ay},es[j]? = some d->∃ b,vP (qs.map V.ref) (j:Int)=some (.ref b)/\H b=some (.tup (b9 d)):=fun {j d} h=>by
   obtain⟨b,hb,hB⟩:=dR hqp h;exact⟨b,dJ (by rw[List.getElem?_map,hb];rfl),by rw[<-jo];exact hB⟩
  refine⟨_,rfl,nil0,fun t0 ht0=>?_⟩;have s1:=ao (o:=.lst []) ht0;have h0:upd H t0 (.lst []) t0=some (.lst []):=ag;generalize upd H t0 (.lst [])=H1 at s1 h0 ⊢;refine⟨l,t0,_,_,rfl,rfl,vt (row.mono s1),Ao (ns:=[]) (bz.of h0),fun b hb=>⟨_,rfl,?_⟩⟩
  have bf:b=false:=by
   cases b with
   | false=>rfl
   | true =>
    have z:=hb.mp rfl
    cases W with
    | nil=>cases hW0
    | cons p r=>cases z
  rw[bf];obtain⟨b0,ab0,hb0⟩:=atW hW0;refine aV ⟨_,rfl,l,_,_,_,rfl,rfl,bz.of (s1 _ _ hla),ab0,b0,_,_,_,rfl,rfl,dv.of (s1 _ _ hb0),at1,_,rfl,rfl,_,rfl,?_⟩;rw[EC rfl];obtain⟨d0,ad0,hd0⟩:=atS hc0;refine aV ⟨_,rfl,_,rfl,l,_,_,_,rfl,rfl,bz.of (s1 _ _ hla),ab0,b0,_,_,_,rfl,rfl,dv.of (s1 _ _ hb0),at0,_,_,rfl,rfl,ls,_,_,_,rfl,rfl,bz.of (s1 _ _ hq),by rw[show ((c0:Int)+1-1)=(c0:Int) by omega];exact ad0,_,rfl,two,fun t9 ht9=>?_⟩;have s2:=ao (o:=.tup [.str "come",.int m]) ht9;have ht95:upd H1 t9 (.tup [.str "come",.int m]) t9=some (.tup [.str "come",.int m]):=ag;have s02:=s1.trans s2;generalize upd H1 t9 (.tup [.str "come",.int m])=H2 at s2 ht95 s02 ⊢
  have fl9:∀ z∈[V.str "come",V.int m],gL z=true:=fun z hz=>by
   rcases En.mp hz with e | e
   ·rw[e];rfl
   ·rw[El.mp e];rfl
  refine⟨d0,t9,_,_,rfl,rfl,eX (s02 _ _ hd0) (jp _),eX ht95 fl9,fun b hb=>⟨_,rfl,?_⟩⟩;rw[show (if true=true then !b else b)=false by rw[hb.mpr (kW.mpr rfl)];rfl];refine aV ⟨_,rfl,l,_,rfl,.inl (bz.of (s02 _ _ hla)),?_⟩
  have lW:((as.map V.ref).length:Int)=(W.length:Int):=by rw[Eg,al]
  have lS:((qs.map V.ref).length:Int)=(es.length:Int):=by rw[Eg,ql]
  refine⟨_,_,rfl,⟨by decide,by decide,by rw[lW];omega,by rw[lW];omega⟩,gM (fun i σ HH=>∃ (v3 v4 v5 v6:Option V),σ=[some (.ref l),some (.int m),some (.ref ls),v3,v4,v5,v6]/\aF H HH)
   ⟨none,none,none,none,rfl,s02⟩ ?_ ?_⟩
  ·rintro i σ HH hi ⟨v3,v4,v5,v6,rfl,sH⟩
   have hi:i+1<W.length:=by rw[lW]at hi;omega
   obtain⟨p,hp0⟩:∃ p,W[i]? = some p:=⟨_,List.getElem?_eq_getElem (by omega)⟩;obtain⟨q,hq0⟩:∃ q,W[i+1]? = some q:=⟨_,List.getElem?_eq_getElem hi⟩;obtain⟨pq,t,et,tl,hex⟩:=B.st i p q hp0 hq0;obtain⟨bp,abp,hbp⟩:=atW hp0;obtain⟨bq,abq,hbq⟩:=atW hq0
   have i1:(1+(i:Int)-1)=(i:Int):=by omega
   have i2:(1+(i:Int))=((i+1:Nat):Int):=by omega
   have aL:=sH _ _ hla;refine⟨_,rfl,_,rfl,_,_,rfl,rfl,l,_,_,_,rfl,rfl,bz.of aL,by rw[i1];exact abp,bp,_,_,_,rfl,rfl,dv.of (sH _ _ hbp),at0,_,rfl,_,rfl,l,_,_,_,rfl,rfl,bz.of aL,by rw[i2];exact abq,bq,_,_,_,rfl,rfl,dv.of (sH _ _ hbq),at0,_,_,rfl,rfl,_,rfl,?_⟩;rw[EC pq];refine bY ⟨_,rfl,ls,_,rfl,.inl (bz.of (sH _ _ hq)),_,_,rfl,rfl,_,rfl,?_⟩;rw[lS,EC (show q.1<=(es.length:Int) by omega)];refine aV ?_
   obtain⟨d,hd,hor⟩:∃ d,es[t]? = some d/\(d=.exch p.2 q.2\/d=.exch q.2 p.2):=by
    rcases hex with z | z
    ·exact⟨_,z,.inl rfl⟩
    ·exact⟨_,z,.inr rfl⟩
   obtain⟨bd,abd,hbd⟩:=atS hd;have aS:=sH _ _ hq;refine⟨_,rfl,_,rfl,_,rfl,l,_,_,_,rfl,rfl,bz.of aL,by rw[i2];exact abq,bq,_,_,_,rfl,rfl,dv.of (sH _ _ hbq),at0,_,_,rfl,rfl,ls,_,_,_,rfl,rfl,bz.of aS,by rw[show q.1-1=(t:Int) by omega];exact abd,?_⟩;refine⟨_,rfl,_,rfl,_,_,rfl,rfl,l,_,_,_,rfl,rfl,bz.of aL,by rw[i1];exact abp,bp,_,_,_,rfl,rfl,dv.of (sH _ _ hbp),at1,?_⟩;refine⟨_,rfl,_,rfl,l,_,_,_,rfl,rfl,bz.of aL,by rw[i2];exact abq,bq,_,_,_,rfl,rfl,dv.of (sH _ _ hbq),at1,?_⟩
   have flx:∀ x y:Int,∀ z∈[V.str "exchange",V.int x,V.int y],gL z=true:=fun x y z hz=>by
    rcases En.mp hz with e | hz
    ·rw[e];rfl
    ·rcases En.mp hz with e | hz
     ·rw[e];rfl
     ·rw[El.mp hz];rfl
   refine⟨_,rfl,_,rfl,_,rfl,three,fun t1 ht1=>?_⟩;have s3:=ao (o:=.tup [.str "exchange",.int p.2,.int q.2]) ht1;have h3:upd HH t1 (.tup [.str "exchange",.int p.2,.int q.2]) t1=some (.tup [.str "exchange",.int p.2,.int q.2]):=ag;generalize upd HH t1 (.tup [.str "exchange",.int p.2,.int q.2])=H3 at s3 h3 ⊢;have sH3:=sH.trans s3;refine⟨bd,t1,_,_,rfl,rfl,eX (sH3 _ _ hbd) (jp _),eX h3 (flx _ _),fun b hb=>⟨_,rfl,?_⟩⟩
   cases b with
   | true=>exact aV (aV ⟨_,_,_,_,rfl,sH3⟩)
   | false =>
    refine bY ⟨_,rfl,_,rfl,_,rfl,three,fun t2 ht2=>?_⟩;have s4:=ao (o:=.tup [.str "exchange",.int q.2,.int p.2]) ht2;have h4:upd H3 t2 (.tup [.str "exchange",.int q.2,.int p.2]) t2=some (.tup [.str "exchange",.int q.2,.int p.2]):=ag;generalize upd H3 t2 (.tup [.str "exchange",.int q.2,.int p.2])=H4 at s4 h4 ⊢;have sH4:=sH3.trans s4
    have hd2:d=.exch q.2 p.2:=by
     rcases hor with z | z
     ·have:=hb.mpr (by rw[z];exact kW.mpr rfl)
      cases this
     ·exact z
    refine⟨bd,t2,_,_,rfl,rfl,eX (sH4 _ _ hbd) (jp _),eX h4 (flx _ _),fun b2 hb2=>⟨_,rfl,?_⟩⟩;rw[show (if true=true then !b2 else b2)=false by rw[hb2.mpr (by rw[hd2];exact kW.mpr rfl)];rfl];exact aV ⟨_,_,_,_,rfl,sH4⟩
  ·rintro σ HH ⟨v3,v4,v5,v6,rfl,sH⟩
   exact k HH sH
theorem Bi (F:eR K "law" "law" lM f fd)(gi:aK P w K mg base "_law_evening" 6 ["_law_script"] (im K))(gj:aK P w K mg base "_law_hall_of" 7 ["_law_story"] (kT c))(eO:av P w K mg base dB c.C "guests" 1 ["self"] (kS c.C))(Cmask_walk:dI P w K mg base "mask_walk" 8 ["hall","mask"] (io c (·.hold) P0 dZ bi))(Cface_walk:dI P w K mg base "face_walk" 8 ["hall","guest"] (io c (·.worn) P1 dY bh))(jj:aK P w K mg base "_law_row" 3 ["_law_found"] se)(dN:aK P w K mg base "_law_by_the_story" 2 ["_law_walk","_law_mask","_law_story"] rY)(dF:aK P w K mg base "_law_stretches" 1 ["_law_walk","_law_last"] wK)(gY:aK P w K mg base "_law_seen" 1 ["_law_stretches_here","_law_came"] sh)(aB:av P w K mg base (eY P w) c.C "wears" 3 ["self","guest"] (fA c)) : aW P w K mg base dB 10 f fd ["_law_script"] (kU K P0 P1):=by
 refine F.ok cu (fun vs H Q E h=>?_) (fun cdv A outer s H vs Q E hr h=>?_)
 ·obtain⟨a,ns,rfl,_⟩:=h
  rfl
 ·obtain⟨a,ns,rfl,hS,hlen,hTb0,hTb1,hne,k⟩:=h
  have hu:=fJ hr
  refine⟨_,ah (Bn (bV gi hr.m rfl (ki (pv 0))) (jX rfl (aZ (jY 1 cu.nd) (aZ (jY 2 cu.nd) (aZ (jY 3 cu.nd) gd))))) (
   ah (bW 4 cu.nd (bV gj hr.m rfl (ki (pv 3)))) (
   ah (bW 5 cu.nd (bQ cB (by rfl) T.len F2 (ki (pv 3)))) (
   ah (bW 6 cu.nd (e9 ax)) (
   ah (bW 7 cu.nd (e9 ax)) (
   ah (bW 8 cu.nd fO) (
   ah (d4 Fa rfl (dL (vq eO (pv 4) U.cl hr.m fM)) (jY 9 cu.nd) (ah (bW 10 cu.nd (rO Cmask_walk hr.m rfl qv (ie (pv 4) (pv 9)))) (
   ah (bW 11 cu.nd (rO Cface_walk hr.m rfl qv (ie (pv 4) (pv 9)))) (
   ah (br (PW.pt (o9 (jZ (i6 (bV jj hr.m rfl (ki (pv 10))))) (o9 (jZ (i6 (bV jj hr.m rfl (ki (pv 11))))) (pb (jZ (i6 (bV dN hr.m rfl (Af (pv 10) (pv 9) (pv 3))))))))) (ai (aA (iZ))) (aJ)) (
   ah (fu hu (pv 8) (pv 9) (aI aG (aI dh (pv 10) (aj) (fun _ _=>rfl)) (aj) (fun _ _=>rfl)) rfl) (
   ah (bW 6 cu.nd (aM vn (pv 6) (kH (so:=au lM) (N:=ww) (N':=["_law_one","_law_until","_law_who","_law_guest_here"]) (src:=[none,none,none,some 9]) rfl rfl Cb rfl (dL (bV dF hr.m rfl (ie (pv 10) (pv 5)))) (fun cl C s2 H2 ex=>⟨wE (n:=3) K rfl (aZ (jY 0 (show (["_law_one","_law_until","_law_who","_law_guest_here"]:List Str).Nodup by decide +kernel)) (aZ (jY 1 (show (["_law_one","_law_until","_law_who","_law_guest_here"]:List Str).Nodup by decide +kernel)) (aZ (jY 2 (show (["_law_one","_law_until","_law_who","_law_guest_here"]:List Str).Nodup by decide +kernel)) gd))),kK,bx (ar (pv 0) (ar (pv 1) (ar (pv 2) (ar (pv 3) ax))))⟩)))) (
   ai (bW 7 cu.nd (aM vn (pv 7) (kH (so:=au lM) (N:=ww) (N':=["_law_one","_law_until","_law_mask","_law_guest_here"]) (src:=[none,none,none,some 9]) rfl rfl Cb rfl (dL (bV dF hr.m rfl (ie (pv 11) (pv 5)))) (fun cl C s2 H2 ex=>⟨wE (n:=3) K rfl (aZ (jY 0 (show (["_law_one","_law_until","_law_mask","_law_guest_here"]:List Str).Nodup by decide +kernel)) (aZ (jY 1 (show (["_law_one","_law_until","_law_mask","_law_guest_here"]:List Str).Nodup by decide +kernel)) (aZ (jY 2 (show (["_law_one","_law_until","_law_mask","_law_guest_here"]:List Str).Nodup by decide +kernel)) gd))),kK,bx (ar (pv 0) (ar (pv 1) (ar (pv 3) (ar (pv 2) ax))))⟩))))))))))) (
   ah (br (aE (rK 1 (zA hr (by decide))) (bV gY hr.m rfl (ie (pv 6) (pv 8))) (bV gY hr.m rfl (ie (pv 7) (pv 8))) (aQ _)) (ai (aA (iZ))) (aJ)) (
   ah (bW 12 cu.nd tW) (
   ah (d4 Fa rfl (dL (pv 6)) (jX rfl (aZ (jY 13 cu.nd) (aZ (jY 14 cu.nd) (aZ (jY 15 cu.nd) (aZ (jY 16 cu.nd) gd))))) (ai (d4 Fa rfl (qw (by rfl) T.range (ie (pv 13) (aM e8 (pv 14) (aj)))) (jY 17 cu.nd) (ah (br (ij (iY hu (bx (ie (pv 17) (pv 15))) (pv 12))) (ai (aA (iZ))) (aJ)) (
   ai (fu hu (pv 12) (bx (ie (pv 17) (pv 15))) (pv 16) rfl)))))) (
   ai (aA (bQ (qd rfl) (by rfl) T.all PyProof.Rows.boot_all (ki (kH (so:=au lM) (N:=ww) (N':=["_law_guest_here","_law_held","_law_last","_law_hall"]) (src:=[none,some 12,some 5,some 4]) rfl rfl Cb rfl (dL (vq eO (pv 4) U.cl hr.m fM)) (fun cl C s2 H2 ex=>⟨jY 0 (show (["_law_guest_here","_law_held","_law_last","_law_hall"]:List Str).Nodup by decide +kernel),kK,Ag dX (yQ hu (pv 1) (bx (ie (pv 2) (pv 0))) ⟨rfl,rfl,rfl,rfl⟩) (dE aB (pv 3) U.cl hr.m qv (ki (pv 0))) (aQ _)⟩))))))))))))))),?_⟩
  have nos:∀ (B:HA)(m:Str),¬ m="worn"->¬ m="holders"->¬ m="circles"->¬ m="deeds"->(bO B).lookup m=none:=fun B m h1 h2 h3 h4=>kz B h1 h2 h3 h4;have nG:∀ B:HA,(bO B).lookup ("guests" : Str)=none:=fun B=>uS B (by decide +kernel);have nM:∀ B:HA,(bO B).lookup ("moment" : Str)=none:=fun B=>uS B (by decide +kernel);have nI:∀ B:HA,(bO B).lookup ("inside" : Str)=none:=fun B=>uS B (by decide +kernel);have nS:∀ B:HA,(bO B).lookup ("story" : Str)=none:=fun B=>uS B (by decide +kernel);have nW:∀ B:HA,(bO B).lookup ("wears" : Str)=none:=fun B=>uS B (by decide +kernel);have nR:∀ B:HA,(bO B).lookup ("wearer" : Str)=none:=fun B=>uS B (by decide +kernel);have nT:∀ B:HA,(bO B).lookup ("met" : Str)=none:=fun B=>uS B (by decide +kernel);have nP:∀ B:HA,(bO B).lookup ("pairs" : Str)=none:=fun B=>uS B (by decide +kernel);have nQ:∀ B:HA,(bO B).lookup ("partners" : Str)=none:=fun B=>uS B (by decide +kernel)
  have two:(2:Nat)<=sizeLine:=by decide
  have nil0:(0:Nat)<=sizeLine:=EK _
  have dkk:∀ wl:List (Int×Int),(dk wl).map (·.1)=(aD wl).map Sum.inl:=fun wl=>by unfold dk aD;rw[Fi,Fi];rfl
  refine⟨_,rfl,a,ns,rfl,hS,fun t w m ls H1 es s1 ht M dn nm el ex=>?_⟩;refine⟨t,_,rfl,dv.of ht,rfl,_,_,rfl,_,_,rfl,_,_,rfl,rfl,?_⟩;generalize hcn:gu ns 1=cn at nm;have L40:(bP 40 cn).length=40:=qm 40 cn;have nmS:∀ d∈es,∀ g∈names d,g∈bP 40 cn/\cK g:=fun d hd g hg=>⟨nm d hd g hg,f7 (nm d hd g hg)⟩;have P:=rM dn nmS es.length;rw[Fe]at P;have pm:=P.ml;have lno:=vi P.good P.of
  have hls:bT H1 ls es:=by have:=M.hs;rw[j8]at this;exact this
  refine⟨_,rfl,ls,es,bP 40 cn,rfl,hls,dn,el,by omega,nmS,fun x B H2 hx E2=>?_⟩
  have nB:∀ b o,H1 b=some o->b∉B.fp:=fun b o e z=>by rw[E2.nfp b z]at e;cases e
  have wB:=nB _ _ M.hw;have hw2:=E2.same _ _ M.hw;have hm2:=E2.same _ _ M.hm;have hs2:=dQ hls E2.same;have hS2:=(s1.trans E2.same).seq hS;have hall:=E2.hall;have G:=P.good;have PW:=tY G;have smk:∀ g∈aD (bb es).worn,cK g:=fun g hg=>f7 (P.of.1 g hg);obtain⟨rs1,rs2⟩:=t7 PW;have al:=P.al;have ci:=P.ci;obtain⟨st,est⟩:∃ st,st=bb es:=⟨_,rfl⟩;rw[<-est]at hw2 hall G PW smk rs1 rs2 lno al ci
  have h64:st.worn.length<64:=by omega
  have wl64:(bK st.worn).length<=64:=by have:=qF st.worn;omega
  have t2:T2 H2 P0 P1 dZ bi dY bh:=⟨hne,.inl ((s1.trans E2.same) _ _ hTb0),.inl ((s1.trans E2.same) _ _ hTb1)⟩
  have four:(4:Nat)<=sizeLine:=by decide
  obtain⟨qs0,hq0,hqp0⟩:=id hs2;have ql0:=Er hqp0;have hg:∀ i,d9 (gX es i):=fun i=>(rM dn nmS i).good;generalize egl:gU (aD st.worn)=gl
  have nd:gl.Nodup:=by rw[<-egl];exact (F3 _ _).nodup_iff.mpr PW.nd
  have ins:∀ g,g∈gl↔(look (bb es).worn g).isSome=true:=fun g=>by rw[<-egl,qp,<-est];exact bU.symm
  have gll:gl.length<=40:=by rw[<-egl,qo];unfold aD;rw[Eg];omega
  have gsm:∀ g∈gl,cK g:=fun g hg=>smk g (by rw[<-egl]at hg;exact qp.mp hg);have AV:=A2 dn hg ins nd;generalize ecm:cmOf es=cm at AV
  have WH:∀ g∈gl,fg (·.hold) g 0 ⟨[],[],[],[]⟩ es []=cX (iI (vT (·.hold) es g) (cm g) (es.length-cm g)):=fun g h=>by rw[<-ecm];exact (qE dn hg ins h).2
  have WW:∀ g∈gl,fg (·.worn) g 0 ⟨[],[],[],[]⟩ es []=cX (iI (vT (·.worn) es g) (cm g) (es.length-cm g)):=fun g h=>by rw[<-ecm];exact x0 dn hg ins h
  refine⟨_,rfl,ls,_,rfl,.inl (bz.of hq0),?_⟩;rw[Eg,ql0];refine⟨nil0,fun lm0 hlm0=>⟨nil0,fun lf0 hlf0=>?_⟩⟩;intro lc hlc;have s3:=((ao (o:=.lst []) hlm0).trans (ao (o:=.lst []) hlf0)).trans (ao (o:=.dK []) hlc);have nlc:H2 lc=none:=((ao (o:=.lst []) hlm0).trans (ao (o:=.lst []) hlf0)).free hlc;have q3:fE (upd (upd (upd H2 lm0 (.lst [])) lf0 (.lst [])) lc (.dK [])) lm0 []:=⟨[],ao hlc _ _ (ao hlf0 _ _ ag),.nil⟩;have f3:fE (upd (upd (upd H2 lm0 (.lst [])) lf0 (.lst [])) lc (.dK [])) lf0 []:=⟨[],ao hlc _ _ ag,.nil⟩;have c3:upd (upd (upd H2 lm0 (.lst [])) lf0 (.lst [])) lc (.dK []) lc=some (.dK []):=ag;generalize upd (upd (upd H2 lm0 (.lst [])) lf0 (.lst [])) lc (.dK [])=H3 at s3 q3 f3 c3 ⊢;have hall3:=hall.mono s3;refine⟨_,rfl,x,B.dx,_,rfl,hall3.ob,nG B,x,B,_,rfl,hall3,h64,fun lg hlg=>?_⟩;rw[egl];have s4:=ao (o:=.lst (gl.map V.int)) hlg;have g4:upd H3 lg (.lst (gl.map V.int)) lg=some (.lst (gl.map V.int)):=ag;have s24:=s3.trans s4;have nlg:H2 lg=none:=s3.free hlg;have q4:=q3.mono s4;have f4:=f3.mono s4;have c4:=s4 _ _ c3;generalize upd H3 lg (.lst (gl.map V.int))=H4 at s4 g4 s24 q4 f4 c4 ⊢
  refine⟨lg,rfl,⟨_,bz.of g4⟩,cY (K:=K) (a:=lg) (xs:=gl.map V.int) (fun i σ HH=>∃ (lm lf:Addr)(v9 v10 v11:Option V),σ=[some (.ref a),some (.ref w),some (.ref m),some (.ref ls),some (.ref x),some (.int (es.length:Int)),some (.ref lm),some (.ref lf),some (.ref lc),v9,v10,v11,none,none,none,none,none,none]/\B2 P0 P1 H2 HH/\T2 HH P0 P1 dZ bi dY bh/\HH lg=some (.lst (gl.map V.int))/\HH lc=some (.dK (dk (pH cm (gl.take i))))/\fE HH lm (gr es cm (gl.take i))/\fE HH lf (k8 es cm (gl.take i)))
   ⟨lm0,lf0,none,none,none,rfl,B2.refl.same s24,t2.same s24,g4,c4,q4,f4⟩ (fun i σ HH _ ⟨_,_,_,_,_,_,_,_,z,_⟩=>bz.of z) ?_ ?_⟩
  ·rintro i y σ HH hi ⟨lm,lf,v9,v10,v11,rfl,bt,tb,gH,cH,qH,fH⟩
   obtain⟨g,hgi,rfl⟩:=cO hi;have hgm:=EN hgi;have hin:=(ins g).mp hgm
   have hallH:∀ {HX:Hp},B2 P0 P1 H2 HX->aH c.C HX x B (bb es):=fun b=>by rw[<-est];exact b.hall t2 hall
   have wok:∀ {lk:bZ->List (Int×Int)}{HX:Hp},B2 P0 P1 H2 HX->uB c lk HX x B es (bP 40 cn) g:=fun b=>⟨hallH b,dn,by omega,by omega,nmS,gsm g hgm⟩;refine⟨_,rfl,_,rfl,x,B,es,bP 40 cn,g,rfl,wok bt,tb.a,?_⟩;rw[Ee hin,WH g hgm];intro l5 H5 hl5 b5 t5 row5;have c5:B2 P0 P1 HH H5:=B2.but0 b5;have bt5:=bt.trans c5;have tb5:=tb.but0 b5 t5;refine⟨_,rfl,_,rfl,x,B,es,bP 40 cn,g,rfl,wok bt5,tb5.b,?_⟩;rw[Ee hin,WW g hgm];intro l6 H6 hl6 b6 t6 row6;have c56:B2 P0 P1 H5 H6:=B2.but1 b6;have bt6:=bt5.trans c56;have tb6:=tb5.but1 b6 t6;have row56:=c56.row tb5 row5;have c6:=c5.trans c56;have w1:=kr (vT (·.hold) es g) (cm g) (es.length-cm g);have w2:=kr (vT (·.worn) es g) (cm g) (es.length-cm g)
   have wl1:(cX (iI (vT (·.hold) es g) (cm g) (es.length-cm g))).length<=89:=by rw[qe];omega
   have wl2:(cX (iI (vT (·.worn) es g) (cm g) (es.length-cm g))).length<=89:=by rw[qe];omega
   have BY:=AV.by hgm;refine⟨_,rfl,l5,_,rfl,row56,by omega,fun H7 s7=>⟨_,rfl,aV ⟨_,rfl,l6,_,rfl,row6.mono s7,by omega,fun H8 s8=>⟨_,rfl,aV ?_⟩⟩⟩⟩;have s68:=s7.trans s8;refine⟨_,rfl,_,rfl,_,rfl,l5,ls,_,g,es,rfl,row56.mono s68,(bt6.same s68).deeds t2 hs2,by omega,BY,fun H9 s9=>⟨_,rfl,aV ?_⟩⟩;have s69:=s68.trans s9;have bt9:=bt6.same s69;have tb9:=tb6.same s69;have c9:=c6.same s69;have r59:=row56.mono s69;have r69:=row6.mono s69;have hc9:=c9.get tb cH (fun ps z=>by cases z);have hg9:=c9.get tb gH (fun ps z=>by cases z);have q9:=c9.q4 tb qH;have f9:=c9.q4 tb fH;clear s68 s69 s7 s8 s9;obtain⟨as5,hl59,hp59⟩:=id r59;have S:=AV.si g hgm;have c1:=S.c1
   have hW0:(cX (iI (vT (·.hold) es g) (cm g) (es.length-cm g)))[0]? = some ((cm g:Int),g):=by
    obtain⟨r,e⟩:=kq (vT (·.hold) es g) (cm g) (es.length-cm g);rw[e,S.own.1];rfl
   obtain⟨b0,hb0,hB0⟩:=dR hp59 hW0;have hil:i<gl.length:=(List.getElem?_eq_some_iff.mp hgi).1
   have tk:gl.take (i+1)=gl.take i++[g]:=by rw[EU,hgi,E9]
   have gni:g∉gl.take i:=fun z=>by
    have nd2:=nd;rw[<-Fj (i+1) gl,tk]at nd2;have h3:=FI.mp (FI.mp nd2).1;exact h3.2.2 _ z _ (El.mpr rfl) rfl
   have nlcg:lc≠lg:=fun z=>by rw[z,hg9]at hc9;cases hc9
   refine⟨_,rfl,l5,_,_,_,rfl,rfl,bz.of hl59,dJ (j:=0) (by rw[List.getElem?_map,hb0];rfl),b0,_,_,_,rfl,rfl,dv.of hB0,dJ (j:=0) rfl,_,rfl,_,rfl,lc,_,rfl,jx.k (k:=Sum.inl g) hc9 (by unfold dk pH;rw[Eg,Eg,E8];exact bn (by omega)),?_⟩;rw[zJ cm gni,<-tk]
   have upk:∀ b o,H9 b=some o->b≠lc->upd H9 lc (.dK (dk (pH cm (gl.take (i+1))))) b=some o:=fun b o e n=>by rw[ae n];exact e
   have bt10:=B2.put (o:=.dK (dk (pH cm (gl.take (i+1))))) bt9 nlc;have tb10:=T2.put (o:=.dK (dk (pH cm (gl.take (i+1))))) tb9 hc9 (fun ps z=>by cases z) (fun a b z=>by cases z);have hc10:upd H9 lc (.dK (dk (pH cm (gl.take (i+1))))) lc=some (.dK (dk (pH cm (gl.take (i+1))))):=ag;generalize upd H9 lc (.dK (dk (pH cm (gl.take (i+1)))))=H10 at upk bt10 tb10 hc10 ⊢;have up:∀ {b o},H9 b=some o->(∀ kv,o≠.dK kv)->H10 b=some o:=fun {b o} e n=>upk b o e (fun z=>by rw[z,hc9]at e;cases e;exact n _ rfl);have hg10:=up hg9 (fun kv z=>by cases z)
   have r510:dD H10 l5 (cX (iI (vT (·.hold) es g) (cm g) (es.length-cm g))):=by
    obtain⟨as,h,p⟩:=r59;exact⟨as,up h (fun kv z=>by cases z),Paired.mapP p fun b e y=>up y (fun kv z=>by cases z)⟩
   have r610:dD H10 l6 (cX (iI (vT (·.worn) es g) (cm g) (es.length-cm g))):=by
    obtain⟨as,h,p⟩:=r69;exact⟨as,up h (fun kv z=>by cases z),Paired.mapP p fun b e y=>up y (fun kv z=>by cases z)⟩
   have q10:fE H10 lm (gr es cm (gl.take i)):=by
    obtain⟨as,h,p⟩:=q9;exact⟨as,up h (fun kv z=>by cases z),Paired.mapP p fun b e y=>up y (fun kv z=>by cases z)⟩
   have f10:fE H10 lf (k8 es cm (gl.take i)):=by
    obtain⟨as,h,p⟩:=f9;exact⟨as,up h (fun kv z=>by cases z),Paired.mapP p fun b e y=>up y (fun kv z=>by cases z)⟩
   clear up upk hB0 hb0 hp59 hl59 r59 r69 q9 f9;have z1:=lP (iI (vT (·.hold) es g) (cm g) (es.length-cm g)) es.length (vR _ c1 _);have z2:=lP (iI (vT (·.worn) es g) (cm g) (es.length-cm g)) es.length (vR _ c1 _);have y1:=je (cX (iI (vT (·.hold) es g) (cm g) (es.length-cm g))) (es.length:Int);have y2:=je (cX (iI (vT (·.worn) es g) (cm g) (es.length-cm g))) (es.length:Int);obtain⟨am,af⟩:=xb es cm (gl.take i) g;obtain⟨lm1,lf1⟩:=n8 es cm (gl.take i)
   have tkl:(gl.take i).length<=40:=by rw[E8];omega
   have mul:(gl.take i).length*(es.length+1)<=40*89:=Nat.mul_le_mul tkl (by omega);refine⟨_,rfl,_,rfl,_,rfl,l5,_,_,rfl,r510,by omega,fun r1 H11 hr1 s11 t11=>⟨r1,rfl,?_,fun q hq=>?_⟩⟩
   ·obtain⟨as,h,_⟩:=t11
    exact⟨_,bz.of h⟩
   refine ul (K:=K) (f:=fun t=>(t.1,t.2.1,t.2.2,g)) hq t11 (by omega) (fun t HK Q' ht sK kk=>⟨_,rfl,_,rfl,_,rfl,_,rfl,four,kk⟩) (fun H12 s12 w12=>?_)
   have e1:(pW (cX (iI (vT (·.hold) es g) (cm g) (es.length-cm g))) (es.length:Int)).map (fun t:T3=>((t.1,t.2.1,t.2.2,g):Q4))=(Sm es cm g).map (mq g):=by rw[z1,Fi];rfl
   rw[e1]at w12
   have e1l:((Sm es cm g).map (mq g)).length<=89:=by rw[<-e1,Eg];omega
   have s1012:=s11.trans s12;refine y4 (q10.mono s1012) w12 (by omega) (fun p13 H13 hp13 s13 w13=>?_);rw[<-am,<-tk]at w13;have s1013:=s1012.trans s13;refine⟨_,rfl,_,rfl,_,rfl,l6,_,_,rfl,r610.mono s1013,by omega,fun r2 H14 hr2 s14 t14=>⟨r2,rfl,?_,fun q2 hq2=>?_⟩⟩
   ·obtain⟨as,h,_⟩:=t14
    exact⟨_,bz.of h⟩
   refine ul (K:=K) (f:=fun t=>(t.1,t.2.1,g,t.2.2)) hq2 t14 (by omega) (fun t HK Q' ht sK kk=>⟨_,rfl,_,rfl,_,rfl,_,rfl,four,kk⟩) (fun H15 s15 w15=>?_)
   have e2:(pW (cX (iI (vT (·.worn) es g) (cm g) (es.length-cm g))) (es.length:Int)).map (fun t:T3=>((t.1,t.2.1,g,t.2.2):Q4))=(Sf es cm g).map (fq g):=by rw[z2,Fi];rfl
   rw[e2]at w15
   have e2l:((Sf es cm g).map (fq g)).length<=89:=by rw[<-e2,Eg];omega
   have s1015:=s1013.trans (s14.trans s15);refine y4 (f10.mono s1015) w15 (by omega) (fun p16 H16 hp16 s16 w16=>?_);rw[<-af,<-tk]at w16;have s1016:=s1015.trans s16;exact⟨p13,p16,_,_,_,rfl,bt10.same s1016,tb10.same s1016,s1016 _ _ hg10,s1016 _ _ hc10,w13.mono ((s14.trans s15).trans s16),w16⟩
  ·rintro σ HH ⟨lm,lf,v9,v10,v11,rfl,bt,tb,gH,cH,qH,fH⟩
   rw[Eg,Fe]at cH qH fH;obtain⟨lm1,lf1⟩:=n8 es cm gl;have mul:gl.length*(es.length+1)<=40*89:=Nat.mul_le_mul gll (by omega);refine⟨_,rfl,_,rfl,lm,lc,_,_,rfl,qH,cH,by omega,AV.ndM.sublist List.filter_sublist,fun r1 rs1 H5 hr1 s5 q5 pr1 pw1=>?_⟩;refine⟨_,rfl,_,rfl,lf,lc,_,_,rfl,fH.mono s5,s5 _ _ cH,by omega,AV.ndF.sublist List.filter_sublist,fun r2 rs2 H6 hr2 s6 q6 pr2 pw2=>?_⟩;refine⟨r1,r2,_,_,rfl,rfl,AF (q5.mono s6),AF q6,fun b hb=>⟨_,rfl,?_⟩⟩;rw[show (if true=true then !b else b)=false by rw[hb.mpr (by rw[AV.same pr1 pw1 pr2 pw2])];rfl];refine aV ?_;have s56:=s5.trans s6;have qH6:=qH.mono s56;have hall6:aH c.C H6 x B st:=(bt.same s56).hall t2 hall;clear q5 q6 pr1 pw1 pr2 pw2 hb r1 rs1 r2 rs2 hr1 hr2;intro lh hlh;have s7:=ao (o:=.dT []) hlh;have h7:upd H6 lh (.dT []) lh=some (.dT []):=ag;generalize upd H6 lh (.dT [])=H7 at s7 h7 ⊢;have HN:=AV.held;have HL:=fun (g m:Int)(h1:g∈gl)(h2:look (bb es).worn g=some m)=>AV.last h1 h2;have HQ:=fun (q:Q4)(h:q∈gr es cm gl)=>AV.qs h;generalize gr es cm gl=qs at qH6 HN HL HQ lm1
   have lq:∀ q∈qs,kD q<=88:=fun q hq=>by
    obtain⟨h1,h2,h3⟩:=HQ q hq;unfold kD;omega
   obtain⟨as,hla,hp⟩:=id qH6;have asl:=Er hp
   refine⟨_,rfl,lm,rfl,⟨_,bz.of (s7 _ _ hla)⟩,cY (K:=K) (a:=lm) (xs:=as.map V.ref) (fun i σ HH=>∃ (v13 v14 v15 v16 v17:Option V),σ=[some (.ref a),some (.ref w),some (.ref m),some (.ref ls),some (.ref x),some (.int (es.length:Int)),some (.ref lm),some (.ref lf),some (.ref lc),v9,v10,v11,some (.ref lh),v13,v14,v15,v16,v17]/\aF H6 HH/\HH lh=some (.dT (jG (cZ (qs.take i)))))
    ⟨none,none,none,none,none,rfl,s7,h7⟩ (fun i σ HH _ ⟨_,_,_,_,_,_,z,_⟩=>bz.of (z _ _ hla)) ?_ ?_⟩
   ·rintro i y σ HX hi ⟨v13,v14,v15,v16,v17,rfl,sX,hX⟩
    obtain⟨b,hb,rfl⟩:=cO hi;obtain⟨q,hq0,hB⟩:=bj hp hb;have hqm:=EN hq0;obtain⟨u1,u2,u3⟩:=HQ q hqm;have hil:=(List.getElem?_eq_some_iff.mp hq0).1
    have hlb:(cZ (qs.take i)).length<=3560*88:=by
     refine EI (wg (n:=88) fun y hy=>lq y (List.mem_of_mem_take hy)) (Nat.mul_le_mul_right _ ?_);rw[E8];omega
    have lq0:=lq q hqm;refine⟨b,_,rfl,dv.of (sX _ _ hB),rfl,_,_,rfl,_,_,rfl,_,_,rfl,_,_,rfl,rfl,?_⟩
    refine⟨_,rfl,_,rfl,_,_,rfl,rfl,_,_,rfl,⟨by omega,by omega,by omega,by omega⟩,gM (fun j σ HY=>∃ (v17:Option V),σ=[some (.ref a),some (.ref w),some (.ref m),some (.ref ls),some (.ref x),some (.int (es.length:Int)),some (.ref lm),some (.ref lf),some (.ref lc),v9,v10,v11,some (.ref lh),some (.int q.1),some (.int q.2.1),some (.int q.2.2.1),some (.int q.2.2.2),v17]/\aF H6 HY/\HY lh=some (.dT (jG (cZ (qs.take i)++cL q j))))
     ⟨_,rfl,sX,by rw[hX];congr 3;simp[cL]⟩ ?_ ?_⟩
    ·rintro j σ HY hj ⟨v17,rfl,sY,hY⟩
     have hj:j<kD q:=hj;obtain⟨n1,n2⟩:=yu HN hq0 hj
     have hkl:(jG (cZ (qs.take i)++cL q j)).length<sizeLine:=by
      unfold jG;rw[Eg,Ew,qg];have:=FD;omega
     refine⟨_,rfl,_,rfl,two,fun t1 ht1=>?_⟩;have s8:=ao (o:=.tup [.int (q.1+(j:Int)),.int q.2.2.1]) ht1;have h8:upd HY t1 (.tup [.int (q.1+(j:Int)),.int q.2.2.1]) t1=some (.tup (([Sum.inl (q.1+(j:Int)),Sum.inl q.2.2.1]:List bR).map kV)):=ag;generalize upd HY t1 (.tup [.int (q.1+(j:Int)),.int q.2.2.1])=H8 at s8 h8 ⊢;have e0:=uP n2;refine⟨_,rfl,lh,_,rfl,cI.t (s8 _ _ hY) h8,_,rfl,?_⟩;rw[e0];refine aV ⟨_,rfl,_,rfl,_,rfl,_,rfl,two,fun t2 ht2=>?_⟩;have s9:=ao (o:=.tup [.int (q.1+(j:Int)),.int q.2.2.1]) ht2;have h9:upd H8 t2 (.tup [.int (q.1+(j:Int)),.int q.2.2.1]) t2=some (.tup (([Sum.inl (q.1+(j:Int)),Sum.inl q.2.2.1]:List bR).map kV)):=ag;generalize upd H8 t2 (.tup [.int (q.1+(j:Int)),.int q.2.2.1])=H9 at s9 h9 ⊢;refine⟨lh,_,rfl,jx.t (s9 _ _ (s8 _ _ hY)) h9 hkl,_,rfl,c8 ((sY.trans s8).trans s9) hlh,?_⟩;rw[ag,xp n2,oF,Fg]
    ·rintro σ HY ⟨v17,rfl,sY,hY⟩
     refine⟨_,_,_,_,_,rfl,sY,?_⟩;rw[EU,hq0,E9,uQ];exact hY
   ·rintro σ HX ⟨v13,v14,v15,v16,v17,rfl,sX,hX⟩
    rw[Eg,asl,Fe]at hX;have hall8:=hall6.mono sX;refine⟨_,rfl,x,B.dx,_,rfl,hall8.ob,nG B,x,B,_,rfl,hall8,h64,fun lg2 hlg2=>?_⟩;rw[egl];have s8:=ao (o:=.lst (gl.map V.int)) hlg2;have g8:upd HX lg2 (.lst (gl.map V.int)) lg2=some (.lst (gl.map V.int)):=ag;generalize upd HX lg2 (.lst (gl.map V.int))=H8 at s8 g8 ⊢;have h8:=s8 _ _ hX;have hallJ:=hall8.mono s8;refine⟨lg2,rfl,⟨_,bz.of g8⟩,fun r hr=>?_⟩;refine uF (K:=K) (f:=fun _=>true) hr g8 (by omega) (fun g HK Q' hgm sK kk=>?_) (fun H9 s9 h9=>?_)
    ·obtain⟨mk,hmk⟩:=EL.mp ((ins g).mp hgm)
     refine⟨_,rfl,lh,rfl,.inr ⟨_,.inl (sK _ _ h8)⟩,_,rfl,_,rfl,two,fun t1 ht1=>?_⟩;have sT:=ao (o:=.tup [.int (es.length:Int),.int g]) ht1;have hT:upd HK t1 (.tup [.int (es.length:Int),.int g]) t1=some (.tup (([Sum.inl (es.length:Int),Sum.inl g]:List bR).map kV)):=ag;generalize upd HK t1 (.tup [.int (es.length:Int),.int g])=HT at sT hT ⊢;have e0:=oE (p:=((es.length:Int),g)) HN (HL g mk hgm hmk);have hallK:=(hallJ.mono sK).mono sT;refine⟨_,cI.t (sT _ _ (sK _ _ h8)) hT,_,rfl,x,B.dx,_,rfl,hallK.ob,nW B,_,rfl,x,B,st,g,rfl,hallK,gsm g hgm,?_⟩;rw[est,hmk];refine⟨?_,?_⟩
     ·rw[e0];rfl
     rw[e0]
     show Q' (.bl (decide (V.int mk=V.int mk))) HT
     rw[EC rfl];exact kk _ sT
    ·refine⟨r,_,rfl,bz.of h9,?_⟩
     rw[show (gl.map (fun _=>true)).all id=true by simp];exact k _
end
theorem all_mk2 {l:PySem.W.OpenLaw}{w:World}{K:PySem.W.Frag}{h:Heap}{mg:Str->Option Value}{fa:Addr}{C cW cA cM cS cT cN fN:Addr}(X:K.In h)(G:h.Ns mainGlobals mg)(hfa:mg "law" = some (.ref fa)){c0 P0 c9 P1:Addr}(CK:iC K c0 P0)(htab:PySem.W.tabIn K "mask_walk" = some (c0,P0))(CK1:iC K c9 P1)(htab1:PySem.W.tabIn K "face_walk" = some (c9,P1))(aC:PySem.W.nsIn K mainGlobals "Hall" = some (some (.ref C)))(n_cW:PySem.W.nsIn K mainGlobals "WaltzError" = some (some (.ref cW)))(n_cA:PySem.W.nsIn K mainGlobals "AlreadyIn" = some (some (.ref cA)))(n_cM:PySem.W.nsIn K mainGlobals "Masked" = some (some (.ref cM)))(n_cS:PySem.W.nsIn K mainGlobals "Same" = some (some (.ref cS)))(n_cT:PySem.W.nsIn K mainGlobals "Met" = some (some (.ref cT)))(n_cN:PySem.W.nsIn K mainGlobals "NoGuest" = some (some (.ref cN)))(b_cN:PySem.W.findIn K (.ref cN) "__init__" = some (some (.ref fN)))(pg:PySem.W.plainGet K C Str.empty=true)(hd:PySem.W.hasDictIn K C=true)(po:PySem.W.plainOver K C=true)(sa:PySem.W.findIn K (.ref C) "__setattr__" = some (some (.builtin "object.__setattr__")))(wz:PySem.W.findIn K (.ref C) "worn" = some none)(oP:PySem.W.findIn K (.ref C) "holders" = some none)(oO:PySem.W.findIn K (.ref C) "circles" = some none)(tM:PySem.W.findIn K (.ref C) "deeds" = some none)(e_cA:gq K cA)(e_cM:gq K cM)(e_cS:gq K cS)(e_cT:gq K cT)(e_cN:jQ K cN fN=true)(g1:PySem.W.findIn K (.ref cN) "__getattribute__" = some (some (.builtin "BaseException.__getattribute__")))(g2:PySem.W.findIn K (.ref cN) "__getattr__" = some none)(g3:PySem.W.findIn K (.ref cN) "__setattr__" = some (some (.builtin "object.__setattr__")))(g4:PySem.W.findIn K (.ref cN) "guest" = some none)(g5:PySem.W.hasDictIn K cN=true)(g6:PySem.W.mroIn K cN (.type "BaseException")=some true)(g7:PySem.W.mroIn K cN (.type "object")=some true)(g8:((PySem.W.clsIn K cN).any fun cd=>gR cd.mro)=true)(tN:PySem.W.typeIn K (.ref fN)=some (.type "function"))(wS:PySem.W.specialIn K (.ref cW) "__getattribute__" = some (some (.builtin "type.__getattribute__")))(wR:PySem.W.readsIn K cW (.type "type")=true)(wI:PySem.W.findCls K (.ref cW) (.type "type") "__init__" = some (.val (.builtin "ValueError.__init__")))(x_aa:PySem.W.exmOne K (.ref cA) (.ref cA)=some true)(x_ma:PySem.W.exmOne K (.ref cM) (.ref cA)=some false)(x_mm:PySem.W.exmOne K (.ref cM) (.ref cM)=some true)(x_sa:PySem.W.exmOne K (.ref cS) (.ref cA)=some false)(x_sm:PySem.W.exmOne K (.ref cS) (.ref cM)=some false)(x_ss:PySem.W.exmOne K (.ref cS) (.ref cS)=some true)(x_ta:PySem.W.exmOne K (.ref cT) (.ref cA)=some false)(x_tm:PySem.W.exmOne K (.ref cT) (.ref cM)=some false)(x_ts:PySem.W.exmOne K (.ref cT) (.ref cS)=some false)(x_tt:PySem.W.exmOne K (.ref cT) (.ref cT)=some true)(x_na:PySem.W.exmOne K (.ref cN) (.ref cA)=some false)(x_nm:PySem.W.exmOne K (.ref cN) (.ref cM)=some false)(x_ns:PySem.W.exmOne K (.ref cN) (.ref cS)=some false)(x_nt:PySem.W.exmOne K (.ref cN) (.ref cT)=some false)(x_nn:PySem.W.exmOne K (.ref cN) (.ref cN)=some true)(mk:PySem.W.makesIn K C=true)(kc:PySem.W.keepIn K (.ref C)=true)(jC:bw K "_law_cell_at" fV)(lX:bw K "_law_crowd" iu)(nO:bw K "_law_size" jc)(l0:bw K "_law_guest" iz)(nK:bw K "_law_deed" i9)(lZ:bw K "_law_draws" iw)(gJ:bw K "_law_draws_from" d7)(lY:bw K "_law_deeds" d6)(p3:bw K "_law_key" kg)(pZ:bw K "_law_due" kf)(lV:bw K "_law_after" ir)(jD:bw K "_law_evening" fW)(lT:dP K C "__init__" "Hall.__init__" iq)(fh:dP K C "dress" "Hall.dress" gE)(fZ:dP K C "come" "Hall.come" ip)(iO:dP K cN "__init__" "NoGuest.__init__" ff)(fk:dP K C "wears" "Hall.wears" gG)(jk:dP K C "go" "Hall.go" j9)(gZ:dP K C "met" "Hall.met" i8)(dG:dP K C "acquaint" "Hall.acquaint" eG)(dH:dP K C "exchange" "Hall.exchange" eJ)(sy:bw K "_law_do" lN)(jE:bw K "_law_hall_of" fX)(jB:dP K C "guests" "Hall.guests" fS)(eL:dP K C "inside" "Hall.inside" fT)(fj:dP K C "story" "Hall.story" gF)(jl:bw K "do_deed" ka)(kj:bw K "walk_since" gI)(gm:dP K C "wearer" "Hall.wearer" fU)(l8:bw K "mask_walk" aO)(lU:bw K "face_walk" aN)(l7:bw K "_law_whole" iB)(nL:bw K "_law_pair" ja)(p6:bw K "_law_row" iA)(fC:bw K "_law_by_the_story" dy)(iD:bw K "_law_stretches" eK)(nN:bw K "_law_seen" jb)(Aw:bw K "law" lM)(AN:PySem.W.nsIn K mainGlobals "len" = some none)(wW:PySem.W.nsIn K mainGlobals "range" = some none)(kY:PySem.W.nsIn K mainGlobals "isinstance" = some none)(wX:PySem.W.nsIn K mainGlobals "tuple" = some none)(zw:PySem.W.nsIn K mainGlobals "list" = some none)(AM:PySem.W.nsIn K mainGlobals "int" = some none)(zu:PySem.W.nsIn K mainGlobals "bool" = some none)(AK:PySem.W.nsIn K mainGlobals "all" = some none)(AL:PySem.W.nsIn K mainGlobals "any" = some none)(uv:PySem.W.nsIn K mainGlobals "sorted" = some none)(pG:PySem.W.nsIn K mainGlobals "reversed" = some none)(AR:PySem.W.nsIn K mainGlobals "set" = some none)(AQ:PySem.W.nsIn K mainGlobals "min" = some none)(AO:PySem.W.nsIn K mainGlobals "max" = some none)(zv:PySem.W.nsIn K mainGlobals "dict" = some none)(AU:PySem.W.nsIn K mainGlobals "zip" = some none)(mK:PySem.W.nsIn K mainGlobals "enumerate" = some none)(AT:PySem.W.nsIn K mainGlobals "sum" = some none)(AS:PySem.W.nsIn K mainGlobals "str" = some none) :
  ∃ fd:FuncData,(∀ (s:Shared)(v:Value),BindsTo s fd ⟨[v],[]⟩ [("_law_script",v)])/\∀ base:Heap,K.In base->base.Ns mainGlobals mg->pI mg base->aW l.prog w K mg base dB 10 fa fd ["_law_script"] (kU K P0 P1):=by
 obtain⟨c,rfl,rfl,rfl,rfl,rfl,rfl,rfl,rfl⟩:∃ c:HX,c.C=C/\c.cW=cW/\c.cA=cA/\c.cM=cM/\c.cS=cS/\c.cT=cT/\c.cN=cN/\c.fN=fN:=⟨⟨C,cW,cA,cM,cS,cT,cN,fN⟩,rfl,rfl,rfl,rfl,rfl,rfl,rfl,rfl⟩;have T:DS mg:=⟨EH X G AN,EH X G wW,EH X G kY,EH X G wX,EH X G zw,EH X G AM,EH X G zu,EH X G AK,EH X G AL,EH X G uv,EH X G pG,EH X G AR,EH X G AQ,EH X G AO,EH X G zv,EH X G AU,EH X G mK,EH X G AT,EH X G AS⟩;have U:HT K mg c:=⟨⟨pg,hd,po,sa⟩,wz,oP,oO,tM,Fc X G aC,e_cA,e_cM,e_cS,e_cT,Fc X G n_cA,Fc X G n_cM,Fc X G n_cS,Fc X G n_cT,Fc X G n_cN,Fc X G n_cW,e_cN,⟨g1,g2,g3,g4,g5,g6,g7,g8⟩,tN,wS,wR,wI⟩;have VM:HM K c:=⟨x_aa,x_ma,x_mm,x_sa,x_sm,x_ss,x_ta,x_tm,x_ts,x_tt,x_na,x_nm,x_ns,x_nt,x_nn⟩;obtain⟨f_Hall_init,hU,a_Hall_init,i_Hall_init,G_Hall_init⟩:=lT;obtain⟨f_NoGuest_init,eZ,a_NoGuest_init,i_NoGuest_init,G_NoGuest_init⟩:=iO;obtain⟨f_walk_since,jF,a_walk_since,G_walk_since⟩:=kj;obtain⟨f_law,A8,a_law,G_law⟩:=Aw;have e:=hfa.symm.trans (Fc X G a_law);cases e;have eN:=Ei (Ei (a_NoGuest_init.symm.trans b_cN))
 have eN2:f_NoGuest_init=c.fN:=by injection eN
 refine⟨A8,?_,fun base _ _ BK=>?_⟩
 ·obtain⟨_,_,_,_,_,_,_,_,_,rfl,_,_⟩:=G_law.ex
  exact fun s v=>.of_eq rfl
 ·have dC:aK l.prog w K mg base "_law_cell_at" 1 ["_law_script","_law_k"] (rZ K):=rm X G jC fun _ _ h=>oU T U VM h
  have iL:aK l.prog w K mg base "_law_crowd" 1 ["_law_cell"] nu:=rm X G lX fun _ _ h=>rD T U VM h;have ek:aK l.prog w K mg base "_law_size" 1 ["_law_cell"] pz:=rm X G nO fun _ _ h=>tT T U VM h;have cV:aK l.prog w K mg base "_law_guest" 2 ["_law_k","_law_cell"] kR:=rm X G l0 fun _ _ h=>rG T U VM h ek;have jM:aK l.prog w K mg base "_law_deed" 3 ["_law_drawn","_law_many","_law_cell"] nv:=rm X G nK fun _ _ h=>tQ T U VM h cV;have iN:aK l.prog w K mg base "_law_draws" 2 ["_law_cell","_law_many","_law_base"] nw:=rm X G lZ fun _ _ h=>rF T U VM h ek;have ed:aK l.prog w K mg base "_law_draws_from" 3 ["_law_script","_law_start","_law_most","_law_base"] (sd K):=rm X G gJ fun _ _ h=>kG T U VM h iN;have iM:aK l.prog w K mg base "_law_deeds" 4 ["_law_script"] (kQ K):=rm X G lY fun _ _ h=>rE T U VM h dC iL cV jM ed;have fB:aK l.prog w K mg base "_law_key" 1 ["_law_one","_law_other"] ug:=rm X G p3 fun _ _ h=>vk T U VM h;have kZ:aK l.prog w K mg base "_law_due" 2 ["_law_worn","_law_met","_law_deed_here"] wH:=rm X G pZ fun _ _ h=>vj T U VM h fB;have iK:aK l.prog w K mg base "_law_after" 2 ["_law_worn","_law_met","_law_deed_here"] nk:=rm X G lV fun _ _ h=>rC T U VM h fB;have gi:aK l.prog w K mg base "_law_evening" 6 ["_law_script"] (im K):=rm X G jD fun _ _ h=>oV T U VM h iM kZ iK;have MH:BQ l.prog w K mg base c:=⟨f_Hall_init,hU,⟨mk,a_Hall_init,i_Hall_init,kc⟩,ic T U VM G_Hall_init ,(G_Hall_init.binds (ps:=["self"]) (by intro _ _ _ _ _ _;(repeat refine zB fun _=>?_);exact z6 rfl))⟩;have ba:av l.prog w K mg base dB c.C "dress" 1 ["self","guest","mask"] (ik c.C):=kh fh fun _ _ h=>gy T U VM h
  have bL:av l.prog w K mg base (eY l.prog w) c.C "come" 2 ["self","guest"] (j6 c):=kh fZ fun _ _ h=>hZ T U VM h ba;have NG:fD l.prog w K mg base c:=⟨eZ,eN2▸e7 T U VM G_NoGuest_init ,(G_NoGuest_init.binds (ps:=["self","guest"]) (by intro _ _ _ _ _ _;(repeat refine zB fun _=>?_);exact z6 rfl))⟩;have aB:av l.prog w K mg base (eY l.prog w) c.C "wears" 3 ["self","guest"] (fA c):=kh fk fun _ _ h=>gA T U VM h NG;have cE:av l.prog w K mg base (eY l.prog w) c.C "go" 4 ["self","guest"] (vE c):=kh jk fun _ _ h=>jV T U VM h aB;have dO:av l.prog w K mg base dB c.C "met" 1 ["self","one","other"] (qA c.C):=kh gZ fun _ _ h=>iW T U VM h;have bv:av l.prog w K mg base dB c.C "acquaint" 1 ["self","one","other"] (qz c.C):=kh dG fun _ _ h=>eD T U VM h;have a7:av l.prog w K mg base (eY l.prog w) c.C "exchange" 4 ["self","one","other"] (j7 c):=kh dH fun _ _ h=>eE T U VM h aB dO ba bv;have nJ:dI l.prog w K mg base "_law_do" 5 ["_law_hall","_law_deed_here"] (r0 c):=CZ X G sy fun _ _ h=>xK T U VM h bL cE a7;have gj:aK l.prog w K mg base "_law_hall_of" 7 ["_law_story"] (kT c):=rm X G jE fun _ _ h=>oW T U VM h MH nJ;have eO:av l.prog w K mg base dB c.C "guests" 1 ["self"] (kS c.C):=kh jB fun _ _ h=>oS T U VM h;have bX:av l.prog w K mg base dB c.C "inside" 1 ["self","guest"] (gW c.C):=kh eL fun _ _ h=>fL T U VM h;have de:av l.prog w K mg base dB c.C "story" 1 ["self"] (ju c.C):=kh fj fun _ _ h=>gz T U VM h;have Cdo_deed:dI l.prog w K mg base "do_deed" 5 ["hall","deed"] (r0 c):=CZ X G jl fun _ _ h=>jW T U VM h bL cE a7
  have eP:av l.prog w K mg base (eY l.prog w) c.C "wearer" 3 ["self","mask"] (i7 c):=kh gm fun _ _ h=>iX T U VM h NG
  have qL:∀ (b:Heap)(fl c1 cy:Addr)(vy:V)(pm ct:Value),Mod K mg b->km b bi (sR (bF aO)) (sS (bF aO)) (sU (bF aO)) "mask" vy fl c1 cy pm ct->aW l.prog w K mg b (eY l.prog w) 7 f_walk_since jF ["hall","guest","ask"] (lL c (·.hold) bi fl c1 vy):=by
   intro b fl c1 cy vy pm ct md lm;have MH:BQ l.prog w K mg b c:=⟨f_Hall_init,hU,⟨mk,a_Hall_init,i_Hall_init,kc⟩,ic T U VM G_Hall_init ,(G_Hall_init.binds (ps:=["self"]) (by intro _ _ _ _ _ _;(repeat refine zB fun _=>?_);exact z6 rfl))⟩;have ba:av l.prog w K mg b dB c.C "dress" 1 ["self","guest","mask"] (ik c.C):=kh fh fun _ _ h=>gy T U VM h;have bL:av l.prog w K mg b (eY l.prog w) c.C "come" 2 ["self","guest"] (j6 c):=kh fZ fun _ _ h=>hZ T U VM h ba;have NG:fD l.prog w K mg b c:=⟨eZ,eN2▸e7 T U VM G_NoGuest_init ,(G_NoGuest_init.binds (ps:=["self","guest"]) (by intro _ _ _ _ _ _;(repeat refine zB fun _=>?_);exact z6 rfl))⟩;have aB:av l.prog w K mg b (eY l.prog w) c.C "wears" 3 ["self","guest"] (fA c):=kh fk fun _ _ h=>gA T U VM h NG;have cE:av l.prog w K mg b (eY l.prog w) c.C "go" 4 ["self","guest"] (vE c):=kh jk fun _ _ h=>jV T U VM h aB;have dO:av l.prog w K mg b dB c.C "met" 1 ["self","one","other"] (qA c.C):=kh gZ fun _ _ h=>iW T U VM h;have bv:av l.prog w K mg b dB c.C "acquaint" 1 ["self","one","other"] (qz c.C):=kh dG fun _ _ h=>eD T U VM h;have a7:av l.prog w K mg b (eY l.prog w) c.C "exchange" 4 ["self","one","other"] (j7 c):=kh dH fun _ _ h=>eE T U VM h aB dO ba bv;have bX:av l.prog w K mg b dB c.C "inside" 1 ["self","guest"] (gW c.C):=kh eL fun _ _ h=>fL T U VM h;have de:av l.prog w K mg b dB c.C "story" 1 ["self"] (ju c.C):=kh fj fun _ _ h=>gz T U VM h;have Cdo_deed:dI l.prog w K mg b "do_deed" 5 ["hall","deed"] (r0 c):=CZ X G jl fun _ _ h=>jW T U VM h bL cE a7;have eP:av l.prog w K mg b (eY l.prog w) c.C "wearer" 3 ["self","mask"] (i7 c):=kh gm fun _ _ h=>iX T U VM h NG
   exact jI T U VM G_walk_since bX NG MH de Cdo_deed (fun st g G h=>wj G h) (fun g hv=>by subst hv;exact lE T U VM eP lm) lm.ob rfl (fun s us hl=>match us,hl with | [_],_=>.of_eq rfl)
  have Cmask_walk:dI l.prog w K mg base "mask_walk" 8 ["hall","mask"] (io c (·.hold) P0 dZ bi):=by
   obtain⟨f9,fd9,a9,g9⟩:=l8;exact⟨f9,fd9,rJ T U VM g9 (uj htab a9 g9) CK BK (Fc X G a_walk_since) G_walk_since.kp (G_walk_since.binds (ps:=["hall","guest","ask"]) fun _ _ _ _ _ _ us hl=>match us,hl with | [_,_,_],_=>rfl) qL,Fc X G a9,g9.kp,g9.binds (ps:=["hall","mask"]) fun _ _ _ _ _ _ us hl=>match us,hl with | [_,_],_=>rfl⟩
  have qK:∀ (b:Heap)(fl c1 cy:Addr)(vy:V)(pm ct:Value),Mod K mg b->km b bh (sR (bF aN)) (sS (bF aN)) (sU (bF aN)) "guest" vy fl c1 cy pm ct->aW l.prog w K mg b (eY l.prog w) 7 f_walk_since jF ["hall","guest","ask"] (lL c (·.worn) bh fl c1 vy):=by
   intro b fl c1 cy vy pm ct md lm;have MH:BQ l.prog w K mg b c:=⟨f_Hall_init,hU,⟨mk,a_Hall_init,i_Hall_init,kc⟩,ic T U VM G_Hall_init ,(G_Hall_init.binds (ps:=["self"]) (by intro _ _ _ _ _ _;(repeat refine zB fun _=>?_);exact z6 rfl))⟩;have ba:av l.prog w K mg b dB c.C "dress" 1 ["self","guest","mask"] (ik c.C):=kh fh fun _ _ h=>gy T U VM h;have bL:av l.prog w K mg b (eY l.prog w) c.C "come" 2 ["self","guest"] (j6 c):=kh fZ fun _ _ h=>hZ T U VM h ba;have NG:fD l.prog w K mg b c:=⟨eZ,eN2▸e7 T U VM G_NoGuest_init ,(G_NoGuest_init.binds (ps:=["self","guest"]) (by intro _ _ _ _ _ _;(repeat refine zB fun _=>?_);exact z6 rfl))⟩;have aB:av l.prog w K mg b (eY l.prog w) c.C "wears" 3 ["self","guest"] (fA c):=kh fk fun _ _ h=>gA T U VM h NG;have cE:av l.prog w K mg b (eY l.prog w) c.C "go" 4 ["self","guest"] (vE c):=kh jk fun _ _ h=>jV T U VM h aB;have dO:av l.prog w K mg b dB c.C "met" 1 ["self","one","other"] (qA c.C):=kh gZ fun _ _ h=>iW T U VM h;have bv:av l.prog w K mg b dB c.C "acquaint" 1 ["self","one","other"] (qz c.C):=kh dG fun _ _ h=>eD T U VM h;have a7:av l.prog w K mg b (eY l.prog w) c.C "exchange" 4 ["self","one","other"] (j7 c):=kh dH fun _ _ h=>eE T U VM h aB dO ba bv;have bX:av l.prog w K mg b dB c.C "inside" 1 ["self","guest"] (gW c.C):=kh eL fun _ _ h=>fL T U VM h;have de:av l.prog w K mg b dB c.C "story" 1 ["self"] (ju c.C):=kh fj fun _ _ h=>gz T U VM h;have Cdo_deed:dI l.prog w K mg b "do_deed" 5 ["hall","deed"] (r0 c):=CZ X G jl fun _ _ h=>jW T U VM h bL cE a7;exact jI T U VM G_walk_since bX NG MH de Cdo_deed (fun st g G h=>h) (fun g hv=>by subst hv;exact lD T U VM aB lm) lm.ob rfl (fun s us hl=>match us,hl with | [_],_=>.of_eq rfl)
  have Cface_walk:dI l.prog w K mg base "face_walk" 8 ["hall","guest"] (io c (·.worn) P1 dY bh):=by
   obtain⟨f9,fd9,a9,g9⟩:=lU;exact⟨f9,fd9,rB T U VM g9 (uj htab1 a9 g9) CK1 BK (Fc X G a_walk_since) G_walk_since.kp (G_walk_since.binds (ps:=["hall","guest","ask"]) fun _ _ _ _ _ _ us hl=>match us,hl with | [_,_,_],_=>rfl) qK,Fc X G a9,g9.kp,g9.binds (ps:=["hall","guest"]) fun _ _ _ _ _ _ us hl=>match us,hl with | [_,_],_=>rfl⟩
  have fY:aK l.prog w K mg base "_law_whole" 1 ["_law_found"] nz:=rm X G l7 fun _ _ h=>rH T U VM h;have jN:aK l.prog w K mg base "_law_pair" 2 ["_law_found"] ny:=rm X G nL fun _ _ h=>tR T U VM h fY;have jj:aK l.prog w K mg base "_law_row" 3 ["_law_found"] se:=rm X G p6 fun _ _ h=>vm T U VM h jN;have dN:aK l.prog w K mg base "_law_by_the_story" 2 ["_law_walk","_law_mask","_law_story"] rY:=rm X G fC fun _ _ h=>jz T U VM h;have dF:aK l.prog w K mg base "_law_stretches" 1 ["_law_walk","_law_last"] wK:=rm X G iD fun _ _ h=>lF T U VM h;have gY:aK l.prog w K mg base "_law_seen" 1 ["_law_stretches_here","_law_came"] sh:=rm X G nN fun _ _ h=>tS T U VM h;exact Bi T U VM G_law gi gj eO Cmask_walk Cface_walk jj dN dF gY aB
theorem walk {l:PySem.W.OpenLaw}{q:Program}{loose:List Str}{XP:(Str->Option Value)->Heap->Prop}{YP:World->Heap->Prop}{d:DefRec}{K:Params->PySem.W.Frag}{c0 P0 c9 P1:Addr}(hne:P0≠P1)(hn:l.most=some 63)(hdf:d.params.defaults=[])
  (hY:∀ (w:World)(h:Heap),YP w h->(K w.params).In h)
  (hTY:∀ (w:World)(h:Heap),YP w h->h.get? P0=some (PySem.W.tabObj #[])) (hTY1:∀ (w:World)(h:Heap),YP w h->h.get? P1=some (PySem.W.tabObj #[])) (hch:∀ w:World,PySem.W.codeHdIn (K w.params) c0 P0=true) (hch1:∀ w:World,PySem.W.codeHdIn (K w.params) c9 P1=true) (htab:∀ w:World,PySem.W.tabIn (K w.params) "mask_walk" = some (c0,P0)) (htab1:∀ w:World,PySem.W.tabIn (K w.params) "face_walk" = some (c9,P1)) (hnt:∀ w:World,PySem.W.noTabs (K w.params)=true)
  (F:∀ (w:World)(mg:Str->Option Value)(fa:Addr)(h:Heap),(K w.params).In h->h.Ns mainGlobals mg->mg d.name=some (.ref fa)->iC (K w.params) c0 P0->PySem.W.tabIn (K w.params) "mask_walk" = some (c0,P0)->iC (K w.params) c9 P1->PySem.W.tabIn (K w.params) "face_walk" = some (c9,P1) ->
   ∃ fd:FuncData,(∀ (s:Shared)(u:Value),BindsTo s fd ⟨[u],[]⟩ [("_law_script",u)])/\∀ base:Heap,(K w.params).In base->base.Ns mainGlobals mg->pI mg base->aW l.prog w (K w.params) mg base dB 10 fa fd ["_law_script"] (kU (K w.params) P0 P1)) :
  PySem.W.WalkO q loose XP YP l.row.toRowW d [] (fun f vs=>PySem.call f vs) :=
 L2.walk_ofL (n:=63) (k:=10) (x:="_law_script") (tabs:=[(("mask_walk" : Str),c0,P0),(("face_walk" : Str),c9,P1)]) (CX:=fun _=>dB) (sp:=fun w=>kU (K w.params) P0 P1) hn (by decide) hdf ⟨rfl,by decide,by decide⟩ hY (fun w h Y=>vI (hTY w h Y) (hTY1 w h Y)) (fun w=>vI (hch w) (hch1 w)) (fun w=>vI (htab w) (htab1 w)) hnt
  (fun w mg fa h X G hm A=>have a0:=A _ Ep;have a1:=A _ (Ek _ Ep);F w mg fa h X G hm a0.1 a0.2 a1.1 a1.2) (fun _ _ a ns hl hT hS=>⟨a,ns,rfl,hS,hl,hT _ Ep,hT _ (Ek _ Ep),hne,fun _=>rfl⟩) fun _ _ _ _ _ z=>z
end Wk55
namespace PySem.W.Fast
def tw7351021675491778338:=0
def tw5699170045363883128:=0
def tw4580533114140238294:=0
def tw8691175540270411305:=0
def tw12244241353662913117:=0
def tw1937729800625599439:=0
def tw8680425852351132347:=0
def tw5304735932521330178:=0
def tw10377186436736835983:=0
def tw8644667840202098115:=0
def tw16901479279878858996:=0
def tw4292886663558326539:=0
def tw15037591970190010091:=0
def tw17322015313847269765:=0
def tw966694094426154657:=0
def tw8691640487192000360:=0
def tw11464104250556353321:=0
def tw78882472312500341:=0
def tw2313833548400902226:=0
def tw13453249214538435499:=0
def tw7425987951742858179:=0
def tw12181649492768387680:=0
def tw2618315786092622873:=0
def tw7730618077861658454:=0
def tw17017730098751934445:=0
def tw17411869682119956641:=0
def tw7220182030909086419:=0
def tw2335712228971859573:=0
def tw658060484093026706:=0
def tw12815917666128998238:=0
def tw16190875330750446854:=0
def tw1340293242770481696:=0
def tw4510351499265528701:=0
def tw11485862535239216964:=0
def tw1575744828369973698:=0
def tw5747706653427017445:=0
def tw7901883030181104825:=0
def tw6833347391110698314:=0
def tw1511978733543246138:=0
def tw16815702450399568765:=0
def tw15160158182165214442:=0
def tw16881036156028625165:=0
def tw7106701432017554725:=0
def tw6718000581453075617:=0
def tw890462148815802342:=0
def tw9783985403840889128:=0
def tw11701650386166406729:=0
def tw12623763514698307365:=0
def tw1970317093781636362:=0
def tw13582282357017765620:=0
def tw10493413192360602944:=0
def tw3665971457908542291:=0
def tw2759194250521467759:=0
def tw8610821715303781879:=0
def tw2432071683699463071:=0
def tw6597796270115754376:=0
def tw6204382988606495387:=0
def tw15722645705705609358:=0
def tw8641360897549927065:=0
def tw4207164049344647715:=0
def tw9109880965411093388:=0
def tw16540750852577973426:=0
def tw12119572345558896019:=0
def tw4584076989164993694:=0
def tw13801426914859874061:=0
def tw4819207514889791420:=0
def tw2801735283958049272:=0
def tw17868456257749966398:=0
def tw12886840628986901497:=0
def tw12312027427802279327:=0
def tw16686822863704498172:=0
def tw11443809379469626728:=0
def tw6951897611034593815:=0
def tw6968969207669234088:=0
def tw13164295829479771756:=0
def tw7542481640622130728:=0
def tw4003316288287677010:=0
def tw7165864622028935447:=0
def tw9941784134603749724:=0
def tw2342747607094171321:=0
def tw10787875084012510112:=0
def tw5627970493441386656:=0
def tw12146806137631621163:=0
def tw221812118321623452:=0
def tw3203428394131447693:=0
def tw12639085136723269726:=0
def tw1126125894555931350:=0
def tw10644802297803627565:=0
def tw18403979025443432629:=0
def tw16940125953679418389:=0
def tw13762099227626039035:=0
def tw8830516580044640812:=0
def tw12030285816590734471:=0
def tw13060939221688114103:=0
def tw17572050674762820201:=0
def tw1759444472720423427:=0
def tw17421880115942641740:=0
def tw69805113500032459:=0
def tw4766376830638741016:=0
def tw13743138567701690184:=0
def tw2555974134671635574:=0
def tw5885570673492628780:=0
def tw2183906359468271606:=0
def tw17200995415811541592:=0
def tw1363528257188280413:=0
def tw2596064825624929896:=0
def tw2475803295277104188:=0
def tw11855628325723420101:=0
def tw4842321832014486396:=0
def tw1968907464930260004:=0
def tw5444416209584796189:=0
def tw9185003599575687821:=0
def tw9722334696370570450:=0
def tw10738391843285132613:=0
def tw11032358468296330761:=0
def tw7883825372539376867:=0
def tw4402207080489550651:=0
def tw1058995129076111636:=0
def tw13714231050623209818:=0
def tw8869286641110223758:=0
def tw4471019228235844063:=0
def tw13263235633568019693:=0
def tw2963004161254437397:=0
def tw4280092297831691588:=0
def tw15394504243598094147:=0
def tw6792769193121187489:=0
def tw4680279926870832481:=0
def tw8144248153142339582:=0
def tw10337487801102707901:=0
def tw7749197368832597521:=0
def tw2573727415135916932:=0
def tw12707710201243250261:=0
def tw5439348200938848203:=0
def tw1759975897017804352:=0
def tw17569947235805627108:=0
def tw17773982435587413052:=0
def tw14853914721664315807:=0
def tw15542303343988344362:=0
def tw8516969709623036328:=0
def tw707069087870259885:=0
def tw8400721159896712143:=0
def tw14823769331537907099:=0
def tw603274837006663169:=0
def tw7624550027574880015:=0
def tw2914545331894948842:=0
def tw2802354057614811538:=0
def tw13354891848581493923:=0
def tw11002280549453125541:=0
def tw6293905044187556139:=0
def tw7404861672403504981:=0
def tw11472536777998496649:=0
def tw10692390221342379086:=0
def tw10681526260055708688:=0
def tw11734641060346446739:=0
def tw7031896274930147956:=0
def tw14672753262066281037:=0
def tw2004053064058145030:=0
def tw8784116631624549690:=0
def tw16934487203872445421:=0
def tw5366049209027757356:=0
def tw12079300620484101548:=0
def tw5331710217789169868:=0
def tw7533627781564473246:=0
def tw3413542302465264602:=0
def tw13744143133063064728:=0
def tw13405889455969458093:=0
def tw10799755051722279949:=0
def tw13304169630039315157:=0
def tw3356866384791230064:=0
def tw1463383862314264787:=0
def tw11810977395356148084:=0
def tw8232878840665264876:=0
def tw5917412923608554089:=0
def tw9270973922039523012:=0
def tw1513662154661153020:=0
def tw9025375598013316079:=0
def tw10863310376606567506:=0
def tw10108278895076300028:=0
def tw4395422075656104034:=0
def tw6137405137855113446:=0
def tw10332644248573088868:=0
def tw575596895958397837:=0
def tw4701326189842965320:=0
def tw11461647718006881261:=0
def tw10404760472169645859:=0
def tw7774550773494167565:=0
def tw3735099251972222101:=0
def tw10096192814813580551:=0
def tw17132754434114776443:=0
def tw18406155757862586612:=0
def tw889178833192097405:=0
def tw12398144206928749182:=0
def tw5618140842239455169:=0
def tw13829788241435812322:=0
def tw7877946736012157863:=0
def tw4734444437331962823:=0
def tw10598211336441125774:=0
def tw15040307782099441061:=0
def tw9625370085250890692:=0
def tw16406549236008224090:=0
def tw6702991326381205985:=0
def tw356592505223121169:=0
def tw16263339047565048368:=0
def tw18028025473814952166:=0
def tw7197281863123189486:=0
def tw10486643463792246164:=0
def tw16992546768685393668:=0
def tw2269404253740168077:=0
def tw748097719020085815:=0
def tw4154751724140928886:=0
def tw11314340190318012515:=0
def tw3444979259536276568:=0
def tw11493995778716421947:=0
def tw11911395294391024528:=0
def tw9041486156334953877:=0
def tw471405891851936256:=0
def tw6294071165204544763:=0
def tw15218093626163575498:=0
def tw8665279600462815276:=0
def tw4047923669335892426:=0
def tw14666381493481042140:=0
def tw141894298065035777:=0
def tw15955327540619923459:=0
def tw333770694722555304:=0
def tw9235575755938152562:=0
def tw14322160222600161836:=0
def tw7783605569049725791:=0
def tw14110448746276519291:=0
def tw12005716034040383250:=0
def tw14891139848932331359:=0
def tw929488877050145498:=0
def tw3649039494841006053:=0
def tw7385688364632773786:=0
def tw3203002235675602495:=0
def tw898800443504927509:=0
def tw14164982018477784417:=0
def tw195770712805641712:=0
def tw5470445664654684688:=0
end PySem.W.Fast
open PySem PySem.W PyProof.Rows
set_option maxRecDepth 100000 in
set_option maxHeartbeats 0 in
theorem PySem.Challenge.cw_lastwaltz_k55_whole_masks_walk_apart_holds : PySem.Challenge.rw_lastwaltz_k55_whole_masks_walk_apart.Holds := by
 w_on;o_law;k_head;(case hw=>w_witness2)
 k_fill
 refine Wk55.walk (l:=PySem.Challenge.rw_lastwaltz_k55_whole_masks_walk_apart) (c0:=247) (P0:=243) (c9:=254) (P1:=250) (by decide) rfl rfl (fun w h Y=>PySem.W.km_in_of Y) (fun w h Y=>PySem.W.km_tabs_of Y _ (Ek _ Ep)) (fun w h Y=>PySem.W.km_tabs_of Y _ (Ep)) (fun w=>by kernel_rfl) (fun w=>by kernel_rfl) (fun w=>by kernel_rfl) (fun w=>by kernel_rfl) (fun w=>by kernel_rfl) ?F
 case F =>
  intro w mg fa h KX G hmg CK htab CK1 htab1;refine' Wk55.all_mk2 KX G hmg CK htab CK1 htab1 ?aC ?n_cW ?n_cA ?n_cM ?n_cS ?n_cT ?n_cN ?b_cN ?pg ?hd ?po ?sa ?wz ?oP ?oO ?tM ?e_cA ?e_cM ?e_cS ?e_cT ?e_cN ?g1 ?g2 ?g3 ?g4 ?g5 ?g6 ?g7 ?g8 ?tN ?wS ?wR ?wI ?x_aa ?x_ma ?x_mm ?x_sa ?x_sm ?x_ss ?x_ta ?x_tm ?x_ts ?x_tt ?x_na ?x_nm ?x_ns ?x_nt ?x_nn ?mk ?kc ?jC ?lX ?nO ?l0 ?nK ?lZ ?gJ ?lY ?p3 ?pZ ?lV ?jD ?lT ?fh ?fZ ?iO ?fk ?jk ?gZ ?dG ?dH ?sy ?jE ?jB ?eL ?fj ?jl ?kj ?gm ?l8 ?lU ?l7 ?nL ?p6 ?fC ?iD ?nN ?Aw ?AN ?wW ?kY ?wX ?zw ?AM ?zu ?AK ?AL ?uv ?pG ?AR ?AQ ?AO ?zv ?AU ?mK ?AT ?AS
  (case aC=>k_is)
  (case n_cW=>k_is)
  (case n_cA=>k_is)
  (case n_cM=>k_is)
  (case n_cS=>k_is)
  (case n_cT=>k_is)
  (case n_cN=>k_is)
  (case b_cN=>k_is)
  (case e_cA=>kernel_rfl)
  (case e_cM=>kernel_rfl)
  (case e_cS=>kernel_rfl)
  (case e_cT=>kernel_rfl)
  (case e_cN=>kernel_rfl)
  (case g8=>kernel_rfl)
  (case x_aa=>kernel_rfl)
  (case x_ma=>kernel_rfl)
  (case x_mm=>kernel_rfl)
  (case x_sa=>kernel_rfl)
  (case x_sm=>kernel_rfl)
  (case x_ss=>kernel_rfl)
  (case x_ta=>kernel_rfl)
  (case x_tm=>kernel_rfl)
  (case x_ts=>kernel_rfl)
  (case x_tt=>kernel_rfl)
  (case x_na=>kernel_rfl)
  (case x_nm=>kernel_rfl)
  (case x_ns=>kernel_rfl)
  (case x_nt=>kernel_rfl)
  (case x_nn=>kernel_rfl)
  all_goals first | (refine' Wz.fact_mk ?a ?l ?c ?k;(case a=>k_is);(case l=>k_is);(case c=>k_is);(case k=>k_is)) | (refine' Wz.mfact_mk ?a ?i ?l ?c ?k;(case a=>k_is);(case i=>k_is);(case l=>k_is);(case c=>k_is);(case k=>k_is)) | k_is
