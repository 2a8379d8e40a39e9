import PyProof.Rows.All
import Wide.All
import OpenK.AllK
import Wide.FinOn
import Lean
import PyProof.EqAt
import PyProof.EqKinds
import PyProof.TupleCall
import PyProof.NeData
import PyProof.DictItems
import PyProof.JoinWalk
import PyProof.CallStr
import OpenK.KOwn
import KE.KTryMore
import PyProof.EnumMake
import KE.KLam
import KE.KNestM
import KE.KEqDict
import PyProof.Conv_int
import PyProof.StrWalks
import PyProof.StrCalls2
import PyProof.StrLawsIn
import PySem.Challenge.RW_lastwaltz_k50_the_desk
set_option Elab.async false
set_option linter.all false
set_option maxRecDepth 100000
set_option maxHeartbeats 4000000
theorem Iq:type_of% @List.length_map:=@List.length_map
theorem Ir:type_of% @if_neg:=@if_neg
theorem Iu:type_of% @if_pos:=@if_pos
theorem Iv:type_of% @PySem.wpAny_bind:=@PySem.wpAny_bind
theorem Iw:type_of% @PySem.Heap.get?_push_of_some:=@PySem.Heap.get?_push_of_some
theorem Ix:type_of% @Nat.le_refl:=@Nat.le_refl
theorem Iy:type_of% @List.mem_cons_of_mem:=@List.mem_cons_of_mem
theorem Iz:type_of% @Bool.false_ne_true:=@Bool.false_ne_true
theorem IA:type_of% @Option.some.inj:=@Option.some.inj
theorem IB:type_of% @List.mem_cons_self:=@List.mem_cons_self
theorem IC:type_of% @List.mem_cons:=@List.mem_cons
theorem ID:type_of% @decide_eq_true:=@decide_eq_true
theorem IE:type_of% @decide_eq_false:=@decide_eq_false
theorem IF:type_of% @List.mem_singleton:=@List.mem_singleton
theorem IG:type_of% @List.getElem?_eq_some_iff:=@List.getElem?_eq_some_iff
theorem II:type_of% @PySem.Heap.lt_size:=@PySem.Heap.lt_size
theorem IJ:type_of% @Ne.symm:=@Ne.symm
theorem IK:type_of% @List.length_append:=@List.length_append
theorem IM:type_of% @List.getElem?_eq_getElem:=@List.getElem?_eq_getElem
theorem IN:type_of% @List.mem_append:=@List.mem_append
theorem IP:type_of% @PySem.wpAny_pure:=@PySem.wpAny_pure
theorem IQ:type_of% @List.map_append:=@List.map_append
theorem IR:type_of% @List.map_cons:=@List.map_cons
theorem IS:type_of% @List.size_toArray:=@List.size_toArray
theorem IT:type_of% @Nat.lt_of_lt_of_le:=@Nat.lt_of_lt_of_le
theorem IU:type_of% @PySem.Paired.length:=@PySem.Paired.length
theorem IV:type_of% @PySem.Heap.get?_push_size:=@PySem.Heap.get?_push_size
theorem IW:type_of% @Nat.ne_of_lt:=@Nat.ne_of_lt
theorem IX:type_of% @List.length_cons:=@List.length_cons
theorem IY:type_of% @Nat.le_trans:=@Nat.le_trans
theorem IZ:type_of% @PySem.W.mg_none_of:=@PySem.W.mg_none_of
theorem I0:type_of% @PySem.W.mg_of:=@PySem.W.mg_of
theorem Ja:type_of% @PySem.F.slot_list_append:=@PySem.F.slot_list_append
theorem Jb:type_of% @PySem.F.type_list_append:=@PySem.F.type_list_append
theorem Jc:type_of% @List.mem_of_getElem?:=@List.mem_of_getElem?
theorem Jd:type_of% @PySem.F.plainAttrs_list:=@PySem.F.plainAttrs_list
theorem Je:type_of% @List.mem_append_right:=@List.mem_append_right
theorem Jf:type_of% @List.mem_map:=@List.mem_map
theorem Jg:type_of% @Nat.zero_le:=@Nat.zero_le
theorem Ji:type_of% @List.getElem?_map:=@List.getElem?_map
theorem Jj:type_of% @Array.length_toList:=@Array.length_toList
theorem Jk:type_of% @List.nodup_cons:=@List.nodup_cons
theorem Jm:type_of% @List.length_take:=@List.length_take
theorem Jn:type_of% @Option.isSome_iff_exists:=@Option.isSome_iff_exists
theorem Jo:type_of% @List.map_map:=@List.map_map
theorem Jp:type_of% @List.take_length:=@List.take_length
theorem Jq:type_of% @of_decide_eq_true:=@of_decide_eq_true
theorem Jr:type_of% @List.take_add_one:=@List.take_add_one
theorem Js:type_of% @Option.toList_some:=@Option.toList_some
theorem Jt:type_of% @List.lookup_cons:=@List.lookup_cons
theorem Ju:type_of% @List.all_eq_true:=@List.all_eq_true
theorem Jv:type_of% @PySem.wpAny_mono:=@PySem.wpAny_mono
theorem Jw:type_of% @Int.emod_lt_of_pos:=@Int.emod_lt_of_pos
theorem Jx:type_of% @PySem.W.kia_one:=@PySem.W.kia_one
theorem Jy:type_of% @PySem.PassesOwn.never:=@PySem.PassesOwn.never
theorem Jz:type_of% @PySem.Calls.spliced_cons:=@PySem.Calls.spliced_cons
theorem JA:type_of% @List.map_congr_left:=@List.map_congr_left
theorem JB:type_of% @Int.emod_nonneg:=@Int.emod_nonneg
theorem JC:type_of% @PyProof.Rows.boot_str:=@PyProof.Rows.boot_str
theorem JD:type_of% @Bool.and_eq_true:=@Bool.and_eq_true
theorem JE:type_of% @List.mem_range:=@List.mem_range
theorem JF:type_of% @PySem.Calls.evalArgs_plain:=@PySem.Calls.evalArgs_plain
theorem JG:type_of% @PySem.wpAny_truthy_bool:=@PySem.wpAny_truthy_bool
theorem JH:type_of% @PySem.wpAny_newObj_type:=@PySem.wpAny_newObj_type
theorem JI:type_of% @beq_eq_false_iff_ne:=@beq_eq_false_iff_ne
theorem JJ:type_of% @PySem.Heap.get?_update_other:=@PySem.Heap.get?_update_other
theorem JK:type_of% @List.take_of_length_le:=@List.take_of_length_le
theorem JL:type_of% @List.any_cons:=@List.any_cons
theorem JM:type_of% @List.filter_cons:=@List.filter_cons
theorem JN:type_of% @PySem.wpAny_Call_Name_kw:=@PySem.wpAny_Call_Name_kw
theorem JO:type_of% @List.length_filter_le:=@List.length_filter_le
theorem JP:type_of% @List.zip_cons_cons:=@List.zip_cons_cons
theorem JQ:type_of% @PySem.sizeLine_eq:=@PySem.sizeLine_eq
theorem JR:type_of% @PySem.Calls.spliced_nil:=@PySem.Calls.spliced_nil
theorem JS:type_of% @PySem.mem_of_lookup:=@PySem.mem_of_lookup
theorem JT:type_of% @List.getElem?_range:=@List.getElem?_range
theorem JU:type_of% @PySem.boot_len:=@PySem.boot_len
theorem JV:type_of% @PySem.Calls.callWith_builtin:=@PySem.Calls.callWith_builtin
theorem JW:type_of% @List.filter_append:=@List.filter_append
theorem JX:type_of% @PySem.wpAny_passesOwn:=@PySem.wpAny_passesOwn
theorem JY:type_of% @List.length_singleton:=@List.length_singleton
theorem JZ:type_of% @List.find?_cons:=@List.find?_cons
theorem J0:type_of% @PySem.F.slot_dict_get:=@PySem.F.slot_dict_get
theorem J3:type_of% @congrArg:=@congrArg
theorem J4:type_of% @Array.getElem?_eq_some_iff:=@Array.getElem?_eq_some_iff
theorem J5:type_of% @PySem.F.excBase_ValueError:=@PySem.F.excBase_ValueError
theorem J6:type_of% @Classical.byContradiction:=@Classical.byContradiction
theorem J8:type_of% @List.not_mem_nil:=@List.not_mem_nil
theorem J9:type_of% @List.getElem_of_mem:=@List.getElem_of_mem
theorem Ka:type_of% @beq_iff_eq:=@beq_iff_eq
theorem Kb:type_of% @List.append_nil:=@List.append_nil
theorem Kc:type_of% @PySem.tupleKind_room_in1:=@PySem.tupleKind_room_in1
theorem Kd:type_of% @Nat.lt_of_le_of_lt:=@Nat.lt_of_le_of_lt
theorem Ke:type_of% @PySem.wpAny_field:=@PySem.wpAny_field
theorem Kf:type_of% @PySem.wpAny_loadPart_at:=@PySem.wpAny_loadPart_at
theorem Kg:type_of% @List.length_range:=@List.length_range
theorem Kh:type_of% @List.nodup_nil:=@List.nodup_nil
namespace L2
open PySem PySem.Spec PyProof.Rows
abbrev ca:=Sum Int Str
def sO:ca->Value->Bool
 | .inl k,v=>Value.isInt k v
 | .inr x,v=>Value.isStrOf x v
def GO (w:World):ca->Int
 | .inl k=>hashInt k
 | .inr x=>hashStr w x
theorem bI:∀ {k:ca}{v:Value},sO k v=true->(∃ i t,k=Sum.inl i/\v=Value.int i t)\/(∃ x t,k=Sum.inr x/\v=Value.str x t)
 | .inl i,v,h=>by
  obtain⟨t,e⟩:=Value.isInt_shape (k:=i) (v:=v) h;exact .inl ⟨i,t,rfl,e⟩
 | .inr x,v,h=>by
  obtain⟨t,e⟩:=Value.isStrOf_shape (x:=x) (v:=v) h;exact .inr ⟨x,t,rfl,e⟩
theorem zv (i:Int)(t:Tok):sO (.inl i) (.int i t)=true:=by simp[sO,Value.isInt]
theorem zw (x:Str)(t:Tok):sO (.inr x) (.str x t)=true:=by simp[sO,Value.isStrOf]
theorem Ei (a b:Int):decide ((Sum.inl a:ca)=Sum.inl b)=(a == b):=by
 by_cases e:a=b
 ·subst e;simp
 ·have h:¬ (Sum.inl a:ca)=Sum.inl b:=fun q=>e (Sum.inl.inj q)
  rw[IE h];exact (JI.mpr e).symm
theorem El (a b:Str):decide ((Sum.inr a:ca)=Sum.inr b)=decide (a=b):=by
 by_cases e:a=b
 ·subst e;simp
 ·have h:¬ (Sum.inr a:ca)=Sum.inr b:=fun q=>e (Sum.inr.inj q)
  rw[IE h,IE e]
theorem Ej (a:Int)(b:Str):decide ((Sum.inl a:ca)=Sum.inr b)=false:=IE (fun q=>nomatch q)
theorem Ek (a:Str)(b:Int):decide ((Sum.inr a:ca)=Sum.inl b)=false:=IE (fun q=>nomatch q)
def bt (prog:Program)(w:World):PySem.KeyKind prog w ca where
 is:=sO
 hash:=GO w
 inj:=fun v a b ha hb=>by
  rcases bI ha with ⟨i,t,rfl,rfl⟩ | ⟨x,t,rfl,rfl⟩
  ·rcases bI hb with ⟨j,u,rfl,e⟩ | ⟨y,u,rfl,e⟩
   ·injection e with e1 _;rw[e1]
   ·exact nomatch e
  ·rcases bI hb with ⟨j,u,rfl,e⟩ | ⟨y,u,rfl,e⟩
   ·exact nomatch e
   ·injection e with e1 _;rw[e1]
 byValue:=fun k v h=>by
  rcases bI h with ⟨i,t,rfl,rfl⟩ | ⟨x,t,rfl,rfl⟩<;>rfl
 pyHash:=fun hv h=>by
  rcases bI hv with ⟨i,t,rfl,rfl⟩ | ⟨x,t,rfl,rfl⟩
  ·exact wpAny_pyHash_int h
  ·exact wpAny_pyHash_str h
 eqBool:=fun hu hv h=>by
  rcases bI hu with ⟨i,t,rfl,rfl⟩ | ⟨x,t,rfl,rfl⟩
  ·rcases bI hv with ⟨j,u,rfl,rfl⟩ | ⟨y,u,rfl,rfl⟩
   ·rw[Ei]at h;exact wpAny_eqBool_int h
   ·rw[Ej]at h;exact SeqAt.EqAt.int_str i t y u _ _ _ _ h
  ·rcases bI hv with ⟨j,u,rfl,rfl⟩ | ⟨y,u,rfl,rfl⟩
   ·rw[Ek]at h;exact SeqAt.EqAt.str_int x t j u _ _ _ _ h
   ·rw[El]at h;exact wpAny_eqBool_str h
 «strs»:=fun k x t v h=>by
  rcases bI h with ⟨i,u,rfl,e⟩ | ⟨y,u,rfl,e⟩
  ·exact nomatch e
  ·injection e with e1 _
   subst e1;cases v<;>rfl
theorem vD (prog:Program)(w:World)(i:Int)(t:Tok):(bt prog w).is (.inl i) (.int i t)=true:=zv i t
theorem gv (prog:Program)(w:World)(x:Str)(t:Tok):(bt prog w).is (.inr x) (.str x t)=true:=zw x t
inductive V where
 | non | bl (b:Bool) | int (i:Int) | str (x:Str) | byt (b:Array UInt8) | flt (b:UInt64) | ref (a:Addr) | ty (n:String)
 deriving DecidableEq
def aP:V->Value->Prop
 | .non,u=>u=Value.none
 | .bl b,u=>u=Value.bool b
 | .int i,u=>∃ t,u=Value.int i t
 | .str x,u=>∃ t,u=Value.str x t
 | .byt b,u=>∃ t,u=Value.bytes b t
 | .flt b,u=>∃ t,u=Value.float b t
 | .ref a,u=>u=Value.ref a
 | .ty n,u=>u=Value.type n
abbrev aU:List V->List Value->Prop:=Paired aP
theorem aU.length {xs:List V}{us:List Value}(r:aU xs us):xs.length=us.length:=IU r
theorem aU.get:∀ {xs:List V}{us:List Value}{i:Nat}{x:V},aU xs us->xs[i]? = some x->∃ u,us[i]? = some u/\aP x u
 | _,_,_,_,.nil,e=>by simp at e
 | _,_,0,_,.cons r _,e=>by simp at e;subst e;exact⟨_,rfl,r⟩
 | _,_,i+1,x,.cons _ t,e=>by
  obtain⟨u,h1,h2⟩:=aU.get (i:=i) (x:=x) t (by simpa using e);exact⟨u,by simpa using h1,h2⟩
theorem aU.append:∀ {xs ys:List V}{us ws:List Value},aU xs us->aU ys ws->aU (xs++ys) (us++ws)
 | _,_,_,_,.nil,s=>s
 | _,_,_,_,.cons r t,s=>.cons r (aU.append t s)
theorem aU.take:∀ {xs:List V}{us:List Value}(n:Nat),aU xs us->aU (xs.take n) (us.take n)
 | _,_,0,_=>.nil
 | _,_,_+1,.nil=>.nil
 | _,_,n+1,.cons r t=>.cons r (aU.take n t)
theorem aU.drop:∀ {xs:List V}{us:List Value}(n:Nat),aU xs us->aU (xs.drop n) (us.drop n)
 | _,_,0,r=>r
 | _,_,_+1,.nil=>.nil
 | _,_,n+1,.cons _ t=>aU.drop n t
def gV:Option V->Option Value->Prop
 | some v,some u=>aP v u
 | none,none=>True
 | _,_=>False
def KV {κ:Type}:List (κ×V)->List (κ×Value)->Prop:=Paired fun (p:κ×V)(q:κ×Value)=>p.1=q.1/\aP p.2 q.2
def kV:ca->V
 | .inl i=>.int i
 | .inr x=>.str x
inductive HO where
 | lst (xs:List V)
 | tup (xs:List V)
 | dK (kvs:List (ca×V)) | dT (kvs:List (List ca×V))
 | set (S:Int->Bool) (n:Nat)
 | ins (C dx:Addr) (fs:List (Str×V))
 | own (x:Addr)
 | xd (fs:List (Str×V))
 | met (f x:Addr)
 | rng (lo hi:Int)
 | frz (o:Obj) (u:HO)
 | tbl (ps:Array Value)
 | ext (φ:Heap->Prop)
abbrev Hp:=Addr->Option HO
def upd (H:Hp)(a:Addr)(o:HO):Hp:=fun b=>if b=a then some o else H b
theorem ac {H:Hp}{a:Addr}{o:HO}:upd H a o a=some o:=by unfold upd;rw[Iu rfl]
theorem af {H:Hp}{a b:Addr}{o:HO}(h:b≠a):upd H a o b=H b:=by unfold upd;rw[Ir h]
theorem jT {H:Hp}{a:Addr}{o u:HO}:upd (upd H a o) a u=upd H a u:=by
 funext b;unfold upd;split<;>rfl
theorem bQ {H:Hp}{a b:Addr}{o u:HO}(h:H a=some o)(h':H b=some u)(d:o≠u):a≠b:=by
 intro e;subst e;rw[h]at h';exact d (IA h')
theorem ah {H:Hp}{a b:Addr}{o:HO}(h:H a=some o)(h':H b=none):a≠b:=by
 intro e;subst e;rw[h]at h';cases h'
def ie (h:Heap)(a:Addr)(items:Array Value):Prop:=∃ o,h.get? a=some o/\o.cls=.type "tuple"/\∃ n,(o.data,o.dict)=(Data.seq items n,(none:Option Addr))
theorem ie.old {h:Heap}{a:Addr}{items:Array Value}(x:ie h a items):IsTup h a items:=let ⟨o,e,c,n,d⟩:=x;⟨o,e,c,n,(Prod.mk.inj d).1⟩
theorem ie.new (h:Heap)(items:Array Value):ie (h.push { cls:=.type "tuple",data:=.seq items }) h.objs.size items:=⟨_,IV _ rfl,rfl,_,rfl⟩
section
variable (P:Program)(w:World)
def bu (H:Hp)(h:Heap)(a:Addr):HO->Prop
 | .lst xs=>xs.length<=sizeLine/\∃ (its:List Value)(n:Nat),aU xs its/\h.get? a=some { cls:=.type "list",data:=.seq its.toArray n }
 | .tup xs=>xs.length<=sizeLine/\∃ its:List Value,aU xs its/\ie h a its.toArray
 | .dK kvs=>kvs.length<=sizeLine/\(a == sysModules)=false/\∃ vs,KV kvs vs/\h.DictOf (bt P w) a vs
 | .dT kvs=>kvs.length<=sizeLine/\(a == sysModules)=false/\∃ xs:List (List ca×Addr×Value),
   Paired (fun (p:List ca×V)(q:List ca×Addr×Value)=>p.1=q.1/\H q.2.1=some (.tup (p.1.map kV))/\aP p.2 q.2.2) kvs xs /\
   ∃ o es ep,h.get? a=some o/\o.ExactDict/\o.data=.dict es ep/\es.toList=xs.map (entryOfKey (tupleKind (bt P w)))/\(xs.map (·.1)).Nodup
 | .set S n=>h.SetOf (intKind P w) a S n
 | .ins C dx fs=>H dx=some (.own a)/\fs.length<=1000/\dx≠a/\h.get? a=some (PySem.W.instObj C dx) /\
   ∃ mA,h.Ns1 dx mA/\(∀ f,gV (fs.lookup f) (mA f))/\PySem.Within mA (fs.map (·.1))
 | .own _=>∃ o,h.get? a=some o
 | .xd fs=>∃ mA,h.Ns1 a mA/\∀ f,gV (fs.lookup f) (mA f)
 | .rng lo hi=>∃ t u v,h.get? a=some { cls:=.type "range",data:=.fields #[.int lo t,.int hi u,.int 1 v] }
 | .frz o u=>h.get? a=some o/\bu H h a u
 | .tbl ps=>h.get? a=some { cls:=.none,data:=.fields ps }
 | .met f x=>h.get? a=some (PySem.W.methodObj (.ref f) (.ref x))
 | .ext φ=>φ h/\(∃ o,h.get? a=some o)/\∀ h1 h2:Heap,φ h1->(∀ o,h1.get? a=some o->h2.get? a=some o)->φ h2
def iQ (H:Hp)(h:Heap):Prop:=∀ a o,H a=some o->bu P w H h a o
end
section
variable {P:Program}{w:World}{H H':Hp}{h h':Heap}{a:Addr}{o:HO}
theorem bu.lt (x:bu P w H h a o):a<h.objs.size:=by
 cases o with
 | lst xs=>obtain⟨_,_,_,_,e⟩:=x;exact II e
 | tup xs=>obtain⟨_,_,_,p⟩:=x;exact p.old.lt
 | dK kvs=>obtain⟨_,_,_,_,o,_,_,e,_⟩:=x;exact II e
 | dT kvs=>obtain⟨_,_,_,_,o,_,_,e,_⟩:=x;exact II e
 | set S n=>obtain⟨o,_,_,_,e,_⟩:=x;exact II e
 | ins C dx fs=>obtain⟨_,_,_,e,_⟩:=x;exact II e
 | own y=>obtain⟨_,e⟩:=x;exact II e
 | xd fs=>obtain⟨_,⟨_,_,_,e,_⟩,_⟩:=x;exact II e
 | rng lo hi=>obtain⟨_,_,_,e⟩:=x;exact II e
 | frz ob u=>obtain⟨e,_⟩:=x;exact II e
 | tbl ps=>exact II (show h.get? a=some _ from x)
 | met f y=>exact II (show h.get? a=some _ from x)
 | ext φ=>obtain⟨_,⟨_,e⟩,_⟩:=x;exact II e
theorem Paired.mapP {α β:Type}{F G:α->β->Prop}:∀ {l₁:List α}{l₂:List β},Paired F l₁ l₂->(∀ a b,F a b->G a b)->Paired G l₁ l₂
 | _,_,.nil,_=>.nil
 | _,_,.cons r t,f=>.cons (f _ _ r) (Paired.mapP t f)
theorem bu.stay (x:bu P w H h a o)(k:∀ b u,(b=a\/H b=some (.own a))->h.get? b=some u->h'.get? b=some u)
  (ho:∀ b,H b=some (.own a)->H' b=some (.own a)) (ht:∀ b xs,H b=some (.tup xs)->H' b=some (.tup xs)):bu P w H' h' a o:=by
 induction o with
 | lst xs=>obtain⟨z,its,n,r,e⟩:=x;exact⟨z,its,n,r,k _ _ (.inl rfl) e⟩
 | tup xs=>obtain⟨z,its,r,ob,e,c⟩:=x;exact⟨z,its,r,ob,k _ _ (.inl rfl) e,c⟩
 | dK kvs=>obtain⟨z,y,vs,r,ob,es,ep,e,c⟩:=x;exact⟨z,y,vs,r,ob,es,ep,k _ _ (.inl rfl) e,c⟩
 | dT kvs =>
  obtain⟨z,y,xs,r,ob,es,ep,e,c⟩:=x;exact⟨z,y,xs,Paired.mapP r fun p q z=>⟨z.1,ht _ _ z.2.1,z.2.2⟩,ob,es,ep,k _ _ (.inl rfl) e,c⟩
 | set S n=>obtain⟨ob,es,ep,t,e,c⟩:=x;exact⟨ob,es,ep,t,k _ _ (.inl rfl) e,c⟩
 | ins C dx fs =>
  obtain⟨d,z,ne,e,mA,⟨od,es,ep,e2,c⟩,r⟩:=x;exact⟨ho _ d,z,ne,k _ _ (.inl rfl) e,mA,⟨od,es,ep,k _ _ (.inr d) e2,c⟩,r⟩
 | own y=>obtain⟨ob,e⟩:=x;exact⟨ob,k _ _ (.inl rfl) e⟩
 | xd fs=>obtain⟨mA,⟨od,es,ep,e,c⟩,r⟩:=x;exact⟨mA,⟨od,es,ep,k _ _ (.inl rfl) e,c⟩,r⟩
 | rng lo hi=>obtain⟨t,u,v,e⟩:=x;exact⟨t,u,v,k _ _ (.inl rfl) e⟩
 | frz ob u ih=>obtain⟨e,q⟩:=x;exact⟨k _ _ (.inl rfl) e,ih q⟩
 | tbl ps =>
  have e:h.get? a=some { cls:=.none,data:=.fields ps }:=x
  show h'.get? a=some { cls:=.none,data:=.fields ps }
  exact k a _ (.inl rfl) e
 | met f y =>
  have e:h.get? a=some (PySem.W.methodObj (.ref f) (.ref y)):=x
  show h'.get? a=some (PySem.W.methodObj (.ref f) (.ref y))
  exact k a _ (.inl rfl) e
 | ext φ=>obtain⟨p,⟨o,e⟩,st⟩:=x;exact⟨st _ _ p fun o q=>k _ _ (.inl rfl) q,⟨o,k _ _ (.inl rfl) e⟩,st⟩
theorem iQ.lt (x:iQ P w H h)(e:H a=some o):a<h.objs.size:=(x a o e).lt
theorem iQ.fresh (x:iQ P w H h)(e:h.objs.size<=a):H a=none:=by
 cases q:H a with
 | none=>rfl
 | some u=>exact absurd (IT (x.lt q) e) (Nat.lt_irrefl _)
theorem iQ.kept (x:iQ P w H h)(k:∀ b u,h.get? b=some u->h'.get? b=some u):iQ P w H h':=fun a o e =>
 (x a o e).stay (fun b u _ q=>k b u q) (fun _ q=>q) fun _ _ q=>q
theorem iQ.laid (x:iQ P w H h)(k:∀ b u,h.get? b=some u->h'.get? b=some u)(hp:h.objs.size<=a)(new:bu P w (upd H a o) h' a o):iQ P w (upd H a o) h':=fun b u e=>by
 have hn:=x.fresh hp
 by_cases hb:b=a
 ·subst hb;rw[ac]at e;cases e;exact new
 ·rw[af hb]at e
  exact (x b u e).stay (fun c v _ q=>k c v q) (fun c q=>by rw[af (ah q hn)];exact q) fun c xs q=>by rw[af (ah q hn)];exact q
end
def Rd (H:Hp)(a:Addr)(u:HO):Prop:=H a=some u\/∃ o,H a=some (.frz o u)
theorem Rd.ok {P:Program}{w:World}{H:Hp}{h:Heap}{a:Addr}{u:HO}(r:Rd H a u)(x:iQ P w H h):bu P w H h a u:=by
 rcases r with r | ⟨o,r⟩
 ·exact x a u r
 ·obtain⟨_,q⟩:=x a _ r
  exact q
def Fo:Option HO->Prop
 | some (.lst _)=>True
 | some (.dK _)=>True
 | some (.dT _)=>True
 | some (.set _ _)=>True
 | some (.ins _ _ _)=>True
 | some (.ext _)=>True
 | _=>False
section
variable {P:Program}{w:World}{H:Hp}{h h':Heap}{x e:Addr}{o':HO}
theorem iQ.write (ok:iQ P w H h)(mu:Fo (H x))(he:e=x\/H e=some (.own x))(k:∀ b u,b≠e->h.get? b=some u->h'.get? b=some u)(heo:∃ u,h'.get? e=some u)
  (new:bu P w (upd H x o') h' x o'):iQ P w (upd H x o') h':=fun b u q=>by
 have nown:∀ c y,H c=some (.own y)->c≠x:=fun c y r z=>by subst z;rw[r]at mu;exact mu
 have ntup:∀ c xs,H c=some (.tup xs)->c≠x:=fun c xs r z=>by subst z;rw[r]at mu;exact mu
 by_cases hb:b=x
 ·subst hb;rw[ac]at q;cases q;exact new
 ·rw[af hb]at q
  by_cases hbe:b=e
  ·have q':H b=some (.own x):=by
    rcases he with z | z
    ·exact absurd (hbe.trans z) hb
    ·rw[hbe];exact z
   rw[q]at q';cases q';obtain⟨v,hv⟩:=heo;exact⟨v,by rw[hbe];exact hv⟩
  ·refine (ok b u q).stay (fun c v hc r=>k c v ?_ r) (fun c r=>by rw[af (nown c b r)];exact r) fun c xs r=>by rw[af (ntup c xs r)];exact r
   rcases hc with rfl | hc
   ·exact hbe
   ·rintro rfl
    rcases he with z | z
    ·exact nown c b hc z
    ·rw[hc]at z;cases z;exact hb rfl
end
structure Un (fs ex:List Addr)(H H':Hp)(h h':Heap):Prop where
 keep:∀ b o,h.get? b=some o->H b=none->b∉fs->b∉ex->h'.get? b=some o
 slot:∀ b o,h.get? b=some o->H b=none->b∈fs->b∉ex->∃ sl,h'.get? b=some { o with slots:=sl }
 free:∀ b o,h.get? b=some o->H b=none->b∉ex->H' b=none
 there:∀ b o,h.get? b=some o->b∉ex->∃ o',h'.get? b=some o'
 tups:∀ b xs,H b=some (.tup xs)->H' b=some (.tup xs)
 frzs:∀ b o u,H b=some (.frz o u)->H' b=some (.frz o u)
 tbls:∀ b ps,H b=some (.tbl ps)->∃ more,H' b=some (.tbl (ps++more))
section
variable {fs fs' ex ex':List Addr}{H H1 H2:Hp}{h h1 h2 h':Heap}{a x e:Addr}{o:HO}
theorem Un.any (u:Un fs ex H H1 h h1){b:Addr}{ob:Obj}(q:h.get? b=some ob)(n:H b=none)(hx:b∉ex):∃ sl,h1.get? b=some { ob with slots:=sl }:=by
 by_cases hb:b∈fs
 ·exact u.slot b ob q n hb hx
 ·exact⟨ob.slots,u.keep b ob q n hb hx⟩
theorem Un.kept (k:∀ b u,h.get? b=some u->h'.get? b=some u):Un fs ex H H h h' :=
 ⟨fun b ob q _ _ _=>k b ob q,fun b ob q _ _ _=>⟨ob.slots,k b ob q⟩,fun _ _ _ n _=>n,fun b ob q _=>⟨ob,k b ob q⟩,fun _ _ q=>q,fun _ _ _ q=>q,fun _ ps q=>⟨#[],by rw[q];simp⟩⟩
theorem Un.refl:Un fs ex H H h h:=Un.kept fun _ _ q=>q
theorem Un.laid (k:∀ b u,h.get? b=some u->h'.get? b=some u)(hp:h.objs.size<=a)(hn:H a=none):Un fs ex H (upd H a o) h h' where
 keep:=fun b u q _ _ _=>k b u q
 slot:=fun b u q _ _ _=>⟨u.slots,k b u q⟩
 free:=fun b u q n _=>by rw[af (IW (IT (II q) hp))];exact n
 there:=fun b u q _=>⟨u,k b u q⟩
 tups:=fun b xs q=>by rw[af (ah q hn)];exact q
 frzs:=fun b u xs q=>by rw[af (ah q hn)];exact q
 tbls:=fun b ps q=>⟨#[],by rw[af (ah q hn),q];simp⟩
theorem Un.write (mu:Fo (H x))(he:e=x\/H e=some (.own x))(k:∀ b u,b≠e->h.get? b=some u->h'.get? b=some u)(heo:∃ u,h'.get? e=some u):Un fs ex H (upd H x o) h h':=by
 have hx:∀ b,H b=none->b≠x:=fun b n z=>by subst z;rw[n]at mu;exact mu
 have hb:∀ b,H b=none->b≠e:=fun b n z=>by
  subst z;rcases he with r | r
  ·exact hx b n r
  ·rw[n]at r;cases r
 have hm:∀ b u,H b=some u->¬ Fo (some u)->b≠x:=fun b u q nm z=>by subst z;rw[q]at mu;exact nm mu
 refine⟨fun b u q n _ _=>k b u (hb b n) q,fun b u q n _ _=>⟨u.slots,k b u (hb b n) q⟩,fun b u q n _=>by rw[af (hx b n)];exact n,fun b u q _=>?_,
  fun b xs q=>by rw[af (hm b _ q fun z=>z)];exact q,fun b u xs q=>by rw[af (hm b _ q fun z=>z)];exact q,fun b ps q=>⟨#[],by rw[af (hm b _ q fun z=>z),q];simp⟩⟩
 by_cases hbe:b=e
 ·subst hbe;exact heo
 ·exact⟨u,k b u hbe q⟩
end
def Gp (h:Heap)(H:Hp):List Addr:=(List.range h.objs.size).filter fun a=>(H a).isSome
def tZ (h:Heap)(H:Hp):Heap:=PySem.W.hideAll h (Gp h H)
theorem zr (h:Heap)(H:Hp):(tZ h H).objs.size=h.objs.size:=PySem.W.hideAll_size _ _
theorem AG {h:Heap}{H:Hp}{b:Addr}{o:Obj}(e:h.get? b=some o)(n:H b=none):(tZ h H).get? b=some o :=
 PySem.W.hideAll_get _ e fun hm=>by
  have q:(H b).isSome=true:=(List.mem_filter.mp hm).2;rw[n]at q;simp at q
theorem CI {h:Heap}{H:Hp}{b:Addr}{o:Obj}(e:(tZ h H).get? b=some o):h.get? b=some o/\H b=none:=by
 have e':h.get? b=some o:=PySem.W.of_hideAll (Gp h H) e;refine⟨e',?_⟩
 cases q:H b with
 | none=>rfl
 | some x =>
  have hm:b∈Gp h H:=List.mem_filter.mpr ⟨JE.mpr (II e'),by simp[q]⟩;have z:(tZ h H).get? b=none:=PySem.W.hideAll_none (Gp h H) hm;rw[z]at e;cases e
structure Mod (K:PySem.W.Frag)(mg:Str->Option Value)(base:Heap):Prop where
 kin:K.In base
 glob:base.Ns mainGlobals mg
 blt:∃ mb,base.Ns builtinsNs mb/\∀ x:Str,x≠"__name__"->mb x=bootBuiltins x
 nolimit:base.NoLimit
structure Cx where
 prog:Program
 w:World
 K:PySem.W.Frag
 mg:Str->Option Value
 base:Heap
 A:Around
 N:List Str
 s₀:Shared
 H₀:Hp
 env:Env
 outer:List Env
 stack:List Env
 ex:List Addr
 fn:Str->Bool
 calm:Bool
 pn:List (Addr×Obj)
 xe:Value->Shared->Prop
def jU (l:List Env):List Addr:=l.filterMap (·.frame)
abbrev Cx.fs (X:Cx):List Addr:=jU X.outer
def GF (sc:Scope)(x:Str):Prop:=sc.names.lookup x=some .local\/sc.names.lookup x=some .cell\/sc.names.lookup x=some .free
def De (sc:Scope)(x:Str):Prop:=sc.names.lookup x=some .local\/sc.names.lookup x=some .cell
def Gy (env:Env)(h:Heap)(m:Str->Option Value)(x:Str)(u:Value):Prop :=
 (env.kindOf x=some .local/\m x=some u)\/((env.kindOf x=some .cell\/env.kindOf x=some .free)/\∃ c,env.cells.lookup x=some c/\h.IsCell c (some u))
structure Cx.Ok (X:Cx):Prop where
 mod:Mod X.K X.mg X.base
 kind:X.env.scope.kind=.function
 glob:X.env.globals=mainGlobals
 blt:X.env.builtins=builtinsNs
 above:X.s₀.heap.objs.size<=X.env.locals
 inj:∀ x y c,X.env.cells.lookup x=some c->X.env.cells.lookup y=some c->x=y
 has:∀ x,(X.env.kindOf x=some .cell\/X.env.kindOf x=some .free)->∃ c,X.env.cells.lookup x=some c
 cab:∀ x c,X.fn x=true->X.env.cells.lookup x=some c->X.s₀.heap.objs.size<=c
 hd:X.calm=true->X.A.handled=none
 frames:X.A.frames=some X.stack
 stk:X.stack=X.outer\/(X.stack=X.env::X.outer/\X.env.frame=some X.env.locals)
 exf:∀ b∈X.ex,b≠X.env.locals/\∀ x c,X.env.cells.lookup x=some c->c≠b
 bs:∀ b o,X.base.get? b=some o->X.s₀.heap.get? b=some o/\X.H₀ b=none
 bsz:X.base.objs.size<=X.s₀.heap.objs.size
 noex:∀ b o,X.base.get? b=some o->b∉X.ex
 exfs:∀ b∈X.ex,b∉X.fs
 funs:X.s₀.heap.FunFrames X.base X.outer
 frf:∀ b∈X.fs,X.H₀ b=none
structure aA (X:Cx)(pins:List (Addr×Obj))(σ:List (Option V))(H:Hp)(s:Shared):Prop where
 ok:X.Ok
 os:s.os=X.s₀.os
 bare:AllBare s.gens
 base:Un X.fs X.ex X.H₀ H X.s₀.heap s.heap
 loc:∃ m,s.heap.Ns X.env.locals m/\∀ (i:Nat)(x:Str)(v:V),X.N[i]? = some x->σ[i]? = some (some v)->GF X.env.scope x->∃ u,aP v u/\Gy X.env s.heap m x u
 cell:∀ x c,X.env.cells.lookup x=some c->∃ v,s.heap.IsCell c v
 free:H X.env.locals=none
 freeC:∀ x c,X.env.cells.lookup x=some c->H c=none
 pin:∀ p∈X.pn++pins,s.heap.get? p.1=some p.2/\H p.1=none/\p.1≠X.env.locals/\p.1∉X.fs/\∀ v,p.2.data≠.cell v
 hok:iQ X.prog X.w H s.heap
 len:σ.length=X.N.length
section
variable {X:Cx}{pins:List (Addr×Obj)}{σ:List (Option V)}{H H':Hp}{s:Shared}{h':Heap}
theorem Cx.Ok.nofr (ok:X.Ok){b:Addr}{o:Obj}(e:X.base.get? b=some o):b∉X.fs:=fun hb=>by
 have:=(ok.funs.mem hb).1;rw[e]at this;cases this
theorem aA.bs (I:aA X pins σ H s):∀ b o,X.base.get? b=some o->s.heap.get? b=some o/\H b=none:=fun b o e =>
 ⟨I.base.keep b o (I.ok.bs b o e).1 (I.ok.bs b o e).2 (I.ok.nofr e) (I.ok.noex b o e),I.base.free b o (I.ok.bs b o e).1 (I.ok.bs b o e).2 (I.ok.noex b o e)⟩
theorem aA.bk (I:aA X pins σ H s):∀ b o,X.base.get? b=some o->s.heap.get? b=some o:=fun b o e=>(I.bs b o e).1
theorem aA.mod (I:aA X pins σ H s):Mod X.K X.mg X.base:=I.ok.mod
theorem aA.kIn (I:aA X pins σ H s):X.K.In s.heap:=I.ok.mod.kin.keeps I.bk
theorem aA.lt (I:aA X pins σ H s):X.env.locals<s.heap.objs.size:=let ⟨_,hn,_⟩:=I.loc;hn.lt
theorem aA.sz (I:aA X pins σ H s):X.s₀.heap.objs.size<=s.heap.objs.size:=IY I.ok.above (Nat.le_of_lt I.lt)
theorem aA.nofs (I:aA X pins σ H s){a:Addr}(h:s.heap.objs.size<=a):a∉X.fs:=fun hb=>by
 obtain⟨_,o,ho,_⟩:=I.ok.funs.mem hb;exact absurd (IT (II ho) (IY I.sz h)) (Nat.lt_irrefl _)
theorem aA.cne (I:aA X pins σ H s):∀ x c,X.env.cells.lookup x=some c->c≠X.env.locals:=fun x c e z=>by
 obtain⟨v,o,ho,hd⟩:=I.cell x c e;obtain⟨m,⟨o',es,ep,ho',hd',_⟩,_⟩:=I.loc;rw[z,ho']at ho;cases ho;rw[hd']at hd;cases hd
theorem aA.funs (I:aA X pins σ H s):s.heap.FunFrames X.base X.outer:=by
 have all:∀ (l:List Env),(∀ b∈jU l,b∈X.fs)->X.s₀.heap.FunFrames X.base l->s.heap.FunFrames X.base l:=by
  intro l
  induction l with
  | nil=>intro _ _;trivial
  | cons env r ih =>
   intro hs hl;obtain⟨hk,⟨L,o,hf,hn,ho,hd⟩,hr⟩:=hl;have hL:L∈X.fs:=hs L (by unfold jU;rw[List.filterMap_cons,hf];exact IB);obtain⟨sl,e⟩:=I.base.slot L o ho (I.ok.frf L hL) hL fun z=>I.ok.exfs L z hL;exact⟨hk,⟨L,_,hf,hn,e,hd⟩,ih (fun b hb=>hs b (by unfold jU;rw[List.filterMap_cons,hf];exact Iy _ hb)) hr⟩
 exact all X.outer (fun _ hb=>hb) I.ok.funs
theorem aA.stack (I:aA X pins σ H s):s.heap.FunFrames X.base X.stack:=by
 rcases I.ok.stk with e | ⟨e,hf⟩
 ·rw[e];exact I.funs
 ·rw[e]
  obtain⟨m,hn,_⟩:=I.loc;refine .cons (by rw[I.ok.kind];decide) hf hn ?_ I.funs;exact Heap.get?_none_of_le (IY I.ok.bsz I.ok.above)
theorem aA.stkSub (I:aA X pins σ H s):∀ b∈jU X.stack,b∈X.env.locals::X.fs:=fun b hb=>by
 rcases I.ok.stk with e | ⟨e,hf⟩
 ·rw[e]at hb;exact Iy _ hb
 ·rw[e]at hb
  unfold jU at hb;rw[List.filterMap_cons,hf]at hb;exact hb
theorem aA.stkFree (I:aA X pins σ H s):∀ b∈jU X.stack,H b=none:=fun b hb=>by
 rcases IC.mp (I.stkSub b hb) with e | hb
 ·rw[e];exact I.free
 ·obtain⟨_,o,ho,_⟩:=I.ok.funs.mem hb
  exact I.base.free b o ho (I.ok.frf b hb) fun z=>I.ok.exfs b z hb
theorem aA.step {g':Array GenState}{t':Nat}{d':Drawn}{ch:List Addr}(I:aA X pins σ H s)
  (hch:∀ b∈ch,(b∈X.ex\/X.s₀.heap.objs.size<=b)/\b≠X.env.locals/\(∀ x c,X.env.cells.lookup x=some c->c≠b)/\∀ p∈X.pn++pins,p.1≠b)
  (keep:∀ b o,b≠X.env.locals->b∉X.fs->b∉ch->s.heap.get? b=some o->H b=none->h'.get? b=some o)
  (slot:∀ b o,b≠X.env.locals->b∈X.fs->b∉ch->s.heap.get? b=some o->H b=none->∃ sl,h'.get? b=some { o with slots:=sl }) (free:∀ b o,b∉ch->s.heap.get? b=some o->H b=none->H' b=none)
  (there:∀ b o,b∉ch->s.heap.get? b=some o->∃ o',h'.get? b=some o')
  (tups:∀ b xs,H b=some (.tup xs)->H' b=some (.tup xs)) (frzs:∀ b o u,H b=some (.frz o u)->H' b=some (.frz o u)) (tbls:∀ b ps,H b=some (.tbl ps)->∃ more,H' b=some (.tbl (ps++more)))
  (ns:∀ m,s.heap.Ns X.env.locals m->h'.Ns X.env.locals m) (hok:iQ X.prog X.w H' h') (hg:AllBare g') :
  aA X pins σ H' { s with heap:=h',gens:=g',drawn:=d',toks:=t' }:=by
 have neL:∀ b o,X.s₀.heap.get? b=some o->b≠X.env.locals:=fun b o e=>IW (IT (II e) I.ok.above)
 have neC:∀ b o,X.s₀.heap.get? b=some o->b∉X.ex->b∉ch:=fun b o e hx hb=>by
  rcases (hch b hb).1 with z | z
  ·exact hx z
  ·exact absurd (IT (II e) z) (Nat.lt_irrefl _)
 have cellK:∀ x c,X.env.cells.lookup x=some c->∀ v,s.heap.IsCell c v->h'.IsCell c v:=fun x c e v ⟨o,ho,hd⟩=>by
  have nch:c∉ch:=fun z=>(hch c z).2.2.1 x c e rfl
  by_cases hc:c∈X.fs
  ·obtain⟨sl,q⟩:=slot c o (I.cne x c e) hc nch ho (I.freeC x c e)
   exact⟨_,q,hd⟩
  ·exact⟨o,keep c o (I.cne x c e) hc nch ho (I.freeC x c e),hd⟩
 refine⟨I.ok,I.os,hg,⟨fun b o e n hb hx=>?_,fun b o e n hb hx=>?_,fun b o e n hx=>?_,fun b o e hx=>?_,fun b xs e=>tups b xs (I.base.tups b xs e),fun b o xs e=>frzs b o xs (I.base.frzs b o xs e),fun b ps e=>?_⟩,?_,fun x c e=>?_,?_,fun x c e=>?_,fun p hp=>?_,hok,I.len⟩
 ·exact keep b o (neL b o e) hb (neC b o e hx) (I.base.keep b o e n hb hx) (I.base.free b o e n hx)
 ·obtain⟨sl,e1⟩:=I.base.slot b o e n hb hx
  obtain⟨sl',e2⟩:=slot b _ (neL b o e) hb (neC b o e hx) e1 (I.base.free b o e n hx);exact⟨sl',e2⟩
 ·obtain⟨o',e1⟩:=I.base.there b o e hx
  exact free b o' (neC b o e hx) e1 (I.base.free b o e n hx)
 ·obtain⟨o',e1⟩:=I.base.there b o e hx
  exact there b o' (neC b o e hx) e1
 ·obtain⟨m1,e1⟩:=I.base.tbls b ps e
  obtain⟨m2,e2⟩:=tbls b _ e1;exact⟨m1++m2,by rw[e2,Array.append_assoc]⟩
 ·obtain⟨m,hn,hl⟩:=I.loc
  refine⟨m,ns m hn,fun i x v e1 e2 e3=>?_⟩;obtain⟨u,r,l⟩:=hl i x v e1 e2 e3;refine⟨u,r,?_⟩;rcases l with l | ⟨k,c,e,z⟩
  ·exact .inl l
  ·exact .inr ⟨k,c,e,cellK x c e _ z⟩
 ·obtain⟨v,z⟩:=I.cell x c e
  exact⟨v,cellK x c e v z⟩
 ·obtain⟨m,⟨o,_,_,ho,_⟩,_⟩:=I.loc
  exact free _ o (fun z=>(hch _ z).2.1 rfl) ho I.free
 ·obtain⟨v,o,ho,hd⟩:=I.cell x c e
  exact free c o (fun z=>(hch c z).2.2.1 x c e rfl) ho (I.freeC x c e)
 ·obtain⟨e,n,ne,nf,d⟩:=I.pin p hp
  have nch:p.1∉ch:=fun z=>(hch p.1 z).2.2.2 p hp rfl;exact⟨keep p.1 p.2 ne nf nch e n,free p.1 p.2 nch e n,ne,nf,d⟩
theorem aA.un {t':Nat}(I:aA X pins σ H s)(u:Un X.fs [] H H' s.heap h')(hok:iQ X.prog X.w H' h'):aA X pins σ H' { s with heap:=h',toks:=t' }:=by
 obtain⟨m,⟨o,es,ep,ho,r⟩,_⟩:=id I.loc;obtain⟨sl,hL⟩:=u.any ho I.free (by simp)
 exact I.step (g':=s.gens) (d':=s.drawn) (ch:=[]) (fun _ z=>nomatch z) (fun b o _ hb _ e n=>u.keep b o e n hb (by simp)) (fun b o _ hb _ e n=>u.slot b o e n hb (by simp)) (fun b o _ e n=>u.free b o e n (by simp)) (fun b o _ e=>u.there b o e (by simp)) u.tups u.frzs u.tbls (fun m' hm=>by
  obtain⟨o',es',ep',ho',r'⟩:=hm;rw[ho]at ho';cases ho'
  exact⟨_,es',ep',hL,r'⟩) hok I.bare
theorem aA.call {g':Array GenState}{t':Nat}{d':Drawn}{ch:List Addr}(I:aA X pins σ H s)(u:Un (jU X.stack) ch H H' s.heap h')(hok:iQ X.prog X.w H' h')(hg:AllBare g')
  (hch:∀ b∈ch,(b∈X.ex\/X.s₀.heap.objs.size<=b)/\b≠X.env.locals/\(∀ x c,X.env.cells.lookup x=some c->c≠b)/\∀ p∈X.pn++pins,p.1≠b) :
  aA X pins σ H' { s with heap:=h',gens:=g',drawn:=d',toks:=t' }:=by
 obtain⟨m,⟨o,es,ep,ho,r⟩,_⟩:=id I.loc;obtain⟨sl,hL⟩:=u.any ho I.free fun z=>(hch _ z).2.1 rfl
 exact I.step (ch:=ch) hch (fun b o hL hb hc e n=>u.keep b o e n (fun z=>(IC.mp (I.stkSub b z)).elim hL hb) hc) (fun b o _ _ hc e n=>u.any e n hc) (fun b o hc e n=>u.free b o e n hc) (fun b o hc e=>u.there b o e hc) u.tups u.frzs u.tbls (fun m' hm=>by
  obtain⟨o',es',ep',ho',r'⟩:=hm;rw[ho]at ho';cases ho'
  exact⟨_,es',ep',hL,r'⟩) hok hg
theorem aA.turned {t':Nat}{it:Addr}(I:aA X pins σ H s)(k:∀ b o,b≠it->s.heap.get? b=some o->h'.get? b=some o)(hn:H it=none)(hL:it≠X.env.locals)
  (h1:it∈X.ex\/X.s₀.heap.objs.size<=it) (h2:∀ x c,X.env.cells.lookup x=some c->c≠it) (h3:∀ p∈X.pn++pins,p.1≠it):aA X pins σ H { s with heap:=h',toks:=t' }:=by
 have nit:∀ b u,H b=some u->b≠it:=fun b u e z=>by rw[z,hn]at e;cases e
 refine I.step (g':=s.gens) (d':=s.drawn) (ch:=[it]) (fun b hb=>?_) (fun b o _ _ hc e _=>k b o (fun z=>hc (by simp[z])) e) (fun b o _ _ hc e _=>⟨o.slots,k b o (fun z=>hc (by simp[z])) e⟩) (fun _ _ _ _ n=>n)
  (fun b o hc e=>⟨o,k b o (fun z=>hc (by simp[z])) e⟩) (fun _ _ e=>e) (fun _ _ _ e=>e) (fun b ps e=>⟨#[],by rw[e];simp⟩) (fun m hm=>?_) (fun b u e=>?_) I.bare
 ·have e:b=it:=by simpa using hb
  subst e;exact⟨h1,hL,h2,h3⟩
 ·obtain⟨o,es,ep,ho,r⟩:=hm
  exact⟨o,es,ep,k _ o (IJ hL) ho,r⟩
 ·refine (I.hok b u e).stay (fun c v hc q=>k c v ?_ q) (fun _ q=>q) fun _ _ q=>q
  rcases hc with z | z
  ·rw[z];exact nit b u e
  ·exact nit c _ z
theorem aA.tok (I:aA X pins σ H s)(t:Nat):aA X pins σ H { s with toks:=t }:=I.un (h':=s.heap) (t':=t) Un.refl I.hok
theorem aA.kept {t':Nat}(I:aA X pins σ H s)(k:∀ b u,s.heap.get? b=some u->h'.get? b=some u):aA X pins σ H { s with heap:=h',toks:=t' }:=I.un (Un.kept k) (I.hok.kept k)
theorem aA.laid {a:Addr}{o:HO}{t':Nat}(I:aA X pins σ H s)(k:∀ b u,s.heap.get? b=some u->h'.get? b=some u)(hp:s.heap.objs.size<=a)(new:bu X.prog X.w (upd H a o) h' a o) :
  aA X pins σ (upd H a o) { s with heap:=h',toks:=t' }:=I.un (Un.laid k hp (I.hok.fresh hp)) (I.hok.laid k hp new)
theorem aA.write {x e:Addr}{o:HO}{t':Nat}(I:aA X pins σ H s)(mu:Fo (H x))(he:e=x\/H e=some (.own x))(k:∀ b u,b≠e->s.heap.get? b=some u->h'.get? b=some u)(heo:∃ u,h'.get? e=some u)
  (new:bu X.prog X.w (upd H x o) h' x o):aA X pins σ (upd H x o) { s with heap:=h',toks:=t' }:=I.un (Un.write mu he k heo) (I.hok.write mu he k heo new)
theorem aA.pins_of {pins':List (Addr×Obj)}(I:aA X pins σ H s)(h:∀ p∈pins',s.heap.get? p.1=some p.2/\H p.1=none/\p.1≠X.env.locals/\p.1∉X.fs/\∀ v,p.2.data≠.cell v):aA X pins' σ H s :=
 ⟨I.ok,I.os,I.bare,I.base,I.loc,I.cell,I.free,I.freeC,fun p hp=>(IN.mp hp).elim (fun z=>I.pin p (List.mem_append_left _ z)) (h p),I.hok,I.len⟩
theorem vQ {N:List Str}(hN:N.Nodup){i j:Nat}{x:Str}(a:N[i]? = some x)(b:N[j]? = some x):i=j:=by
 obtain⟨h1,e1⟩:=IG.mp a;obtain⟨h2,e2⟩:=IG.mp b;exact (List.getElem_inj hN).mp (e1.trans e2.symm)
theorem tq {M:Model}{A:Around}{E:Value->Shared->Prop}{i:Nat}{x:Str}{v:V}{u:Value}{Q:Unit->Shared->Prop}(I:aA X pins σ H s)(hN:X.N.Nodup)(hi:X.N[i]? = some x)(hx:De X.env.scope x)(r:aP v u)
  (h:∀ s',aA X pins (σ.set i (some v)) H s'->(∃ a,Heap.SameBut a s.heap s'.heap/\(a=X.env.locals\/X.env.cells.lookup x=some a))->Q () s') (hf:X.fn x=true\/X.env.scope.names.lookup x=some .local:=by first | exact .inl rfl | exact .inr rfl | assumption):wpAny M A (storeName X.env x u) Q E s:=by
 obtain⟨m,hn,hl⟩:=id I.loc
 have hcls:(X.env.scope.kind == .class||(X.env.scope.kind == .module&&X.env.locals != X.env.globals))=false:=by rw[I.ok.kind];rfl
 have hiσ:i<σ.length:=by rw[I.len];exact (IG.mp hi).1
 have cne:=I.cne
 have tracked:∀ {a:Addr}{h':Heap},(∃ o,s.heap.get? a=some o/\H a=none)->Heap.SameBut a s.heap h'->iQ X.prog X.w H h':=fun {a h'} ha hs b ob e=>by
  obtain⟨_,_,hfree⟩:=ha;refine (I.hok b ob e).stay (fun c w' hc q=>(hs.2 c ?_).trans q) (fun _ q=>q) fun _ _ q=>q;rintro rfl;rcases hc with rfl | hc
  ·rw[hfree]at e;cases e
  ·rw[hfree]at hc;cases hc
 rcases hx with hk | hk
 ·refine wpAny_storeName_local hk hn (fun h' hn' hs=>?_) hcls
  obtain⟨oL,_,_,hoL,_⟩:=id hn;refine h _ ⟨I.ok,I.os,I.bare,⟨fun b o e n hb hx=>?_,fun b o e n hb hx=>?_,I.base.free,fun b o e hx=>?_,I.base.tups,I.base.frzs,I.base.tbls⟩,⟨_,hn',fun j y v' e1 e2 e3=>?_⟩,fun y c e=>?_,I.free,I.freeC,fun p hp=>?_,tracked ⟨oL,hoL,I.free⟩ hs,by simpa using I.len⟩ ⟨_,hs,.inl rfl⟩
  ·exact (hs.2 b (IW (IT (II e) I.ok.above))).trans (I.base.keep b o e n hb hx)
  ·obtain⟨sl,e1⟩:=I.base.slot b o e n hb hx
   exact⟨sl,(hs.2 b (IW (IT (II e) I.ok.above))).trans e1⟩
  ·obtain⟨o',e1⟩:=I.base.there b o e hx
   exact⟨o',(hs.2 b (IW (IT (II e) I.ok.above))).trans e1⟩
  ·by_cases hj:j=i
   ·subst hj
    rw[hi]at e1;cases e1;rw[List.getElem?_set_self hiσ]at e2;cases e2;exact⟨u,r,.inl ⟨hk,by simp⟩⟩
   ·rw[List.getElem?_set_ne (IJ hj)]at e2
    obtain⟨u',r',q⟩:=hl j y v' e1 e2 e3;refine⟨u',r',?_⟩;rcases q with ⟨k,e⟩ | ⟨k,c,e,z⟩
    ·refine .inl ⟨k,?_⟩
     have:y≠x:=fun e=>hj (vQ hN e1 (e▸hi));simp[this,e]
    ·exact .inr ⟨k,c,e,z.sameBut hs (cne y c e)⟩
  ·obtain⟨w',z⟩:=I.cell y c e
   exact⟨w',z.sameBut hs (cne y c e)⟩
  ·obtain⟨e,n,ne,nf,d⟩:=I.pin p hp
   exact⟨(hs.2 p.1 ne).trans e,n,ne,nf,d⟩
 ·have hfn:X.fn x=true:=by
   rcases hf with z | z
   ·exact z
   ·rw[z]at hk;cases hk
  obtain⟨c,hc⟩:=I.ok.has x (.inl hk);obtain⟨w',z⟩:=I.cell x c hc;refine wpAny_storeName_cell I.ok.kind hk hc z (fun h' hc' hs=>?_);obtain⟨oc,hoc,hocd⟩:=id z;refine h { s with heap:=h' } ⟨I.ok,I.os,I.bare,⟨fun b o e n hb hx=>?_,fun b o e n hb hx=>?_,I.base.free,fun b o e hx=>?_,I.base.tups,I.base.frzs,I.base.tbls⟩,⟨m,hn.sameBut hs (IJ (cne x c hc)),fun j y v' e1 e2 e3=>?_⟩,fun y c' e=>?_,I.free,I.freeC,fun p hp=>?_,tracked ⟨oc,hoc,I.freeC x c hc⟩ hs,by simpa using I.len⟩ ⟨c,hs,.inr hc⟩
  ·exact (hs.2 b (IW (IT (II e) (I.ok.cab x c hfn hc)))).trans (I.base.keep b o e n hb hx)
  ·obtain⟨sl,e1⟩:=I.base.slot b o e n hb hx
   exact⟨sl,(hs.2 b (IW (IT (II e) (I.ok.cab x c hfn hc)))).trans e1⟩
  ·obtain⟨o',e1⟩:=I.base.there b o e hx
   exact⟨o',(hs.2 b (IW (IT (II e) (I.ok.cab x c hfn hc)))).trans e1⟩
  ·by_cases hj:j=i
   ·subst hj
    rw[hi]at e1;cases e1;rw[List.getElem?_set_self hiσ]at e2;cases e2;exact⟨u,r,.inr ⟨.inl hk,c,hc,hc'⟩⟩
   ·rw[List.getElem?_set_ne (IJ hj)]at e2
    obtain⟨u',r',q⟩:=hl j y v' e1 e2 e3;refine⟨u',r',?_⟩;rcases q with q | ⟨k,c',e,z'⟩
    ·exact .inl q
    ·refine .inr ⟨k,c',e,z'.sameBut hs ?_⟩
     rintro rfl;exact hj (vQ hN e1 (I.ok.inj _ _ _ e hc▸hi))
  ·by_cases hcc:c'=c
   ·subst hcc;exact⟨_,hc'⟩
   ·obtain⟨w2,z2⟩:=I.cell y c' e
    exact⟨w2,z2.sameBut hs hcc⟩
  ·obtain⟨e,n,ne,nf,d⟩:=I.pin p hp
   refine⟨(hs.2 p.1 ?_).trans e,n,ne,nf,d⟩;intro q;rw[q,hoc]at e;have q':oc=p.2:=IA e;exact d w' (by rw[<-q'];exact hocd)
theorem wD {M:Model}{A:Around}{E:Value->Shared->Prop}{i:Nat}{x:Str}{v:V}{u:Value}{Q:Unit->Shared->Prop}(I:aA X pins σ H s)(hN:X.N.Nodup)(hi:X.N[i]? = some x)(hx:De X.env.scope x)(r:aP v u)
  (h:∀ s',aA X pins (σ.set i (some v)) H s'->Q () s') (hf:X.fn x=true\/X.env.scope.names.lookup x=some .local:=by first | exact .inl rfl | exact .inr rfl | assumption):wpAny M A (storeName X.env x u) Q E s :=
 tq I hN hi hx r (fun s' I' _=>h s' I') hf
theorem aA.call' {s':Shared}{ch:List Addr}(I:aA X pins σ H s)(ho:s'.os=s.os)(u:Un (jU X.stack) ch H H' s.heap s'.heap)(hok:iQ X.prog X.w H' s'.heap)(hg:AllBare s'.gens)
  (hch:∀ b∈ch,(b∈X.ex\/X.s₀.heap.objs.size<=b)/\b≠X.env.locals/\(∀ x c,X.env.cells.lookup x=some c->c≠b)/\∀ p∈X.pn++pins,p.1≠b):aA X pins σ H' s':=by
 obtain⟨h',g',d',t',o'⟩:=s';have e:o'=s.os:=ho;subst e;exact I.call (g':=g') (t':=t') (d':=d') u hok hg hch
end
abbrev XK:=Value->Option Addr->Hp->Prop
abbrev St:=List (Option V)
abbrev VK:=V->Hp->Prop
abbrev TE:=St->Hp->VK->Prop
abbrev TT:=St->Hp->(Bool->Hp->Prop)->Prop
abbrev TA:=St->Hp->(List V->Hp->Prop)->Prop
structure kE where
 nx:St->Hp->Prop
 rt:VK
 bk:St->Hp->Prop:=fun _ _=>False
 ct:St->Hp->Prop:=fun _ _=>False
abbrev TS:=kE->St->Hp->Prop
def EP (X:Cx)(pins:List (Addr×Obj))(σ:St)(Q:VK)(u:Value)(s':Shared):Prop:=∃ v H',aA X pins σ H' s'/\aP v u/\Q v H'
def TP (X:Cx)(pins:List (Addr×Obj))(σ:St)(Q:Bool->Hp->Prop)(b:Bool)(s':Shared):Prop:=∃ H',aA X pins σ H' s'/\Q b H'
def AP (X:Cx)(pins:List (Addr×Obj))(σ:St)(Q:List V->Hp->Prop)(us:List Value)(s':Shared):Prop:=∃ vs H',aA X pins σ H' s'/\aU vs us/\Q vs H'
def SP (X:Cx)(pins:List (Addr×Obj))(D:kE)(f:Flow)(s':Shared):Prop :=
 match f with
 | .next=>∃ σ' H',aA X pins σ' H' s'/\D.nx σ' H'
 | .brk=>∃ σ' H',aA X pins σ' H' s'/\D.bk σ' H'
 | .cont=>∃ σ' H',aA X pins σ' H' s'/\D.ct σ' H'
 | .ret u=>∃ v σ' H',aA X pins σ' H' s'/\aP v u/\D.rt v H'
def PE (X:Cx)(e:Expr)(t:TE):Prop :=
 ∀ (pins:List (Addr×Obj))(s:Shared)(σ:St)(H:Hp)(Q:VK),aA X pins σ H s->t σ H Q->wpAny (model X.prog X.w) X.A (eval e X.env) (EP X pins σ Q) X.xe s
def PT (X:Cx)(e:Expr)(t:TT):Prop :=
 ∀ (pins:List (Addr×Obj))(s:Shared)(σ:St)(H:Hp)(Q:Bool->Hp->Prop),aA X pins σ H s->t σ H Q->wpAny (model X.prog X.w) X.A (isTrue e X.env (eval e X.env)) (TP X pins σ Q) X.xe s
def PW (X:Cx)(e:Expr)(t:TT):Prop :=
 ∀ (whole:Sem Value)(pins:List (Addr×Obj))(s:Shared)(σ:St)(H:Hp)(Q:Bool->Hp->Prop),aA X pins σ H s->t σ H Q->wpAny (model X.prog X.w) X.A (isTrue e X.env whole) (TP X pins σ Q) X.xe s
theorem PW.pt {X:Cx}{e:Expr}{t:TT}(h:PW X e t):PT X e t:=h _
def PA (X:Cx)(es:List Expr)(t:TA):Prop :=
 ∀ (pos:Pos)(pins:List (Addr×Obj))(s:Shared)(σ:St)(H:Hp)(Q:List V->Hp->Prop),aA X pins σ H s->t σ H Q->wpAny (model X.prog X.w) X.A (spliced (backTo pos (starEach es X.env))) (AP X pins σ Q) X.xe s
def PS (X:Cx)(st:Stmt)(t:TS):Prop :=
 ∀ (pins:List (Addr×Obj))(s:Shared)(σ:St)(H:Hp)(D:kE),aA X pins σ H s->t D σ H->wpAny (model X.prog X.w) X.A (exec st X.env) (SP X pins D) X.xe s
def uV (X:Cx)(st:List Stmt)(t:TS):Prop :=
 ∀ (pins:List (Addr×Obj))(s:Shared)(σ:St)(H:Hp)(D:kE),aA X pins σ H s->t D σ H->wpAny (model X.prog X.w) X.A (execs st X.env) (SP X pins D) X.xe s
theorem bq {α:Type}{t:Sem α}{Q Q':α->Shared->Prop}{M:Model}{A:Around}{E:Value->Shared->Prop}{s:Shared}(h:wpAny M A t Q E s)(hQ:∀ a s,Q a s->Q' a s):wpAny M A t Q' E s:=Jv h hQ fun _ _ x=>x
section
variable {X:Cx}
inductive TV (i:Nat) (σ:St) (H:Hp) (Q:VK):Prop
 | mk (v:V) (e:σ[i]? = some (some v)) (h:Q v H)
def z7 (i:Nat):TE:=fun σ H Q=>TV i σ H Q
def tC (v:V):TE:=fun _ H Q=>Q v H
theorem EN {i:Nat}{x:Str}{pos:Pos}(hN:X.N[i]? = some x)(hv:GF X.env.scope x)(hd:(x == ("__debug__" : Str))=false:=by decide)(hcd:(x == ("__classdict__" : Str))=false:=by decide):PE X (.Name x pos) (z7 i):=by
 intro pins s σ H Q I h;obtain⟨v,e,h⟩:=h;obtain⟨m,hn,hl⟩:=I.loc;obtain⟨u,r,l⟩:=hl i x v hN e hv;have fin:EP X pins σ Q u s:=⟨v,H,I,r,h⟩;rcases l with ⟨hk,hm⟩ | ⟨hk,c,hc,hcell⟩
 ·exact wpAny_Name (wpAny_loadName_local I.ok.kind hk hn hm fin) hd
 ·rcases hk with hk | hk
  ·exact wpAny_Name (wpAny_loadName_cell I.ok.kind hk hc hcell fin) hd
  ·exact wpAny_Name (wpAny_loadName_free I.ok.kind hk hc hcell fin hcd) hd
theorem aj {i j pos}:PE X (.Constant (.int i) j pos) (tC (.int i)):=fun _ _ _ H _ I h=>wpAny_Constant_int ⟨.int i,H,I.tok _,⟨_,rfl⟩,h⟩
theorem kr {b j pos}:PE X (.Constant (.bool b) j pos) (tC (.bl b)):=fun _ _ _ H _ I h=>Constant_bool ⟨.bl b,H,I,rfl,h⟩
theorem e6 {j pos}:PE X (.Constant .none j pos) (tC .non):=fun _ _ _ H _ I h=>Constant_none ⟨.non,H,I,rfl,h⟩
theorem am {x j pos}:PE X (.Constant (.str x) j pos) (tC (.str x)):=fun _ _ _ H _ I h=>Calls.Constant_str ⟨.str x,H,I.tok _,⟨_,rfl⟩,h⟩
def Gl (X:Cx)(x:Str):Prop:=X.env.kindOf x=some .globalImplicit
theorem fj {E:Value->Shared->Prop}{pins:List (Addr×Obj)}{s:Shared}{σ:St}{H:Hp}{x:Str}{u:Value}{pos:Pos}{Q:Value->Shared->Prop}(I:aA X pins σ H s)(hg:Gl X x)(hm:X.mg x=some u)(h:Q u s)
  (hd:(x == ("__debug__" : Str))=false:=by decide):wpAny (model X.prog X.w) X.A (eval (.Name x pos) X.env) Q E s :=
 Calls.Name_function_global I.ok.kind hg (Calls.loadGlobal_global (by rw[I.ok.glob];exact I.mod.glob.keeps I.bk) hm h) hd
theorem mV {E:Value->Shared->Prop}{pins:List (Addr×Obj)}{s:Shared}{σ:St}{H:Hp}{x:Str}{u:Value}{pos:Pos}{Q:Value->Shared->Prop}(I:aA X pins σ H s)(hg:Gl X x)(hm:X.mg x=none)(hv:bootBuiltins x=some u)(h:Q u s)
  (hn:x≠"__name__":=by decide) (hd:(x == ("__debug__" : Str))=false:=by decide):wpAny (model X.prog X.w) X.A (eval (.Name x pos) X.env) Q E s:=by
 obtain⟨mb,h1,h2⟩:=I.mod.blt;exact Calls.Name_function_global I.ok.kind hg (Calls.loadGlobal_builtin (by rw[I.ok.glob];exact I.mod.glob.keeps I.bk) hm (by rw[I.ok.blt];exact h1.keeps I.bk) ((h2 x hn).trans hv) h) hd
theorem CQ {x:Str}{v:V}{u:Value}{pos:Pos}(hg:Gl X x)(hm:X.mg x=some u)(r:aP v u)(hd:(x == ("__debug__" : Str))=false:=by decide):PE X (.Name x pos) (tC v) :=
 fun _ _ _ H _ I h=>fj I hg hm ⟨v,H,I,r,h⟩ hd
theorem CO {x:Str}{v:V}{u:Value}{pos:Pos}(hg:Gl X x)(hm:X.mg x=none)(hv:bootBuiltins x=some u)(r:aP v u)(hn:x≠"__name__":=by decide)(hd:(x == ("__debug__" : Str))=false:=by decide):PE X (.Name x pos) (tC v) :=
 fun _ _ _ H _ I h=>mV I hg hm hv ⟨v,H,I,r,h⟩ hn hd
variable {a b:Expr}{ta tb:TE}{pos:Pos}
def PC (X:Cx)(op:CmpOp)(a b:Expr)(t:TE):Prop :=
 ∀ (pins:List (Addr×Obj))(s:Shared)(σ:St)(H:Hp)(Q:VK),aA X pins σ H s->t σ H Q ->
  wpAny (model X.prog X.w) X.A (eval a X.env) (fun v s₁=>wpAny (model X.prog X.w) X.A (eval b X.env) (fun u s₂=>wpAny (model X.prog X.w) X.A (compareOp op v u) (EP X pins σ Q) X.xe s₂) X.xe s₁) X.xe s
theorem vP (b:Expr){op:CmpOp}(h:op≠.In)(h2:op≠.NotIn):behindInMarks op b=false:=by
 have e1:(op == CmpOp.In)=false:=by cases op<;>first | rfl | exact absurd rfl h
 have e2:(op == CmpOp.NotIn)=false:=by cases op<;>first | rfl | exact absurd rfl h2
 cases b<;>simp[behindInMarks,e1,e2]
def Hg (ta:TE):TE:=fun σ H Q=>ta σ H fun x H1=>Q (.bl (decide (x=.non))) H1
def F7 (ta:TE):TE:=fun σ H Q=>ta σ H fun x H1=>Q (.bl (!decide (x=.non))) H1
theorem aP.none_iff {x:V}{v:Value}(r:aP x v):(v == Value.none)=decide (x=.non):=by
 cases x with
 | non=>cases r;rfl
 | bl _=>cases r;rfl
 | int _=>obtain⟨t,rfl⟩:=r;rfl
 | str _=>obtain⟨t,rfl⟩:=r;rfl
 | byt _=>obtain⟨t,rfl⟩:=r;rfl
 | flt _=>obtain⟨t,rfl⟩:=r;rfl
 | ref _=>cases r;rfl
 | ty _=>cases r;rfl
theorem xG {j pos'}(ha:PE X a ta):PC X .Is a (.Constant .none j pos') (Hg ta):=by
 intro pins s σ H Q I h;refine bq (ha pins s σ H _ I h) fun v s1 ⟨x,H1,I1,r1,q1⟩=>?_;exact Constant_none (is_none_gen ⟨.bl _,H1,I1,by rw[r1.none_iff];rfl,q1⟩)
theorem yx {j pos'}(ha:PE X a ta):PC X .IsNot a (.Constant .none j pos') (F7 ta):=by
 intro pins s σ H Q I h;refine bq (ha pins s σ H _ I h) fun v s1 ⟨x,H1,I1,r1,q1⟩=>?_;exact Constant_none (isnot_none_gen ⟨.bl _,H1,I1,by rw[r1.none_iff];rfl,q1⟩)
inductive Hq (Q:Bool->Hp->Prop) (x:V) (H:Hp):Prop
 | mk (c:Bool) (e:x=.bl c) (h:Q c H)
def tB (t:TE):TT:=fun σ H Q=>t σ H fun x H1=>Hq Q x H1
theorem EK {op:CmpOp}{t:TE}(h:PC X op a b t)(h1:behindInMarks op b=false:=by first | exact vP _ (by decide) (by decide) | rfl):PE X (.Compare a [op] [b] pos) t:=fun pins s σ H Q I hw=>wpAny_Compare1 (h pins s σ H Q I hw) h1
theorem ed {op:CmpOp}{t:TE}(h:PC X op a b t)(h1:behindInMarks op b=false:=by first | exact vP _ (by decide) (by decide) | rfl):PT X (.Compare a [op] [b] pos) (tB t):=by
 intro pins s σ H Q I hw;refine wpAny_isTrue_Compare1 (bq (h pins s σ H _ I hw) fun v s1 h1=>bq h1 fun u s2 h2=>bq h2 fun c s3 ⟨x,H1,I1,r1,q1⟩=>?_) h1;obtain⟨d,rfl,q⟩:=q1;cases r1;exact JG ⟨H1,I1,q⟩
theorem fK {e:Expr}{t:TE}(h:PE X e t)(he:∀ whole,isTrue e X.env whole=(do let v <-whole;standAt e.pos;holding [v] (truthy v)):=by intro _;rfl):PT X e (tB t):=by
 intro pins s σ H Q I hw;refine isTrue_plain (bq (h pins s σ H _ I hw) fun v s1 ⟨x,H1,I1,r1,q1⟩=>?_) (he _);obtain⟨d,rfl,q⟩:=q1;cases r1;exact JG ⟨H1,I1,q⟩
variable {tA tB':TT}{rest:List Expr}
def Hb (t u:TT):TT:=fun σ H Q=>t σ H fun c H1=>if c=true then u σ H1 Q else Q false H1
def Ig (t u:TT):TT:=fun σ H Q=>t σ H fun c H1=>if c=true then Q true H1 else u σ H1 Q
def Hh (t:TT):TT:=fun σ H Q=>t σ H fun c H1=>Q (!c) H1
theorem eG (ha:PT X a tA):PW X (.BoolOp .And [a] pos) tA:=by
 intro wh pins s σ H Q I h;refine isTrue_and (bq (ha pins s σ H Q I h) fun c s1 e=>?_)
 cases c with
 | true=>exact isTrue_and_nil e
 | false=>exact e
theorem uC (ha:PT X a tA):PW X (.BoolOp .Or [a] pos) tA:=by
 intro wh pins s σ H Q I h;refine isTrue_or (bq (ha pins s σ H Q I h) fun c s1 e=>?_)
 cases c with
 | false=>exact isTrue_or_nil e
 | true=>exact e
theorem gL (ha:PT X a tA)(hb:PW X (.BoolOp .And (b::rest) pos) tB'):PW X (.BoolOp .And (a::b::rest) pos) (Hb tA tB'):=by
 intro wh pins s σ H Q I h;refine isTrue_and (bq (ha pins s σ H _ I h) fun c s1 ⟨H1,I1,q1⟩=>?_)
 cases c with
 | true=>exact hb wh pins s1 σ H1 Q I1 q1
 | false=>exact⟨H1,I1,q1⟩
theorem yB (ha:PT X a tA)(hb:PW X (.BoolOp .Or (b::rest) pos) tB'):PW X (.BoolOp .Or (a::b::rest) pos) (Ig tA tB'):=by
 intro wh pins s σ H Q I h;refine isTrue_or (bq (ha pins s σ H _ I h) fun c s1 ⟨H1,I1,q1⟩=>?_)
 cases c with
 | true=>exact⟨H1,I1,q1⟩
 | false=>exact hb wh pins s1 σ H1 Q I1 q1
theorem fJ (ha:PT X a tA):PT X (.UnaryOp .Not a pos) (Hh tA):=by
 intro pins s σ H Q I h;exact isTrue_not (ha pins s σ H (fun c H1=>Q (!c) H1) I h)
def F1 (ta tb:TE):TE:=fun σ H Q=>ta σ H fun x H1=>∃ c,x=.bl c/\if c=true then tb σ H1 Q else Q (.bl false) H1
theorem EM {op}{t:TE}(h:PE X a t):PE X (.BoolOp op [a] pos) t:=fun pins s σ H Q I hw=>BoolOp_one (h pins s σ H Q I hw)
theorem EJ (ha:PE X a ta)(hb:PE X (.BoolOp .And (b::rest) pos) tb):PE X (.BoolOp .And (a::b::rest) pos) (F1 ta tb):=by
 intro pins s σ H Q I h;refine BoolOp_and (bq (ha pins s σ H _ I h) fun v s1 ⟨x,H1,I1,r1,q1⟩=>?_);obtain⟨c,rfl,q1⟩:=q1;cases r1;refine JG ?_
 cases c with
 | true=>exact hb pins s1 σ H1 Q I1 q1
 | false=>exact⟨.bl false,H1,I1,rfl,q1⟩
end
def bx (K:PySem.W.Frag)(H:Hp)(a:Addr)(xs:List V):Prop :=
 Rd H a (.lst xs) \/
  ∃ (o:Obj)(its:Array Value)(n:Nat),K.lookup a=some o/\o.cls=.type "list"/\o.dict=none/\o.data=.seq its n/\its.size<=sizeLine/\aU xs its.toList
def c7 (K:PySem.W.Frag)(H:Hp)(a:Addr)(xs:List V):Prop :=
 Rd H a (.tup xs) \/
  ∃ (o:Obj)(its:Array Value)(n:Nat),K.lookup a=some o/\o.cls=.type "tuple"/\o.data=.seq its n/\its.size<=sizeLine/\aU xs its.toList
def GG:Value->Option V
 | .none=>some .non
 | .bool b=>some (.bl b)
 | .int i _=>some (.int i)
 | .str x _=>some (.str x)
 | .bytes b _=>some (.byt b)
 | .float b _=>some (.flt b)
 | .ref a=>some (.ref a)
 | .type n=>some (.ty n)
 | _=>none
theorem aP.abs {x:V}{u:Value}(r:aP x u):GG u=some x:=by
 cases x with
 | non=>cases r;rfl
 | bl _=>cases r;rfl
 | int _=>obtain⟨t,rfl⟩:=r;rfl
 | str _=>obtain⟨t,rfl⟩:=r;rfl
 | byt _=>obtain⟨t,rfl⟩:=r;rfl
 | flt _=>obtain⟨t,rfl⟩:=r;rfl
 | ref _=>cases r;rfl
 | ty _=>cases r;rfl
theorem aP.inj {x y:V}{u:Value}(r:aP x u)(q:aP y u):x=y:=IA (r.abs.symm.trans q.abs)
theorem aU.inj:∀ {xs ys:List V}{us:List Value},aU xs us->aU ys us->xs=ys
 | _,_,_,.nil,.nil=>rfl
 | _,_,_,.cons r t,.cons r' t'=>by rw[r.inj r',aU.inj t t']
section
variable {X:Cx}{pins:List (Addr×Obj)}{σ:St}{H:Hp}{s:Shared}{a:Addr}{xs ys:List V}
theorem bx.of {K:PySem.W.Frag}(h:H a=some (.lst xs)):bx K H a xs:=.inl (.inl h)
theorem c7.of {K:PySem.W.Frag}(h:H a=some (.tup xs)):c7 K H a xs:=.inl (.inl h)
theorem aA.list (I:aA X pins σ H s)(h:bx X.K H a xs):∃ its:List Value,aU xs its/\PlainL s.heap a its.toArray/\xs.length<=sizeLine:=by
 rcases h with h | ⟨o,its,n,hk,hc,hd,hs,hz,r⟩
 ·obtain⟨z,its,n,r,e⟩:=h.ok I.hok
  exact⟨its,r,⟨_,n,e,rfl,rfl,rfl⟩,z⟩
 ·refine⟨its.toList,r,⟨o,n,I.kIn a o hk,hc,hd,by simpa using hs⟩,?_⟩
  have e:=r.length;simp only[Jj]at e;omega
theorem aA.tuple (I:aA X pins σ H s)(h:c7 X.K H a xs):∃ its:List Value,aU xs its/\IsTup s.heap a its.toArray/\xs.length<=sizeLine:=by
 rcases h with h | ⟨o,its,n,hk,hc,hs,hz,r⟩
 ·obtain⟨z,its,r,p⟩:=h.ok I.hok
  exact⟨its,r,p.old,z⟩
 ·refine⟨its.toList,r,⟨o,I.kIn a o hk,hc,n,by simpa using hs⟩,?_⟩
  have e:=r.length;simp only[Jj]at e;omega
theorem aA.list_inj (I:aA X pins σ H s)(h:bx X.K H a xs)(h':bx X.K H a ys):xs=ys:=by
 obtain⟨its,r,⟨o,n,e,_,_,d⟩,_⟩:=I.list h;obtain⟨its',r',⟨o',n',e',_,_,d'⟩,_⟩:=I.list h';rw[e]at e';cases e';rw[d]at d';injection d' with d1 _
 have:its=its':=by simpa using J3 Array.toList d1
 subst this;exact r.inj r'
theorem aA.tuple_inj (I:aA X pins σ H s)(h:c7 X.K H a xs)(h':c7 X.K H a ys):xs=ys:=by
 obtain⟨its,r,⟨o,e,_,n,d⟩,_⟩:=I.tuple h;obtain⟨its',r',⟨o',e',_,n',d'⟩,_⟩:=I.tuple h';rw[e]at e';cases e';rw[d]at d';injection d' with d1 _
 have:its=its':=by simpa using J3 Array.toList d1
 subst this;exact r.inj r'
end
abbrev Cx.wish (X:Cx)(E:Value->Shared->Prop):Cx:={ X with xe:=E }
abbrev Cx.nox (X:Cx):Cx:=X.wish fun _ _=>False
theorem Cx.Ok.wish {X:Cx}(ok:X.Ok)(E:Value->Shared->Prop):(X.wish E).Ok :=
 ⟨ok.mod,ok.kind,ok.glob,ok.blt,ok.above,ok.inj,ok.has,ok.cab,ok.hd,ok.frames,ok.stk,ok.exf,ok.bs,ok.bsz,ok.noex,ok.exfs,ok.funs,ok.frf⟩
theorem Cx.Ok.unwish {X:Cx}{E:Value->Shared->Prop}(ok:(X.wish E).Ok):X.Ok :=
 ⟨ok.mod,ok.kind,ok.glob,ok.blt,ok.above,ok.inj,ok.has,ok.cab,ok.hd,ok.frames,ok.stk,ok.exf,ok.bs,ok.bsz,ok.noex,ok.exfs,ok.funs,ok.frf⟩
section
variable {X:Cx}{pins:List (Addr×Obj)}{σ:St}{H:Hp}{s:Shared}{E:Value->Shared->Prop}
theorem aA.wish (I:aA X pins σ H s)(E:Value->Shared->Prop):aA (X.wish E) pins σ H s:=⟨I.ok.wish E,I.os,I.bare,I.base,I.loc,I.cell,I.free,I.freeC,I.pin,I.hok,I.len⟩
theorem aA.unwish (I:aA (X.wish E) pins σ H s):aA X pins σ H s:=⟨I.ok.unwish,I.os,I.bare,I.base,I.loc,I.cell,I.free,I.freeC,I.pin,I.hok,I.len⟩
theorem SP.unwish {D:kE}{f:Flow}{s':Shared}(h:SP (X.wish E) pins D f s'):SP X pins D f s':=by
 cases f with
 | next=>obtain⟨σ',H',I,q⟩:=h;exact⟨σ',H',I.unwish,q⟩
 | brk=>obtain⟨σ',H',I,q⟩:=h;exact⟨σ',H',I.unwish,q⟩
 | cont=>obtain⟨σ',H',I,q⟩:=h;exact⟨σ',H',I.unwish,q⟩
 | ret u=>obtain⟨v,σ',H',I,r,q⟩:=h;exact⟨v,σ',H',I.unwish,r,q⟩
theorem uV.nox {st:List Stmt}{t:TS}(h:uV X.nox st t):uV X st t:=fun pins s σ H D I hw =>
 Jv (h pins s σ H D (I.wish _) hw) (fun _ _ q=>q.unwish) fun _ _ z=>False.elim z
end
section
variable {X:Cx}{st:Stmt}{rest:List Stmt}{t u:TS}{e:Expr}{te:TE}{pos:Pos}
def F6:TS:=fun D σ H=>D.nx σ H
def C8 (t u:TS):TS:=fun D σ H=>t { D with nx:=u D } σ H
theorem ax:uV X [] F6:=fun _ _ σ H _ I h=>wpAny_execs_nil ⟨σ,H,I,h⟩
theorem ae (h1:PS X st t)(h2:uV X rest u):uV X (st::rest) (C8 t u):=by
 intro pins s σ H D I h;refine wpAny_execs_cons (bq (h1 pins s σ H { D with nx:=u D } I h) fun f s1 q=>?_)
 cases f with
 | next =>
  obtain⟨σ',H',I',q⟩:=q;exact h2 pins s1 σ' H' D I' q
 | ret v=>exact q
 | brk=>exact q
 | cont=>exact q
theorem ag (h1:PS X st t):uV X [st] t:=by
 intro pins s σ H D I h;refine wpAny_execs_cons (bq (h1 pins s σ H D I h) fun f s1 q=>?_)
 cases f with
 | next=>exact wpAny_execs_nil q
 | ret v=>exact q
 | brk=>exact q
 | cont=>exact q
theorem aA.quiet {pins:List (Addr×Obj)}{σ:St}{H:Hp}{s:Shared}(I:aA X pins σ H s):interactive X.env=false:=by simp[interactive,I.ok.kind]
def F4 (te:TE):TS:=fun D σ H=>te σ H fun _ H1=>D.nx σ H1
theorem aN (he:PE X e te)(hs:swapsWith e none pos.line X.env=pure false:=by rfl):PS X (.Expr e pos) (F4 te):=by
 intro pins s σ H D I h;exact wpAny_Expr_any (bq (he pins s σ H _ I h) fun v s1 ⟨x,H1,I1,r1,q1⟩=>⟨σ,H1,I1,q1⟩) I.quiet hs
def Hi (te:TE):TS:=fun D σ H=>te σ H D.rt
theorem aq (he:PE X e te):PS X (.Return (some e) pos) (Hi te):=by
 intro pins s σ H D I h;exact wpAny_Return_some (bq (he pins s σ H _ I h) fun v s1 ⟨x,H1,I1,r1,q1⟩=>⟨x,σ,H1,I1,r1,q1⟩)
def Hf (c:TT)(t u:TS):TS:=fun D σ H=>c σ H fun b H1=>if b=true then t D σ H1 else u D σ H1
theorem aO {c:Expr}{a b:List Stmt}{tc:TT}(hc:PT X c tc)(ha:uV X a t)(hb:uV X b u):PS X (.If c a b pos) (Hf tc t u):=by
 intro pins s σ H D I h;refine wpAny_If (bq (hc pins s σ H _ I h) fun d s1 ⟨H1,I1,q1⟩=>?_)
 cases d with
 | true=>exact ha pins s1 σ H1 D I1 q1
 | false=>exact hb pins s1 σ H1 D I1 q1
def E2:TS:=fun _ _ _=>False
theorem nu {sts:List Stmt}:uV X sts E2:=fun _ _ _ _ _ _ h=>h.elim
end
abbrev TG:=V->St->Hp->(St->Hp->Prop)->Prop
abbrev BY:=List V->St->Hp->(St->Hp->Prop)->Prop
def PG (X:Cx)(target:Expr)(t:TG):Prop :=
 ∀ (pins:List (Addr×Obj))(s:Shared)(σ:St)(H:Hp)(v:V)(u:Value)(Q:St->Hp->Prop),aA X pins σ H s->aP v u->t v σ H Q ->
  wpAny (model X.prog X.w) X.A (assign target X.env u) (fun _ s'=>∃ σ' H',aA X pins σ' H' s'/\Q σ' H') X.xe s
def Gf (X:Cx)(ts:List Expr)(t:BY):Prop :=
 ∀ (pins:List (Addr×Obj))(s:Shared)(σ:St)(H:Hp)(vs:List V)(us:List Value)(Q:St->Hp->Prop),aA X pins σ H s->aU vs us->t vs σ H Q ->
  wpAny (model X.prog X.w) X.A (assignInOrder ((assignEach ts X.env).map (·.2)) us) (fun _ s'=>∃ σ' H',aA X pins σ' H' s'/\Q σ' H') X.xe s
section
variable {X:Cx}{pos:Pos}
def jc (i:Nat):TG:=fun v σ H Q=>Q (σ.set i (some v)) H
theorem jP {i:Nat}{x:Str}(hN:X.N.Nodup)(hi:X.N[i]? = some x)(hx:De X.env.scope x)(hf:X.fn x=true\/X.env.scope.names.lookup x=some .local:=by first | exact .inl rfl | exact .inr rfl | assumption):PG X (.Name x pos) (jc i):=by
 intro pins s σ H v u Q I r h;exact wpAny_assign_Name (wD I hN hi hx r (fun s' I'=>⟨_,H,I',h⟩) hf)
def GK:BY:=fun vs σ H Q=>vs=[]/\Q σ H
inductive GC (t:TG) (u:BY) (vs:List V) (σ:St) (H:Hp) (Q:St->Hp->Prop):Prop
 | mk (v:V) (r:List V) (e:vs=v::r) (h:t v σ H fun σ' H'=>u r σ' H' Q)
def Fz (t:TG)(u:BY):BY:=fun vs σ H Q=>GC t u vs σ H Q
theorem pk:Gf X [] GK:=by
 intro pins s σ H vs us Q I r h;obtain⟨e,h⟩:=h;subst e;cases r;exact assignInOrder_nil ⟨σ,H,I,h⟩
theorem du {e:Expr}{es:List Expr}{t:TG}{u:BY}(h1:PG X e t)(h2:Gf X es u)
  (hs:(assignEach (e::es) X.env).map (·.2)=assign e X.env::(assignEach es X.env).map (·.2):=by rfl):Gf X (e::es) (Fz t u):=by
 intro pins s σ H vs us Q I r h;obtain⟨v,vr,e1,h⟩:=h;subst e1
 cases r with
 | cons r rr =>
  rw[hs];refine assignInOrder_cons (bq (h1 pins s σ H _ _ _ I r h) fun _ s1 ⟨σ1,H1,I1,q1⟩=>?_);exact h2 pins s1 σ1 H1 _ _ Q I1 rr q1
inductive GT (K:PySem.W.Frag) (n:Nat) (t:BY) (v:V) (σ:St) (H:Hp) (Q:St->Hp->Prop):Prop
 | mk (a:Addr) (xs:List V) (e:v=.ref a) (q:c7 K H a xs) (l:xs.length=n) (h:t xs σ H Q)
def GL (K:PySem.W.Frag)(n:Nat)(t:BY):TG:=fun v σ H Q=>GT K n t v σ H Q
theorem uy {es:List Expr}{k:Nat}{t:BY}{n:Nat}(hc:X.calm=true)(h:Gf X es t)
  (hn:(assignEach es X.env).length=n:=by rfl) (hst:(assignEach es X.env).findIdx? (·.1)=none:=by rfl):PG X (.Tuple es k pos) (GL X.K n t):=by
 intro pins s σ H v u Q I r hw;obtain⟨a,xs,e1,hq,hl,hw⟩:=hw;subst e1;cases r;obtain⟨its,rv,ht,hz⟩:=I.tuple hq;refine assign_Tuple_tuple (I.ok.hd hc) ht (by simp[hn,<-hl,rv.length]) hst fun h' hx=>?_;have I1:aA X pins σ H { s with heap:=h' }:=I.kept (t':=s.toks) fun b o e=>hx b o (IW (II e)) e;exact h pins _ σ H xs _ Q I1 (by simpa using rv) hw
def BI (te:TE)(g:TG):TS:=fun D σ H=>te σ H fun x H1=>g x σ H1 D.nx
theorem xJ {tg e:Expr}{te:TE}{g:TG}(he:PE X e te)(hg:PG X tg g)(hs:swapsWithSole [tg] e pos.line X.env=pure false:=by rfl)(hw:swappedStores [tg] e X.env=pure none:=by rfl)
  (h1:(assignEach [tg] X.env).map (·.2)=[assign tg X.env]:=by rfl):PS X (.Assign [tg] e pos) (BI te g):=by
 intro pins s σ H D I h;refine wpAny_Assign_stores (bq (he pins s σ H _ I h) fun v s1 ⟨x,H1,I1,r1,q1⟩=>?_) hs hw;rw[h1];exact bq (hg pins s1 σ H1 x v _ I1 r1 q1) fun _ s2 q=>q
theorem dm {i:Nat}{x:Str}{e:Expr}{te:TE}{pos':Pos}(hN:X.N.Nodup)(hi:X.N[i]? = some x)(hx:De X.env.scope x)(he:PE X e te)(hs:swapsWith e (some (.Name x pos')) pos.line X.env=pure false:=by rfl)(hf:X.fn x=true\/X.env.scope.names.lookup x=some .local:=by first | exact .inl rfl | exact .inr rfl | assumption) :
  PS X (.Assign [.Name x pos'] e pos) (BI te (jc i)):=by
 intro pins s σ H D I h;refine wpAny_Assign_Name (bq (he pins s σ H _ I h) fun v s1 ⟨y,H1,I1,r1,q1⟩=>?_) hs;exact wD I1 hN hi hx r1 (fun s2 I2=>⟨_,H1,I2,q1⟩) hf
end
section
variable {X:Cx}{pos:Pos}
def E4 (c:TT)(tb:TS):TS:=fun D σ H=>∃ W:Nat->St->Hp->Prop,(∃ m,W m σ H)/\∀ m σ H,W m σ H ->
 c σ H fun b H1=>if b=true then ∃ N:St->Hp->Prop,(∀ σ' H',N σ' H'->∃ m',m'<m/\W m' σ' H')/\tb { D with nx:=N,ct:=N,bk:=D.nx } σ H1 else D.nx σ H1
theorem wj {c:Expr}{body:List Stmt}{tc:TT}{tb:TS}(hp:PassesOwn (model X.prog X.w) X.A X.env X.xe)(hc:PT X c tc)(hb:uV X body tb):PS X (.While c body [] pos) (E4 tc tb):=by
 intro pins s σ H D I h;obtain⟨W,⟨m0,w0⟩,turn⟩:=h;refine wpAny_While (codeAny_whileLoop (fun n s'=>∃ σ' H',aA X pins σ' H' s'/\W n σ' H') ?_ m0 ⟨σ,H,I,w0⟩);rintro n s1 ⟨σ1,H1,I1,w1⟩;refine JX hp (bq (hc pins s1 σ1 H1 _ I1 (turn n σ1 H1 w1)) fun b s2 ⟨H2,I2,q2⟩=>?_)
 cases b with
 | true =>
  obtain⟨N,hN,q2⟩:=q2;rw[Iu rfl];refine JX hp (bq (hb pins s2 σ1 H2 _ I2 q2) fun f s3 q3=>?_)
  cases f with
  | next =>
   obtain⟨σ3,H3,I3,n3⟩:=q3;obtain⟨m',hm,w3⟩:=hN σ3 H3 n3;exact⟨m',hm,σ3,H3,I3,w3⟩
  | cont =>
   obtain⟨σ3,H3,I3,n3⟩:=q3;obtain⟨m',hm,w3⟩:=hN σ3 H3 n3;exact⟨m',hm,σ3,H3,I3,w3⟩
  | brk=>exact q3
  | ret v=>exact q3
 | false =>
  rw[Ir Iz];exact wpAny_execs_nil ⟨σ1,H2,I2,q2⟩
end
structure It where
 go:Nat->Hp->Prop
 yld:Nat->Hp->V->Hp->Prop
 stop:Nat->Hp->Prop
def kF (X:Cx)(pins:List (Addr×Obj))(H:Hp)(b:Addr):Prop :=
 H b=none/\b≠X.env.locals/\b∉X.fs/\(b∈X.ex\/X.s₀.heap.objs.size<=b)/\(∀ x c,X.env.cells.lookup x=some c->c≠b)/\∀ p∈X.pn++pins,p.1≠b
theorem aA.fpOk {X:Cx}{pins:List (Addr×Obj)}{σ:St}{H H':Hp}{s:Shared}{b:Addr}(I:aA X pins σ H s)(hb:s.heap.objs.size<=b)(hn:H' b=none):kF X pins H' b:=by
 refine⟨hn,Nat.ne_of_gt (IT I.lt hb),I.nofs hb,.inr (IY I.sz hb),fun x c e z=>?_,fun p hp z=>?_⟩
 ·obtain⟨v,q⟩:=I.cell x c e
  exact absurd (IT q.lt (by rw[z];exact hb)) (Nat.lt_irrefl _)
 ·exact absurd (IT (II (I.pin p hp).1) (by rw[z];exact hb)) (Nat.lt_irrefl _)
structure y9 (P:Program)(w:World)(K:PySem.W.Frag)(tg:Expr)(J:It)(fp:List Addr)(it:Addr)(tn:Nat->Heap->Prop):Prop where
 mem:it∈fp
 obj:∀ i h,tn i h->∀ b∈fp,∃ o,h.get? b=some o/\∀ v,o.data≠.cell v
 keep:∀ i h h',tn i h->(∀ b∈fp,∀ o,h.get? b=some o->h'.get? b=some o)->tn i h'
 item:∀ (X:Cx),X.prog=P->X.w=w->X.K=K->X.calm=true->∀ (i:Nat)(pins:List (Addr×Obj))(s:Shared)(σ:St)(H:Hp)(E:Value->Shared->Prop),aA X pins σ H s->(∀ b∈fp,kF X pins H b)->tn i s.heap->J.go i H ->
  wpAny (model P w) X.A (pyNext (.ref it)) (fun r s1=>∃ u,r=some u /\
   wpAny (model P w) X.A (letOwnedTupleGo tg (.ref it) u) (fun _ s2=>∃ x H',aA X pins σ H' s2/\aP x u/\J.yld i H x H'/\tn (i+1) s2.heap/\∀ b∈fp,H' b=none) E s1) E s
 done:∀ (X:Cx),X.prog=P->X.w=w->X.K=K->X.calm=true->∀ (i:Nat)(pins:List (Addr×Obj))(s:Shared)(σ:St)(H:Hp)(E:Value->Shared->Prop),aA X pins σ H s->(∀ b∈fp,kF X pins H b)->tn i s.heap->J.stop i H ->
  wpAny (model P w) X.A (pyNext (.ref it)) (fun r s1=>r=none/\aA X pins σ H s1) E s
 self:∀ (A:Around)(i:Nat)(s:Shared)(Q:Value->Shared->Prop)(E:Value->Shared->Prop),tn i s.heap->Q (.ref it) s->wpAny (model P w) A (pyIter (.ref it)) Q E s
abbrev TI:=St->Hp->(It->Hp->Prop)->Prop
def Hn (X:Cx)(pins:List (Addr×Obj))(σ:St)(tg:Expr)(R:It->Hp->Prop)(itv:Value)(s2:Shared):Prop :=
 ∃ (it:Addr)(fp:List Addr)(tn:Nat->Heap->Prop)(J:It)(H':Hp),itv=.ref it/\aA X pins σ H' s2/\y9 X.prog X.w X.K tg J fp it tn/\tn 0 s2.heap/\(∀ b∈fp,kF X pins H' b)/\R J H'
def PI (X:Cx)(tg aS:Expr)(wi:TI):Prop :=
 ∀ (pins:List (Addr×Obj))(s:Shared)(σ:St)(H:Hp)(R:It->Hp->Prop),aA X pins σ H s->wi σ H R ->
  wpAny (model X.prog X.w) X.A (eval aS X.env) (fun v s1=>wpAny (model X.prog X.w) X.A (pyIter v) (Hn X pins σ tg R) X.xe s1) X.xe s
theorem yi {M:Model}{A:Around}{E:Value->Shared->Prop}{s:Shared}{tg:Expr}{it:Addr}{u:Value}{o:Obj}{n:String}{vs:Array Value}{Q:Unit->Shared->Prop}(ho:s.heap.get? it=some o)(hc:o.cls=.type n)(hd:o.data=.fields vs)
  (hn:["enumerate","zip","dict_itemiterator","dict_reverseitemiterator","odict_iterator","itertools.zip_longest","itertools.pairwise"].contains n=false) (hQ:Q () s):wpAny M A (letOwnedTupleGo tg (.ref it) u) Q E s:=by
 unfold letOwnedTupleGo
 cases tg<;>first
  | exact IP hQ
  | (cases u<;>first
    | exact IP hQ
    | (refine Iv (wpAny_load ho ?_)
       rw[hc,hd]
       show wpAny M A (if (["enumerate","zip","dict_itemiterator","dict_reverseitemiterator","odict_iterator","itertools.zip_longest","itertools.pairwise"].contains n&&vs[0]? == some (rawInt _))=true then _ else _) Q E s
       rw[Ir (by intro h;rw[hn,Bool.false_and]at h;cases h)]
       exact IP hQ))
def Dd (K:PySem.W.Frag)(a:Addr):It :=
 ⟨fun i H=>∃ xs x,bx K H a xs/\xs[i]? = some x,fun i H x H'=>H'=H/\∀ xs,bx K H a xs->xs[i]? = some x,fun i H=>∃ xs,bx K H a xs/\xs.length<=i⟩
def Fl (K:PySem.W.Frag)(a:Addr):It :=
 ⟨fun i H=>∃ xs x,c7 K H a xs/\xs[i]? = some x,fun i H x H'=>H'=H/\∀ xs,c7 K H a xs->xs[i]? = some x,fun i H=>∃ xs,c7 K H a xs/\xs.length<=i⟩
def E9 (lo:Int)(n:Nat):It:=⟨fun i _=>i<n,fun i H x H'=>H'=H/\x=.int (lo+i),fun i _=>n<=i⟩
theorem z9 {P:Program}{w:World}{K:PySem.W.Frag}{tg:Expr}(a it:Addr):y9 P w K tg (Dd K a) [it] it (fun i h=>h.IsListIter it a i) where
 mem:=by simp
 obj:=fun i h st b hb=>by
  have e:b=it:=by simpa using hb
  subst e;obtain⟨o,e,c,d⟩:=st;exact⟨o,e,fun v z=>by rw[d]at z;cases z⟩
 keep:=fun i h h' st k=>st.at fun o e=>k it (by simp) o e
 item:=by
  intro X hP hw hK hc i pins s σ H E I hf st hg;subst hP hw hK;obtain⟨xs,x,hq,hx⟩:=hg;obtain⟨its,rv,p,hz⟩:=I.list hq;obtain⟨u,hu,ru⟩:=rv.get hx;obtain⟨f0,f1,f2,f3,f4,f5⟩:=hf it (by simp);refine wpAny_pyNext_list_item st p.isList (x:=u) (by simpa using hu) fun h' st' sb=>?_;have I1:aA X pins σ H { s with heap:=h' }:=I.turned (t':=s.toks) (fun b o hb e=>(sb.2 b hb).trans e) f0 f1 f3 f4 f5;obtain⟨o,e,c,d⟩:=id st';exact⟨u,rfl,yi (s:={ s with heap:=h' }) e c d (by decide) ⟨x,H,I1,ru,⟨rfl,fun ys hy=>by rw[I.list_inj hy hq];exact hx⟩,st',fun b hb=>(hf b hb).1⟩⟩
 done:=by
  intro X hP hw hK hc i pins s σ H E I hf st hg;subst hP hw hK;obtain⟨xs,hq,hx⟩:=hg;obtain⟨its,rv,p,hz⟩:=I.list hq;obtain⟨f0,f1,f2,f3,f4,f5⟩:=hf it (by simp);have hl:=rv.length;exact wpAny_pyNext_list_end (I.ok.hd hc) st p.isList (by simp;omega) fun h' eb=>⟨rfl,I.turned (t':=s.toks) (fun b o hb e=>eb b o hb e) f0 f1 f3 f4 f5⟩
 self:=fun _ _ _ _ _ st h=>wpAny_pyIter_listiter st h
theorem x0 {P:Program}{w:World}{K:PySem.W.Frag}{tg:Expr}(a it:Addr):y9 P w K tg (Fl K a) [it] it (fun i h=>h.IsTupleIter it a i) where
 mem:=by simp
 obj:=fun i h st b hb=>by
  have e:b=it:=by simpa using hb
  subst e;obtain⟨o,e,c,d⟩:=st;exact⟨o,e,fun v z=>by rw[d]at z;cases z⟩
 keep:=fun i h h' st k=>st.at fun o e=>k it (by simp) o e
 item:=by
  intro X hP hw hK hc i pins s σ H E I hf st hg;subst hP hw hK;obtain⟨xs,x,hq,hx⟩:=hg;obtain⟨its,rv,p,hz⟩:=I.tuple hq;obtain⟨u,hu,ru⟩:=rv.get hx;obtain⟨f0,f1,f2,f3,f4,f5⟩:=hf it (by simp);refine wpAny_pyNext_tuple_item st (show s.heap.IsTuple a its.toArray from p) (x:=u) (by simpa using hu) fun h' st' sb=>?_;have I1:aA X pins σ H { s with heap:=h' }:=I.turned (t':=s.toks) (fun b o hb e=>(sb.2 b hb).trans e) f0 f1 f3 f4 f5;obtain⟨o,e,c,d⟩:=id st';exact⟨u,rfl,yi (s:={ s with heap:=h' }) e c d (by decide) ⟨x,H,I1,ru,⟨rfl,fun ys hy=>by rw[I.tuple_inj hy hq];exact hx⟩,st',fun b hb=>(hf b hb).1⟩⟩
 done:=by
  intro X hP hw hK hc i pins s σ H E I hf st hg;subst hP hw hK;obtain⟨xs,hq,hx⟩:=hg;obtain⟨its,rv,p,hz⟩:=I.tuple hq;obtain⟨f0,f1,f2,f3,f4,f5⟩:=hf it (by simp);have hl:=rv.length;exact wpAny_pyNext_tuple_end (I.ok.hd hc) st (show s.heap.IsTuple a its.toArray from p) (by simp;omega) fun h' eb=>⟨rfl,I.turned (t':=s.toks) (fun b o hb e=>eb b o hb e) f0 f1 f3 f4 f5⟩
 self:=fun _ _ _ _ _ st h=>wpAny_pyIter_tupleiter st h
theorem xZ {P:Program}{w:World}{K:PySem.W.Frag}{tg:Expr}(it:Addr)(lo:Int)(n:Nat):y9 P w K tg (E9 lo n) [it] it (fun i h=>IsRangeIter h it (lo+(i:Nat)*1) ((n:Int)-(i:Nat)) 1) where
 mem:=by simp
 obj:=fun i h st b hb=>by
  have e:b=it:=by simpa using hb
  subst e
  exact⟨_,st,fun v z=>by
   have z':Data.fields _=Data.cell v:=z
   cases z'⟩
 keep:=fun i h h' st k=>k it (by simp) _ st
 item:=by
  intro X hP hw hK hc i pins s σ H E I hf st hg;subst hP hw hK;obtain⟨f0,f1,f2,f3,f4,f5⟩:=hf it (by simp);have W:=Walks.range (prog:=X.prog) (w:=X.w) (I.ok.hd hc) it lo 1 n;refine W.item i s _ _ hg st fun v h' tk hv st' kk=>?_;obtain⟨t,rfl⟩:=hv;have I1:aA X pins σ H { s with heap:=h',toks:=tk }:=I.turned (fun b o hb e=>kk b o (by simpa using hb) e) f0 f1 f3 f4 f5;refine⟨_,rfl,yi (s:={ s with heap:=h',toks:=tk }) (n:="range_iterator") st' rfl rfl (by decide) ⟨.int (lo+i),H,I1,⟨t,?_⟩,⟨rfl,rfl⟩,st',fun b hb=>(hf b hb).1⟩⟩;rw[Int.mul_one]
 done:=by
  intro X hP hw hK hc i pins s σ H E I hf st hg;subst hP hw hK;obtain⟨f0,f1,f2,f3,f4,f5⟩:=hf it (by simp);exact wpAny_pyNext_range_end (I.ok.hd hc) st (by have:n<=i:=hg;omega) fun h' eb=>⟨rfl,I.turned (t':=s.toks) (fun b o hb e=>eb b o hb e) f0 f1 f3 f4 f5⟩
 self:=fun _ _ _ _ _ st h=>wpAny_pyIter_rangeiter st h
section
variable {X:Cx}{tg:Expr}
inductive HB (K:PySem.W.Frag) (R:It->Hp->Prop) (x:V) (H:Hp):Prop
 | mk (a:Addr) (e:x=.ref a) (q:∃ xs,bx K H a xs) (h:R (Dd K a) H)
def AH (K:PySem.W.Frag)(tl:TE):TI:=fun σ H R=>tl σ H fun x H1=>HB K R x H1
def GN (K:PySem.W.Frag)(tl:TE):TI:=fun σ H R=>tl σ H fun x H1=>∃ a,x=.ref a/\(∃ xs,c7 K H1 a xs)/\R (Fl K a) H1
theorem cR {l:Expr}{tl:TE}(hl:PE X l tl):PI X tg l (AH X.K tl):=by
 intro pins s σ H R I h;refine bq (hl pins s σ H _ I h) fun v s1 ⟨x,H1,I1,r1,q1⟩=>?_;obtain⟨a,e,⟨xs,hq⟩,q⟩:=q1;subst e;cases r1;obtain⟨its,rv,p,hz⟩:=I1.list hq;refine wpAny_pyIter_list p.isList ?_;refine⟨s1.heap.objs.size,[s1.heap.objs.size],_,_,H1,rfl,I1.kept (t':=s1.toks) fun b o e=>Iw _ e,z9 a _,⟨_,IV _ rfl,rfl,rfl⟩,fun b hb=>?_,q⟩
 have e:b=s1.heap.objs.size:=by simpa using hb
 subst e;exact I1.fpOk (Ix _) (I1.hok.fresh (Ix _))
theorem Bc {l:Expr}{tl:TE}(hl:PE X l tl):PI X tg l (GN X.K tl):=by
 intro pins s σ H R I h;refine bq (hl pins s σ H _ I h) fun v s1 ⟨x,H1,I1,r1,q1⟩=>?_;obtain⟨a,e,⟨xs,hq⟩,q⟩:=q1;subst e;cases r1;obtain⟨its,rv,p,hz⟩:=I1.tuple hq;refine wpAny_pyIter_tuple (show s1.heap.IsTuple a its.toArray from p) ?_;refine⟨s1.heap.objs.size,[s1.heap.objs.size],_,_,H1,rfl,I1.kept (t':=s1.toks) fun b o e=>Iw _ e,x0 a _,⟨_,IV _ rfl,rfl,rfl⟩,fun b hb=>?_,q⟩
 have e:b=s1.heap.objs.size:=by simpa using hb
 subst e;exact I1.fpOk (Ix _) (I1.hok.fresh (Ix _))
theorem Bp {pins:List (Addr×Obj)}{σ:St}{H:Hp}{s:Shared}{R:It->Hp->Prop}{E:Value->Shared->Prop}{lo hi:Int}{t u v:Tok}{tk:Nat}(I:aA X pins σ H s)(h1 : -(2 ^ 62)<=lo)(h2:lo<2 ^ 62)(h3 : -(2 ^ 62)<=hi)(h4:hi<2 ^ 62)
  (q:R (E9 lo (hi-lo).toNat) H):wpAny (model X.prog X.w) X.A (pyIter (.ref s.heap.objs.size)) (Hn X pins σ tg R) E { s with heap:=s.heap.push { cls:=.type "range",data:=.fields #[.int lo t,.int hi u,.int 1 v] },toks:=tk }:=by
 refine wpAny_pyIter_range (IsRange.new ..) (small_one h1 h2 h3 h4) ?_;have I1:aA X pins σ H { s with heap:=s.heap.push { cls:=.type "range",data:=.fields #[.int lo t,.int hi u,.int 1 v] },toks:=tk }:=I.kept fun b o e=>Iw _ e
 refine⟨(s.heap.push { cls:=.type "range",data:=.fields #[.int lo t,.int hi u,.int 1 v] }).objs.size,[(s.heap.push { cls:=.type "range",data:=.fields #[.int lo t,.int hi u,.int 1 v] }).objs.size],_,_,H,rfl,
  I1.kept (t':=tk) fun b o e=>Iw _ e,xZ _ lo (hi-lo).toNat,?_,fun b hb=>?_,q⟩
 ·have e1:lo+((0:Nat):Int)*1=lo:=by simp
  have e2:(((hi-lo).toNat:Nat):Int)-((0:Nat):Int)=Builtin.Range.rangeSize lo hi 1:=by rw[rangeSize_one];split<;>omega
  show IsRangeIter _ _ (lo+((0:Nat):Int)*1) ((((hi-lo).toNat:Nat):Int)-((0:Nat):Int)) 1
  rw[e1,e2];exact IV _ rfl
 ·have e:b=(s.heap.push { cls:=.type "range",data:=.fields #[.int lo t,.int hi u,.int 1 v] }).objs.size:=by simpa using hb
  subst e;exact I1.fpOk (Ix _) (I1.hok.fresh (Ix _))
def FE (ta:TA):TI:=fun σ H R=>ta σ H fun vs H1=>∃ j:Int,vs=[.int j]/\-(2 ^ 62)<=j/\j<2 ^ 62/\R (E9 0 j.toNat) H1
theorem ni {a:Expr}{ta:TA}{p pos:Pos}(hg:Gl X "range")(hm:X.mg "range" = none)(ha:PA X [a] ta)(hs:starEach [a] X.env=[(false,eval a X.env)]:=by rfl):PI X tg (.Call (.Name "range" p) [a] [] pos) (FE ta):=by
 intro pins s σ H R I h;refine Call_ (mV I hg hm boot_range (PyProof.Rows.callWith_type1 (bq (ha pos pins s σ H _ I h) fun us s1 ⟨vs,H1,I1,r1,q1⟩=>?_) hs rfl));obtain⟨j,e,q1,q2,q⟩:=q1;subst e
 cases r1 with
 | cons r rr =>
  cases rr;obtain⟨t,rfl⟩:=r;exact call_range_1 (Bp I1 (by omega) (by omega) q1 q2 (by simpa using q))
def He (wi:TI)(g:TG)(tb:TS):TS:=fun D σ H=>wi σ H fun J H1=>∃ W:Nat->Nat->St->Hp->Prop,(∃ m,W 0 m σ H1)/\∀ i m σ H,W i m σ H ->
 (J.stop i H/\D.nx σ H)\/(J.go i H/\∃ N:St->Hp->Prop,(∀ σ' H',N σ' H'->∃ m',m'<m/\W (i+1) m' σ' H')/\∀ x H',J.yld i H x H'->g x σ H' fun σ2 H2=>tb { D with nx:=N,ct:=N,bk:=D.nx } σ2 H2)
def nj (fp:List Addr)(h:Heap):List (Addr×Obj):=fp.filterMap fun b=>(h.get? b).map fun o=>(b,o)
theorem d8 {fp:List Addr}{h:Heap}{b:Addr}{o:Obj}(hb:b∈fp)(e:h.get? b=some o):(b,o)∈nj fp h:=List.mem_filterMap.mpr ⟨b,hb,by rw[e];rfl⟩
theorem zN {fp:List Addr}{h:Heap}{p:Addr×Obj}(hp:p∈nj fp h):p.1∈fp/\h.get? p.1=some p.2:=by
 obtain⟨b,hb,e⟩:=List.mem_filterMap.mp hp
 cases q:h.get? b with
 | none=>rw[q]at e;cases e
 | some o =>
  rw[q]at e;have e':(b,o)=p:=IA e;subst e';exact⟨hb,q⟩
theorem aA.pinned {pins:List (Addr×Obj)}{σ:St}{H:Hp}{s:Shared}{fp:List Addr}(I:aA X pins σ H s)(hf:∀ b∈fp,kF X pins H b)(ho:∀ b∈fp,∃ o,s.heap.get? b=some o/\∀ v,o.data≠.cell v):aA X (pins++nj fp s.heap) σ H s :=
 I.pins_of fun p hp=>(IN.mp hp).elim (fun z=>I.pin p (Je _ z)) fun z=>by
  obtain⟨hb,e⟩:=zN z;obtain⟨f0,f1,f2,_⟩:=hf p.1 hb;obtain⟨o,e',d⟩:=ho p.1 hb;rw[e]at e';cases e';exact⟨e,f0,f1,f2,d⟩
theorem aA.unpinned {pins pl:List (Addr×Obj)}{σ:St}{H:Hp}{s:Shared}(I:aA X (pins++pl) σ H s):aA X pins σ H s:=I.pins_of fun p hp=>I.pin p (Je _ (List.mem_append_left _ hp))
theorem gK {aS:Expr}{body:List Stmt}{wi:TI}{g:TG}{tb:TS}{pos:Pos}(hp:PassesOwn (model X.prog X.w) X.A X.env X.xe)(hc:X.calm=true)(hi:PI X tg aS wi)(hg:PG X tg g)(hb:uV X body tb)
  (hs:∀ x,foldedSetIterable aS X.env x=pure x:=by intro _;rfl):PS X (.For tg aS body [] pos) (He wi g tb):=by
 intro pins s σ H D I h;refine wpAny_For (bq (hi pins s σ H _ I h) fun v s1 h1=>bq h1 fun itv s2 h2=>?_) hs;obtain⟨it,fp,tn,J,H2,e,I2,T,st2,f2,W,⟨m0,w0⟩,turn⟩:=h2;subst e;have stat:∀ {H':Hp},(∀ b∈fp,H' b=none)->∀ b∈fp,kF X pins H' b:=fun hn b hb=>⟨hn b hb,(f2 b hb).2⟩;refine codeAny_forLoop_any (fun n s'=>∃ i σ' H',aA X pins σ' H' s'/\tn i s'.heap/\(∀ b∈fp,H' b=none)/\W i n σ' H') ?_ m0 ⟨0,σ,H2,I2,st2,fun b hb=>(f2 b hb).1,w0⟩;rintro n s3 ⟨i,σ3,H3,I3,st3,fr3,w3⟩;rcases turn i n σ3 H3 w3 with ⟨stop,qn⟩ | ⟨go,N,hN,step⟩
 ·refine JX hp (bq (T.done X rfl rfl rfl hc i pins s3 σ3 H3 X.xe I3 (stat fr3) st3 stop) fun r s4 ⟨hr,I4⟩=>?_)
  subst hr;exact wpAny_execs_nil ⟨σ3,H3,I4,qn⟩
 ·refine JX hp (bq (T.item X rfl rfl rfl hc i pins s3 σ3 H3 X.xe I3 (stat fr3) st3 go) fun r s4 ⟨u,hr,h4⟩=>?_)
  subst hr;refine JX hp (bq h4 fun _ s5 ⟨x,H5,I5,r5,y5,st5,fr5⟩=>?_);have I5':=I5.pinned (stat fr5) (T.obj _ _ st5);refine JX hp (bq (hg _ s5 σ3 H5 x u _ I5' r5 (step x H5 y5)) fun _ s6 ⟨σ6,H6,I6,q6⟩=>?_);refine JX hp (bq (hb _ s6 σ6 H6 _ I6 q6) fun f s7 q7=>?_)
  have again:∀ {σ7:St}{H7:Hp},aA X (pins++nj fp s5.heap) σ7 H7 s7->N σ7 H7->∃ m,m<n/\∃ i σ' H',aA X pins σ' H' s7/\tn i s7.heap/\(∀ b∈fp,H' b=none)/\W i m σ' H':=fun {σ7 H7} I7 n7=>by
   obtain⟨m',hm,w7⟩:=hN σ7 H7 n7;refine⟨m',hm,i+1,σ7,H7,I7.unpinned,T.keep _ _ _ st5 fun b hb o e=>(I7.pin (b,o) (Je _ (Je _ (d8 hb e)))).1,fun b hb=>?_,w7⟩;obtain⟨o,e,d⟩:=T.obj _ _ st5 b hb;exact (I7.pin (b,o) (Je _ (Je _ (d8 hb e)))).2.1
  cases f with
  | next=>obtain⟨σ7,H7,I7,n7⟩:=q7;exact again I7 n7
  | cont=>obtain⟨σ7,H7,I7,n7⟩:=q7;exact again I7 n7
  | brk=>obtain⟨σ7,H7,I7,q7⟩:=q7;exact⟨σ7,H7,I7.unpinned,q7⟩
  | ret v=>obtain⟨x7,σ7,H7,I7,r7,q7⟩:=q7;exact⟨x7,σ7,H7,I7.unpinned,r7,q7⟩
end
theorem cp {K:PySem.W.Frag}{a:Addr}{xs:List V}{g:TG}{tb:TS}{D:kE}{σ:St}{H:Hp}(Pv:Nat->St->Hp->Prop)(h0:Pv 0 σ H)(hl:∀ i σ H,i<=xs.length->Pv i σ H->bx K H a xs)
  (hs:∀ i x σ H,xs[i]? = some x->Pv i σ H->g x σ H fun σ2 H2=>tb { D with nx:=Pv (i+1),ct:=Pv (i+1),bk:=D.nx } σ2 H2) (hd:∀ σ H,Pv xs.length σ H->D.nx σ H) :
  ∃ W:Nat->Nat->St->Hp->Prop,(∃ m,W 0 m σ H)/\∀ i m σ H,W i m σ H ->
   ((Dd K a).stop i H/\D.nx σ H)\/((Dd K a).go i H/\∃ N:St->Hp->Prop,(∀ σ' H',N σ' H'->∃ m',m'<m/\W (i+1) m' σ' H')/\∀ x H',(Dd K a).yld i H x H'->g x σ H' fun σ2 H2=>tb { D with nx:=N,ct:=N,bk:=D.nx } σ2 H2):=by
 refine⟨fun i m σ H=>m=xs.length-i/\i<=xs.length/\Pv i σ H,⟨xs.length,by simp,Jg _,h0⟩,?_⟩;rintro i m σ H ⟨rfl,hi,p⟩;have q:=hl i σ H hi p
 by_cases hlt:i<xs.length
 ·refine .inr ⟨⟨xs,xs[i],q,by simp[hlt]⟩,Pv (i+1),fun σ' H' p'=>⟨xs.length-(i+1),by omega,rfl,hlt,p'⟩,fun x H' y=>?_⟩
  obtain⟨e,y⟩:=y;subst e;exact hs i x σ _ (y xs q) p
 ·have e:i=xs.length:=by omega
  subst e;exact .inl ⟨⟨xs,q,Ix _⟩,hd σ H p⟩
theorem yf {K:PySem.W.Frag}{a:Addr}{xs:List V}{g:TG}{tb:TS}{D:kE}{σ:St}{H:Hp}(Pv:Nat->St->Hp->Prop)(h0:Pv 0 σ H)(hl:∀ i σ H,i<=xs.length->Pv i σ H->c7 K H a xs)
  (hs:∀ i x σ H,xs[i]? = some x->Pv i σ H->g x σ H fun σ2 H2=>tb { D with nx:=Pv (i+1),ct:=Pv (i+1),bk:=D.nx } σ2 H2) (hd:∀ σ H,Pv xs.length σ H->D.nx σ H) :
  ∃ W:Nat->Nat->St->Hp->Prop,(∃ m,W 0 m σ H)/\∀ i m σ H,W i m σ H ->
   ((Fl K a).stop i H/\D.nx σ H)\/((Fl K a).go i H/\∃ N:St->Hp->Prop,(∀ σ' H',N σ' H'->∃ m',m'<m/\W (i+1) m' σ' H')/\∀ x H',(Fl K a).yld i H x H'->g x σ H' fun σ2 H2=>tb { D with nx:=N,ct:=N,bk:=D.nx } σ2 H2):=by
 refine⟨fun i m σ H=>m=xs.length-i/\i<=xs.length/\Pv i σ H,⟨xs.length,by simp,Jg _,h0⟩,?_⟩;rintro i m σ H ⟨rfl,hi,p⟩;have q:=hl i σ H hi p
 by_cases hlt:i<xs.length
 ·refine .inr ⟨⟨xs,xs[i],q,by simp[hlt]⟩,Pv (i+1),fun σ' H' p'=>⟨xs.length-(i+1),by omega,rfl,hlt,p'⟩,fun x H' y=>?_⟩
  obtain⟨e,y⟩:=y;subst e;exact hs i x σ _ (y xs q) p
 ·have e:i=xs.length:=by omega
  subst e;exact .inl ⟨⟨xs,q,Ix _⟩,hd σ H p⟩
theorem mI {lo:Int}{n:Nat}{g:TG}{tb:TS}{D:kE}{σ:St}{H:Hp}(Pv:Nat->St->Hp->Prop)(h0:Pv 0 σ H)
  (hs:∀ i σ H,i<n->Pv i σ H->g (.int (lo+i)) σ H fun σ2 H2=>tb { D with nx:=Pv (i+1),ct:=Pv (i+1),bk:=D.nx } σ2 H2) (hd:∀ σ H,Pv n σ H->D.nx σ H) :
  ∃ W:Nat->Nat->St->Hp->Prop,(∃ m,W 0 m σ H)/\∀ i m σ H,W i m σ H ->
   ((E9 lo n).stop i H/\D.nx σ H)\/((E9 lo n).go i H/\∃ N:St->Hp->Prop,(∀ σ' H',N σ' H'->∃ m',m'<m/\W (i+1) m' σ' H')/\∀ x H',(E9 lo n).yld i H x H'->g x σ H' fun σ2 H2=>tb { D with nx:=N,ct:=N,bk:=D.nx } σ2 H2):=by
 refine⟨fun i m σ H=>m=n-i/\i<=n/\Pv i σ H,⟨n,by simp,Jg _,h0⟩,?_⟩;rintro i m σ H ⟨rfl,hi,p⟩
 by_cases hlt:i<n
 ·refine .inr ⟨hlt,Pv (i+1),fun σ' H' p'=>⟨n-(i+1),by omega,rfl,hlt,p'⟩,fun x H' y=>?_⟩
  obtain⟨e,y⟩:=y;subst e y;exact hs i σ _ hlt p
 ·have e:i=n:=by omega
  subst e;exact .inl ⟨Ix _,hd σ H p⟩
abbrev R2:=V->V->Hp->VK->Prop
def k8 (X:Cx)(f:Value->Value->Sem Value)(r:R2):Prop :=
 ∀ (pins:List (Addr×Obj))(s:Shared)(σ:St)(H:Hp)(x y:V)(v u:Value)(Q:VK),aA X pins σ H s->aP x v->aP y u->r x y H Q ->
  wpAny (model X.prog X.w) X.A (f v u) (EP X pins σ Q) X.xe s
def GE (X:Cx)(f:Value->Sem Value)(r:V->Hp->VK->Prop):Prop :=
 ∀ (pins:List (Addr×Obj))(s:Shared)(σ:St)(H:Hp)(x:V)(v:Value)(Q:VK),aA X pins σ H s->aP x v->r x H Q ->
  wpAny (model X.prog X.w) X.A (f v) (EP X pins σ Q) X.xe s
def gR (X:Cx)(f:Value)(r:List V->Hp->VK->Prop):Prop :=
 ∀ (pins:List (Addr×Obj))(s:Shared)(σ:St)(H:Hp)(xs:List V)(us:List Value)(Q:VK),aA X pins σ H s->aU xs us->r xs H Q ->
  wpAny (model X.prog X.w) X.A (call f us) (EP X pins σ Q) X.xe s
def GB (X:Cx)(r:V->Hp->(Bool->Hp->Prop)->Prop):Prop :=
 ∀ (pins:List (Addr×Obj))(s:Shared)(σ:St)(H:Hp)(x:V)(v:Value)(Q:Bool->Hp->Prop),aA X pins σ H s->aP x v->r x H Q ->
  wpAny (model X.prog X.w) X.A (truthy v) (TP X pins σ Q) X.xe s
def F8 (r:R2)(ta tb:TE):TE:=fun σ H Q=>ta σ H fun x H1=>tb σ H1 fun y H2=>r x y H2 Q
def Ii (r:V->Hp->VK->Prop)(ta:TE):TE:=fun σ H Q=>ta σ H fun x H1=>r x H1 Q
inductive RI (C:Int->Int->Prop) (g:Int->Int->V) (x y:V) (H:Hp) (Q:VK):Prop
 | mk (i j:Int) (e1:x=.int i) (e2:y=.int j) (c:C i j) (h:Q (g i j) H)
def rI (C:Int->Int->Prop)(g:Int->Int->V):R2:=fun x y H Q=>RI C g x y H Q
inductive HE (g:Int->Int->V) (x y:V) (H:Hp) (Q:VK):Prop
 | mk (i j:Int) (e1:x=.int i) (e2:y=.int j) (h:Q (g i j) H)
def Dr (g:Int->Int->V):R2:=fun x y H Q=>HE g x y H Q
def rU (g:Int->V):V->Hp->VK->Prop:=fun x H Q=>∃ i,x=.int i/\Q (g i) H
section
variable {X:Cx}{a b c:Expr}{ta tb tc:TE}{pos:Pos}
theorem DW (ha:PE X a ta)(hb:PE X b tb){pins:List (Addr×Obj)}{s:Shared}{σ:St}{H:Hp}{R:V->V->Hp->Prop}(I:aA X pins σ H s)
  (h:ta σ H fun x H1=>tb σ H1 fun y H2=>R x y H2) {Q:Value->Shared->Prop} {f:Value->Value->Sem Value}
  (hf:∀ v u s2 x y H2,aA X pins σ H2 s2->aP x v->aP y u->R x y H2->wpAny (model X.prog X.w) X.A (f v u) Q X.xe s2) :
  wpAny (model X.prog X.w) X.A (eval a X.env) (fun v s₁=>wpAny (model X.prog X.w) X.A (eval b X.env) (fun u s₂=>wpAny (model X.prog X.w) X.A (f v u) Q X.xe s₂) X.xe s₁) X.xe s:=by
 refine bq (ha pins s σ H _ I h) fun v s1 ⟨x,H1,I1,r1,q1⟩=>?_;refine bq (hb pins s1 σ H1 _ I1 q1) fun u s2 ⟨y,H2,I2,r2,q2⟩=>?_;exact hf v u s2 x y H2 I2 r1 r2 q2
theorem aH {op:Operator}{r:R2}(ho:k8 X (binaryOp op) r)(ha:PE X a ta)(hb:PE X b tb):PE X (.BinOp a op b pos) (F8 r ta tb):=by
 intro pins s σ H Q I h;exact wpAny_BinOp (DW ha hb I h fun v u s2 x y H2 I2 rx ry q=>ho pins s2 σ H2 x y v u Q I2 rx ry q)
theorem FR {op:UnaryOp}{r:V->Hp->VK->Prop}(ho:GE X (unaryOp op) r)(ha:PE X a ta):PE X (.UnaryOp op a pos) (Ii r ta):=by
 intro pins s σ H Q I h;exact UnaryOp_ (bq (ha pins s σ H _ I h) fun v s1 ⟨x,H1,I1,r1,q1⟩=>ho pins s1 σ H1 x v Q I1 r1 q1)
theorem FK {f:Value->Value->Sem Value}{C:Int->Int->Prop}{g:Int->Int->Int}
  (rule:∀ (i j:Int)(t u:Tok)(s:Shared)(Q:Value->Shared->Prop)(E:Value->Shared->Prop),C i j->Q (.int (g i j) s.toks) { s with toks:=s.toks+1 }->wpAny (model X.prog X.w) X.A (f (.int i t) (.int j u)) Q E s) :
  k8 X f (rI C fun i j=>.int (g i j)):=by
 intro pins s σ H x y v u Q I rx ry h;obtain⟨i,j,rfl,rfl,hc,q⟩:=h;obtain⟨t,rfl⟩:=rx;obtain⟨t',rfl⟩:=ry;exact rule i j t t' s _ _ hc ⟨.int (g i j),H,I.tok _,⟨_,rfl⟩,q⟩
theorem FL {f:Value->Value->Sem Value}{g:Int->Int->Int}
  (rule:∀ (i j:Int)(t u:Tok)(s:Shared)(Q:Value->Shared->Prop)(E:Value->Shared->Prop),Q (.int (g i j) s.toks) { s with toks:=s.toks+1 }->wpAny (model X.prog X.w) X.A (f (.int i t) (.int j u)) Q E s) :
  k8 X f (Dr fun i j=>.int (g i j)):=by
 intro pins s σ H x y v u Q I rx ry h;obtain⟨i,j,rfl,rfl,q⟩:=h;obtain⟨t,rfl⟩:=rx;obtain⟨t',rfl⟩:=ry;exact rule i j t t' s _ _ ⟨.int (g i j),H,I.tok _,⟨_,rfl⟩,q⟩
theorem CK {f:Value->Value->Sem Value}{g:Int->Int->Bool}
  (rule:∀ (i j:Int)(t u:Tok)(s:Shared)(Q:Value->Shared->Prop)(E:Value->Shared->Prop),Q (.bool (g i j)) s->wpAny (model X.prog X.w) X.A (f (.int i t) (.int j u)) Q E s) :
  k8 X f (Dr fun i j=>.bl (g i j)):=by
 intro pins s σ H x y v u Q I rx ry h;obtain⟨i,j,rfl,rfl,q⟩:=h;obtain⟨t,rfl⟩:=rx;obtain⟨t',rfl⟩:=ry;exact rule i j t t' s _ _ ⟨.bl (g i j),H,I,rfl,q⟩
def Gq (i j:Int):Prop:=0<j/\j<1073741824
def Gr (i j:Int):Prop:=0<=j/\j<=1000000/\i.natAbs<2 ^ 64
def DN (i j:Int):Prop:=(-(2 ^ 64)<i/\i<2 ^ 64)\/(-(2 ^ 64)<j/\j<2 ^ 64)
theorem DN.ok {i j:Int}(h:DN i j):IntMulOk i j:=by
 rcases h with ⟨h1,h2⟩ | ⟨h1,h2⟩
 ·exact .of_left (intBits_le_64 h1 h2)
 ·exact .of_right (intBits_le_64 h1 h2)
theorem dQ:k8 X (binaryOp .Add) (Dr fun i j=>.int (i+j)):=FL fun _ _ _ _ _ _ _ q=>add_int q
theorem EH:k8 X (binaryOp .Sub) (Dr fun i j=>.int (i-j)):=FL fun _ _ _ _ _ _ _ q=>sub_int q
theorem qP:k8 X (binaryOp .Mult) (rI DN fun i j=>.int (i*j)):=FK fun _ _ _ _ _ _ _ hc q=>mul_int q hc.ok
theorem eD:k8 X (binaryOp .FloorDiv) (rI Gq fun i j=>.int (i/j)):=FK fun i j _ _ _ _ _ hc q=>by
 have h1:(0:Int)<j:=hc.1;have h2:j<1073741824:=hc.2;exact floordiv_int (by omega) (by rw[Int.fdiv_eq_ediv_of_nonneg i (by omega)];exact q) (.inl (PyProof.noPylong_small (by omega)))
theorem bG:k8 X (binaryOp .Mod) (rI (fun _ j=>0<j) fun i j=>.int (i%j)):=FK fun i j _ _ _ _ _ hc q=>by
 have h1:(0:Int)<j:=hc;exact mod_int' (by omega) (by rw[Int.fmod_eq_emod_of_nonneg i (by omega)];exact q)
theorem A0:k8 X (binaryOp .Pow) (rI Gr fun i j=>.int (i ^ j.toNat)):=FK fun _ _ _ _ _ _ _ hc q=>pow_int_small hc.1 hc.2.1 hc.2.2 q
theorem Ij {f:Value->Sem Value}{g:Int->Int}
  (rule:∀ (i:Int)(t:Tok)(s:Shared)(Q:Value->Shared->Prop)(E:Value->Shared->Prop),Q (.int (g i) s.toks) { s with toks:=s.toks+1 }->wpAny (model X.prog X.w) X.A (f (.int i t)) Q E s) :
  GE X f (rU fun i=>.int (g i)):=by
 intro pins s σ H x v Q I rx h;obtain⟨i,rfl,q⟩:=h;obtain⟨t,rfl⟩:=rx;exact rule i t s _ _ ⟨.int (g i),H,I.tok _,⟨_,rfl⟩,q⟩
theorem E7:GE X (unaryOp .USub) (rU fun i=>.int (-i)):=Ij fun _ _ _ _ _ q=>neg_int q
end
def ES:V->V->Bool
 | .non,.non=>true | .non,.int _=>true | .int _,.non=>true | .non,.bl _=>true | .bl _,.non=>true | .non,.str _=>true | .str _,.non=>true
 | .int _,.int _=>true | .bl _,.bl _=>true | .str _,.str _=>true | .byt _,.byt _=>true
 | .int _,.str _=>true | .str _,.int _=>true | .bl _,.str _=>true | .str _,.bl _=>true
 | _,_=>false
def HZ:R2:=fun x y H Q=>ES x y=true/\Q (.bl (decide (x=y))) H
def Ia:R2:=fun x y H Q=>ES x y=true/\Q (.bl (!decide (x=y))) H
theorem yb {i j:Int}:decide (V.int i=V.int j)=(i == j):=by
 rw[Bool.eq_iff_iff];simp
theorem Ap {i j:Bool}:decide (V.bl i=V.bl j)=(i == j):=by
 rw[Bool.eq_iff_iff];simp
theorem yc {i j:Str}:decide (V.str i=V.str j)=(i == j):=by
 rw[Bool.eq_iff_iff];simp
theorem ya {i j:Array UInt8}:decide (V.byt i=V.byt j)=(i.toList == j.toList):=by
 rw[Bool.eq_iff_iff];cases i;cases j;simp
section
variable {X:Cx}{a b c:Expr}{ta tb tc:TE}{pos:Pos}
theorem be {pins:List (Addr×Obj)}{σ:St}{H:Hp}{s:Shared}{Q:VK}{k k':Bool}(I:aA X pins σ H s)(q:Q (.bl k) H)(e:k=k'):EP X pins σ Q (.bool k') s:=by
 subst e;exact⟨.bl k,H,I,rfl,q⟩
theorem bT:k8 X (compareOp .Eq) HZ:=by
 intro pins s σ H x y v u Q I rx ry h;obtain⟨hs,q⟩:=h
 cases x with
 | non =>
  cases rx
  cases y with
  | non=>cases ry;exact PySem.EqNone.eq_none_none (be I q (by simp))
  | bl j=>cases ry;exact PySem.EqNone.eq_none_bool (be I q (by simp))
  | int j=>obtain⟨t',rfl⟩:=ry;exact PySem.EqNone.eq_none_int (be I q (by simp))
  | str j=>obtain⟨t',rfl⟩:=ry;exact PySem.EqNone.eq_none_str (be I q (by simp))
  | _=>exact absurd (show false=true from hs) Iz
 | bl i =>
  cases rx
  cases y with
  | non=>cases ry;exact PySem.EqNone.eq_bool_none (be I q (by simp))
  | bl j=>cases ry;exact eq_bool (be I q Ap)
  | str j=>obtain⟨t',rfl⟩:=ry;exact PySem.EqMixed.eq_bool_str (be I q (by simp))
  | _=>exact absurd (show false=true from hs) Iz
 | int i =>
  obtain⟨t,rfl⟩:=rx
  cases y with
  | non=>cases ry;exact PySem.EqNone.eq_int_none (be I q (by simp))
  | int j=>obtain⟨t',rfl⟩:=ry;exact eq_int (be I q yb)
  | str j=>obtain⟨t',rfl⟩:=ry;exact PySem.EqMixed.eq_int_str (be I q (by simp))
  | _=>exact absurd (show false=true from hs) Iz
 | str i =>
  obtain⟨t,rfl⟩:=rx
  cases y with
  | non=>cases ry;exact PySem.EqNone.eq_str_none (be I q (by simp))
  | bl j=>cases ry;exact PySem.EqMixed.eq_str_bool (be I q (by simp))
  | int j=>obtain⟨t',rfl⟩:=ry;exact PySem.EqMixed.eq_str_int (be I q (by simp))
  | str j=>obtain⟨t',rfl⟩:=ry;exact eq_str (be I q yc)
  | _=>exact absurd (show false=true from hs) Iz
 | byt i =>
  obtain⟨t,rfl⟩:=rx
  cases y with
  | byt j=>obtain⟨t',rfl⟩:=ry;exact PySem.W.eq_bytes (be I q ya)
  | _=>exact absurd (show false=true from hs) Iz
 | _=>cases y<;>exact absurd (show false=true from hs) Iz
theorem ji:k8 X (compareOp .NotEq) Ia:=by
 intro pins s σ H x y v u Q I rx ry h;obtain⟨hs,q⟩:=h
 cases x with
 | non =>
  cases rx
  cases y with
  | non=>cases ry;exact PySem.EqNone.ne_none_none (be I q (by simp))
  | bl j=>cases ry;exact PySem.EqNone.ne_none_bool (be I q (by simp))
  | int j=>obtain⟨t',rfl⟩:=ry;exact PySem.EqNone.ne_none_int (be I q (by simp))
  | str j=>obtain⟨t',rfl⟩:=ry;exact PySem.EqNone.ne_none_str (be I q (by simp))
  | _=>exact absurd (show false=true from hs) Iz
 | bl i =>
  cases rx
  cases y with
  | non=>cases ry;exact PySem.EqNone.ne_bool_none (be I q (by simp))
  | bl j=>cases ry;exact ne_bool (be I q (J3 not Ap))
  | str j=>obtain⟨t',rfl⟩:=ry;exact PySem.EqMixed.ne_bool_str (be I q (by simp))
  | _=>exact absurd (show false=true from hs) Iz
 | int i =>
  obtain⟨t,rfl⟩:=rx
  cases y with
  | non=>cases ry;exact PySem.EqNone.ne_int_none (be I q (by simp))
  | int j=>obtain⟨t',rfl⟩:=ry;exact ne_int (be I q (J3 not yb))
  | str j=>obtain⟨t',rfl⟩:=ry;exact PySem.EqMixed.ne_int_str (be I q (by simp))
  | _=>exact absurd (show false=true from hs) Iz
 | str i =>
  obtain⟨t,rfl⟩:=rx
  cases y with
  | non=>cases ry;exact PySem.EqNone.ne_str_none (be I q (by simp))
  | bl j=>cases ry;exact PySem.EqMixed.ne_str_bool (be I q (by simp))
  | int j=>obtain⟨t',rfl⟩:=ry;exact PySem.EqMixed.ne_str_int (be I q (by simp))
  | str j=>obtain⟨t',rfl⟩:=ry;exact ne_str (be I q (J3 not yc))
  | _=>exact absurd (show false=true from hs) Iz
 | byt i =>
  obtain⟨t,rfl⟩:=rx
  cases y with
  | byt j=>obtain⟨t',rfl⟩:=ry;exact PySem.W.ne_bytes (be I q (J3 not ya))
  | _=>exact absurd (show false=true from hs) Iz
 | _=>cases y<;>exact absurd (show false=true from hs) Iz
theorem yw:k8 X (compareOp .Lt) (Dr fun i j=>.bl (decide (i<j))):=CK fun _ _ _ _ _ _ _ q=>lt_int q
theorem Dp:k8 X (compareOp .LtE) (Dr fun i j=>.bl (decide (i<=j))):=CK fun _ _ _ _ _ _ _ q=>le_int q
theorem FN:k8 X (compareOp .Gt) (Dr fun i j=>.bl (decide (j<i))):=CK fun _ _ _ _ _ _ _ q=>gt_int q
theorem FM:k8 X (compareOp .GtE) (Dr fun i j=>.bl (decide (j<=i))):=CK fun _ _ _ _ _ _ _ q=>ge_int q
theorem sZ:k8 X (compareOp .In) (fun x y H Q=>∃ i j,x=.str i/\y=.str j/\Q (.bl (!(Builtin.Str.occurrences j i 0 j.length 1).isEmpty)) H):=by
 intro pins s σ H x y v u Q I rx ry h;obtain⟨i,j,rfl,rfl,q⟩:=h;obtain⟨t,rfl⟩:=rx;obtain⟨t',rfl⟩:=ry;exact in_str (be I q rfl)
theorem aG (b:Expr){op:CmpOp}(h:op≠.In:=by decide)(h2:op≠.NotIn:=by decide):behindInMarks op b=false:=by
 have e1:(op == CmpOp.In)=false:=by cases op<;>first | rfl | exact absurd rfl h
 have e2:(op == CmpOp.NotIn)=false:=by cases op<;>first | rfl | exact absurd rfl h2
 cases b<;>simp[behindInMarks,e1,e2]
theorem ux {op:CmpOp}{r:R2}(ho:k8 X (compareOp op) r)(ha:PE X a ta)(hb:PE X b tb)(hm:behindInMarks op b=false):PE X (.Compare a [op] [b] pos) (F8 r ta tb):=by
 intro pins s σ H Q I h;exact wpAny_Compare1 (DW ha hb I h fun v u s2 x y H2 I2 rx ry q=>ho pins s2 σ H2 x y v u Q I2 rx ry q) hm
def DA (t:TE):TT:=fun σ H Q=>t σ H fun x H'=>Hq Q x H'
theorem az {op:CmpOp}{r:R2}(ho:k8 X (compareOp op) r)(ha:PE X a ta)(hb:PE X b tb)(hm:behindInMarks op b=false):PT X (.Compare a [op] [b] pos) (DA (F8 r ta tb)):=by
 intro pins s σ H Q I h
 refine wpAny_isTrue_Compare1 (bq (ha pins s σ H _ I h) fun v s1 ⟨x,H1,I1,r1,q1⟩=>bq (hb pins s1 σ H1 _ I1 q1) fun u s2 ⟨y,H2,I2,r2,q2⟩ =>
  bq (ho pins s2 σ H2 x y v u _ I2 r1 r2 q2) fun c s3 ⟨z,H3,I3,r3,k,e,q3⟩=>?_) hm
 subst e;cases r3;exact JG ⟨H3,I3,q3⟩
def ET (r r':R2)(ta tb tc:TE):TE:=fun σ H Q=>ta σ H fun x H1=>tb σ H1 fun y H2=>r x y H2 fun z H3=>∃ k,z=.bl k /\
 (if k=true then tc σ H3 fun w' H4=>r' y w' H4 Q else Q (.bl false) H3)
theorem Be {op op':CmpOp}{r r':R2}(ho:k8 X (compareOp op) r)(ho':k8 X (compareOp op') r')(ha:PE X a ta)(hb:PE X b tb)(hc:PE X c tc)
  (hm:lastMarks [op,op'] [b,c]=false:=by with_unfolding_all rfl):PT X (.Compare a [op,op'] [b,c] pos) (DA (ET r r' ta tb tc)):=by
 intro pins s σ H Q I h
 refine isTrue_chain (bq (ha pins s σ H _ I h) fun v s1 ⟨x,H1,I1,r1,q1⟩=>test_link (bq (hb pins s1 σ H1 _ I1 q1) fun u s2 ⟨y,H2,I2,r2,q2⟩ =>
  bq (ho pins s2 σ H2 x y v u _ I2 r1 r2 q2) fun d s3 ⟨z,H3,I3,r3,k,e,q3⟩=>?_)) hm
 subst e;cases r3;refine JG ?_
 cases k with
 | false =>
  obtain⟨k',e',q'⟩:=q3;cases e';exact ite_ff ⟨H3,I3,q'⟩
 | true =>
  refine ite_tt (test_last (bq (hc pins s3 σ H3 _ I3 q3) fun w' s4 ⟨z',H4,I4,r4,q4⟩=>bq (ho' pins s4 σ H4 y z' u w' _ I4 r2 r4 q4) fun d' s5 ⟨z2,H5,I5,r5,k2,e2,q5⟩=>?_));subst e2;cases r5;exact JG ⟨H5,I5,q5⟩
def Fq (K:PySem.W.Frag)(x:V)(H:Hp)(k:Bool):Prop :=
 match x with
 | .non=>k=false
 | .bl b=>k=b
 | .int i=>k=(i != 0)
 | .str y=>y.length<=sizeLine/\k=((y.length:Int) != 0)
 | .byt y=>y.size<=sizeLine/\k=((y.size:Int) != 0)
 | .ref p=>(∃ xs,bx K H p xs/\k = !xs.isEmpty)\/(∃ xs,c7 K H p xs/\k = !xs.isEmpty)\/∃ kvs,H p=some (.dK kvs)/\k = !kvs.isEmpty
 | _=>False
theorem xa {κ:Type}{kvs:List (κ×V)}{vs:List (κ×Value)}(r:KV kvs vs):(!vs.isEmpty) = !kvs.isEmpty:=by
 cases r<;>rfl
theorem qg {xs:List V}{its:List Value}(r:aU xs its):(!its.toArray.isEmpty) = !xs.isEmpty:=by
 cases r<;>simp
theorem mY:(sizeLine:Nat)<2 ^ 63:=by rw[JQ];decide
theorem E5:GB X (fun x H Q=>∃ k,Fq X.K x H k/\Q k H):=by
 intro pins s σ H x v Q I rx h;obtain⟨k,e,q⟩:=h;have hl:=mY;have hs:sizeLine=16777216:=JQ
 cases x with
 | non =>
  cases rx;have e':k=false:=e;subst e';exact truthy_none ⟨H,I,q⟩
 | bl b =>
  cases rx;have e':k=b:=e;subst e';exact JG ⟨H,I,q⟩
 | int i =>
  obtain⟨t,rfl⟩:=rx;have e':k=(i != 0):=e;subst e';exact PySem.P.truthy_int ⟨H,I,q⟩
 | str y =>
  obtain⟨t,rfl⟩:=rx;obtain⟨hy,e'⟩:y.length<=sizeLine/\k=((y.length:Int) != 0):=e;subst e';exact PySem.P.truthy_str (by omega) ⟨H,I.tok _,q⟩
 | byt y =>
  obtain⟨t,rfl⟩:=rx;obtain⟨hy,e'⟩:y.size<=sizeLine/\k=((y.size:Int) != 0):=e;subst e';exact PySem.W.truthy_bytes (by omega) ⟨H,I.tok _,q⟩
 | ref p =>
  cases rx;have e':(∃ xs,bx X.K H p xs/\k = !xs.isEmpty)\/(∃ xs,c7 X.K H p xs/\k = !xs.isEmpty)\/∃ kvs,H p=some (.dK kvs)/\k = !kvs.isEmpty:=e;rcases e' with ⟨xs,hx,e'⟩ | ⟨xs,hx,e'⟩ | ⟨kvs,hx,e'⟩
  ·subst e'
   obtain⟨its,r,pl,hz⟩:=I.list hx;have hlen:=r.length;exact wpAny_truthy_list pl.isList (by simp only[IS];omega) ⟨H,I.tok _,by rw[qg r];exact q⟩
  ·subst e'
   obtain⟨its,r,pl,hz⟩:=I.tuple hx;have hlen:=r.length;exact truthy_tuple pl (by simp only[IS];omega) ⟨H,I.tok _,by rw[qg r];exact q⟩
  ·subst e'
   obtain⟨hz,hS,vs,r,m⟩:kvs.length<=sizeLine/\(p == sysModules)=false/\∃ vs,KV kvs vs/\s.heap.DictOf (bt X.prog X.w) p vs:=I.hok p _ hx;have hlen:kvs.length=vs.length:=IU r;exact wpAny_truthy_dict hS m (by omega) ⟨H,I.tok _,by rw[xa r];exact q⟩
 | _=>exact (show False from e).elim
theorem Bg (ha:PE X a ta)(he:∀ whole,isTrue a X.env whole=(do let v <-whole;standAt a.pos;holding [v] (truthy v))) :
  PT X a (fun σ H Q=>ta σ H fun x H'=>∃ k,Fq X.K x H' k/\Q k H'):=by
 intro pins s σ H Q I h;exact isTrue_plain (bq (ha pins s σ H _ I h) fun v s1 ⟨x,H1,I1,r1,q1⟩=>E5 pins s1 σ H1 x v Q I1 r1 q1) (he _)
theorem qO:k8 X (binaryOp .Add) (fun x y H Q=>∃ i j,x=.str i/\y=.str j/\i.length+j.length<=sizeLine/\Q (.str (i++j)) H):=by
 intro pins s σ H x y v u Q I rx ry h;obtain⟨i,j,rfl,rfl,hz,q⟩:=h;obtain⟨t,rfl⟩:=rx;obtain⟨t',rfl⟩:=ry;exact add_str (fun t' tk=>⟨.str (i++j),H,I.tok _,⟨_,rfl⟩,q⟩) hz
theorem hZ {x:V}{us:List Value}(r:aU [x] us):∃ u,us=[u]/\aP x u:=by
 cases r with
 | cons r1 r2=>cases r2;exact⟨_,rfl,r1⟩
end
structure wM (h:Heap)(x dx C:Addr)(mA:Str->Option Value):Prop where
 obj:h.get? x=some (PySem.W.instObj C dx)
 ns:h.Ns1 dx mA
 ne:dx≠x
theorem zy {h:Heap}{dx:Addr}{mA:Str->Option Value}(n:h.Ns1 dx mA):∃ od,h.get? dx=some od/\∀ name,PySem.W.lookIn name od=some (mA name):=by
 obtain⟨o,es,ep,ho,hd,hk,_,hm⟩:=n;refine⟨o,ho,fun name=>?_⟩;have e:=hm name;unfold nsFind findBy at e;rw[<-Array.find?_toList]at e;unfold PySem.W.lookIn;rw[hd];dsimp only;split
 ·rename_i y q
  rw[q]at e;exact J3 some e
 ·rename_i q
  rw[q]at e
  have a:es.toList.any (·.refKey)=false:=by
   rw[List.any_eq_false];intro y hy;obtain⟨z,t,hkey⟩:=hk y (Array.mem_toList_iff.mp hy);simp[DictEntry.refKey,hkey]
  have a':¬ es.toList.any (·.refKey)=true:=by rw[a];exact Iz
  rw[Ir a'];exact J3 some e
theorem wM.look {h:Heap}{x dx C:Addr}{mA:Str->Option Value}(I:wM h x dx C mA):∃ od,PySem.W.InstAt h x (PySem.W.instObj C dx) C (some od)/\∀ name,PySem.W.lookIn name od=some (mA name) :=
 let ⟨od,ho,hl⟩:=zy I.ns
 ⟨od,⟨I.obj,rfl,rfl,ho⟩,hl⟩
section
variable {prog:Program}{w:World}{A:Around}{E:Value->Shared->Prop}{s:Shared}{K:PySem.W.Frag}{x dx C f:Addr}{mA:Str->Option Value}{name:Str}{v:Value}
theorem Cf {expr:Bool}{Q:Value->Shared->Prop}(X:K.In s.heap)(I:wM s.heap x dx C mA)(hg:PySem.W.plainGet K C name=true)(hh:PySem.W.hasDictIn K C=true)
  (ha:PySem.W.findIn K (.ref C) name=some none) (hv:mA name=some v) (hv':PySem.W.handedIn v=true) (h:Q v { s with toks:=s.toks+1 }) :
  wpAny (model prog w) A (getAttr (.ref x) name expr) Q E s:=by
 obtain⟨od,J,hl⟩:=I.look;exact PySem.W.get_value X J (PySem.W.plainGet_of hg).1 (PySem.W.findObj_own hh ha rfl (by rw[hl,hv])) hv' h
theorem AD {pl:Sem Bool}{Q:Value×List Value->Shared->Prop}(X:K.In s.heap)(I:wM s.heap x dx C mA)(hg:PySem.W.plainGet K C name=true)
  (hf:PySem.W.findIn K (.ref C) name=some (some (.ref f))) (ht:PySem.W.isFn K (.ref f)=true) (hv:mA name=none) (h:Q (.ref f,[.ref x]) s) :
  wpAny (model prog w) A (getMethod (.ref x) name pl) Q E s:=by
 obtain⟨od,J,hl⟩:=I.look;exact PySem.W.method_fn X J (PySem.W.plainGet_of hg).1 (PySem.W.plainGet_of hg).2 hf (Ka.mp ht) (by show (PySem.W.lookIn name od).map (·.isSome)=some false;rw[hl,hv];rfl) h
theorem C3 {ns:List Str}{Q:Unit->Shared->Prop}(X:K.In s.heap)(I:wM s.heap x dx C mA)
  (hs:PySem.W.findIn K (.ref C) "__setattr__" = some (some (.builtin "object.__setattr__"))) (hp:PySem.W.plainOver K C=true) (ht:PySem.W.takerIn K C name=some none) (hh:PySem.W.hasDictIn K C=true)
  (hw:PySem.Within mA ns) (hsz:ns.length<=sizeLine)
  (h:∀ h',wM h' x dx C (fun y=>if y=name then some v else mA y)->Heap.SameBut dx s.heap h'->Q () { s with heap:=h',toks:=s.toks+2 }) :
  wpAny (model prog w) A (setAttr (.ref x) name v) Q E s:=by
 obtain⟨od,J,hl⟩:=I.look;refine PySem.W.set_plain X J hs (PySem.W.osa_open (s:={ s with toks:=s.toks+1 }) (r:=none) X J hp ht fun b=>?_);obtain⟨cd,hc,hd'⟩:=PySem.W.any_some hh;have hx:s.heap.get? x=some ⟨.ref C,some dx,.plain,#[]⟩:=I.obj;refine Iv (IP (Iv (Iv (wpAny_loadPart hx (Iv (PySem.W.Looks.here (s:={ s with toks:=s.toks+1 }) (PySem.W.looks_clsIn X hc) ?_))))));rw[hd'];refine IP (a:=some dx) (Iv (IP (Iv ?_)));refine wpAny_nsSet1 (s:={ s with toks:=s.toks+1 }) I.ns fun h' hn2 hs2=>?_;obtain⟨oD,esD,epD,hoD,hdD,hcD⟩:=hn2.count (PySem.Within.cons name v hw);refine Iv (wpAny_lookBehind hoD (by rw[hdD];exact pastItsLine_dict (IY hcD (by rw[IX];omega))) ?_);exact IP (h _ ⟨(hs2.2 _ (IJ I.ne)).trans I.obj,hn2,I.ne⟩ hs2)
theorem AS {R:Result->Shared->Prop}{vs:List Value}{kw:List (Str×Value)}(X:K.In s.heap)(hm:PySem.W.makesIn K C=true)
  (hi:PySem.W.findIn K (.ref C) "__init__" = some (some (.ref f))) (hf:PySem.W.typeIn K (.ref f)=some (.type "function"))
  (h:codeAny (model prog w) (A.under (.builtin "type.__call__" ⟨.ref C::vs,kw⟩)) (.call (.ref f) ⟨.ref (s.heap.objs.size+1)::vs,kw⟩) (PySem.W.InitBack (s.heap.objs.size+1) R)
   { s with heap:=(s.heap.push PySem.W.emptyDict).push (PySem.W.instObj C s.heap.objs.size) }) :
  codeAny (model prog w) A (.call (.ref C) ⟨vs,kw⟩) R s:=by
 obtain⟨hh,g,d,t,os⟩:=s;exact PySem.W.make_core (PySem.W.makes_of X hm) (PySem.W.looks_findIn X hi) (fun self=>PySem.W.bind_fn X self hf) (.inl rfl) h
end
def aV (f:Str)(v:V):List (Str×V)->List (Str×V)
 | []=>[(f,v)]
 | (g,x)::r=>if g=f then (g,v)::r else (g,x)::aV f v r
theorem ao (f g:Str)(v:V):∀ fs:List (Str×V),(aV f v fs).lookup g=if g=f then some v else fs.lookup g
 | []=>by
  show List.lookup g [(f,v)]=_
  by_cases h:g=f
  ·have hb:(g == f)=true:=Ka.mpr h
   simp only[List.lookup,hb,Iu h]
  ·have hb:(g == f)=false:=JI.mpr h
   simp only[List.lookup,hb,Ir h]
 | (k,x)::r=>by
  have ih:=ao f g v r;rw[show aV f v ((k,x)::r)=(if k=f then (k,v)::r else (k,x)::aV f v r) from rfl]
  by_cases hk:k=f
  ·rw[Iu hk]
   by_cases h:g=k
   ·have hb:(g == k)=true:=Ka.mpr h
    simp only[List.lookup,hb,Iu (h.trans hk)]
   ·have hb:(g == k)=false:=JI.mpr h
    simp only[List.lookup,hb,Ir (fun e:g=f=>h (e.trans hk.symm))]
  ·rw[Ir hk]
   by_cases h:g=k
   ·have hb:(g == k)=true:=Ka.mpr h
    simp only[List.lookup,hb,Ir (fun e:g=f=>hk (h.symm.trans e))]
   ·have hb:(g == k)=false:=JI.mpr h
    simp only[List.lookup,hb];exact ih
theorem mR (f:Str)(v:V):∀ fs:List (Str×V),f∈(aV f v fs).map (·.1)/\∀ g,g∈fs.map (·.1)->g∈(aV f v fs).map (·.1)
 | []=>⟨by simp[aV],fun g h=>by simp at h⟩
 | (k,x)::r=>by
  obtain⟨i1,i2⟩:=mR f v r;rw[show aV f v ((k,x)::r)=(if k=f then (k,v)::r else (k,x)::aV f v r) from rfl]
  by_cases hk:k=f
  ·rw[Iu hk]
   subst hk;exact⟨by simp,fun g h=>by simpa using h⟩
  ·rw[Ir hk]
   refine⟨?_,fun g h=>?_⟩
   ·rw[IR]
    exact Iy _ i1
   ·rw[IR]at h ⊢
    rcases IC.mp h with e | e
    ·exact IC.mpr (.inl e)
    ·exact Iy _ (i2 g e)
theorem oq (f:Str)(v:V):∀ fs:List (Str×V),(aV f v fs).length<=fs.length+1
 | []=>by simp[aV]
 | (k,x)::r=>by
  have ih:=oq f v r;rw[show aV f v ((k,x)::r)=(if k=f then (k,v)::r else (k,x)::aV f v r) from rfl]
  by_cases hk:k=f
  ·rw[Iu hk,IX,IX];omega
  ·rw[Ir hk,IX,IX];omega
theorem gV.some_of {v:V}{o:Option Value}(r:gV (some v) o):∃ u,o=some u/\aP v u:=by
 cases o with
 | none=>exact (show False from r).elim
 | some u=>exact⟨u,rfl,r⟩
theorem gV.none_of {o:Option Value}(r:gV none o):o=none:=by
 cases o with
 | none=>rfl
 | some u=>exact (show False from r).elim
theorem zp {v:V}{u:Value}(r:aP v u):PySem.W.handedIn u=true:=by
 cases v with
 | non=>cases (show u=Value.none from r);rfl
 | bl b=>cases (show u=Value.bool b from r);rfl
 | int i=>obtain⟨t,e⟩:=(show ∃ t,u=Value.int i t from r);cases e;rfl
 | str x=>obtain⟨t,e⟩:=(show ∃ t,u=Value.str x t from r);cases e;rfl
 | byt b=>obtain⟨t,e⟩:=(show ∃ t,u=Value.bytes b t from r);cases e;rfl
 | flt b=>obtain⟨t,e⟩:=(show ∃ t,u=Value.float b t from r);cases e;rfl
 | ref a=>cases (show u=Value.ref a from r);rfl
 | ty n=>cases (show u=Value.type n from r);rfl
section
variable {P:Program}{w:World}{H H':Hp}{h h':Heap}{a C dx:Addr}{fs fs':List (Str×V)}
theorem pd (hok:iQ P w H h)(e:H a=some (.ins C dx fs)):∃ mA,wM h a dx C mA/\(∀ f,gV (fs.lookup f) (mA f))/\PySem.Within mA (fs.map (·.1))/\fs.length<=1000/\H dx=some (.own a):=by
 obtain⟨d,z,ne,ob,mA,n,r,q⟩:=(show bu P w H h a (.ins C dx fs) from hok a _ e);exact⟨mA,⟨ob,n,ne⟩,r,q,z,d⟩
end
structure uZ (K:PySem.W.Frag)(C:Addr):Prop where
 pg:PySem.W.plainGet K C Str.empty=true
 hd:PySem.W.hasDictIn K C=true
 po:PySem.W.plainOver K C=true
 sa:PySem.W.findIn K (.ref C) "__setattr__" = some (some (.builtin "object.__setattr__"))
theorem uZ.get {K:PySem.W.Frag}{C:Addr}(c:uZ K C)(f:Str):PySem.W.plainGet K C f=true:=c.pg
def bW (K:PySem.W.Frag)(C:Addr)(f:Str):Prop:=PySem.W.findIn K (.ref C) f=some none
theorem bW.taker {K:PySem.W.Frag}{C:Addr}{f:Str}(n:bW K C f):PySem.W.takerIn K C f=some none:=by
 unfold PySem.W.takerIn;rw[show PySem.W.findIn K (.ref C) f=some none from n];rfl
structure BW (K:PySem.W.Frag)(C:Addr)(m:Str)(f:Addr):Prop where
 at_:PySem.W.findIn K (.ref C) m=some (some (.ref f))
 fn:PySem.W.isFn K (.ref f)=true
 kp:PySem.W.keepIn K (.ref f)=true
section
variable {X:Cx}{pins:List (Addr×Obj)}{σ:St}{H:Hp}{s:Shared}{a C dx:Addr}{fs:List (Str×V)}{f:Str}{v:V}{A:Around}{E:Value->Shared->Prop}
theorem qd {b:Bool}{Q:Value->Shared->Prop}(I:aA X pins σ H s)(e:H a=some (.ins C dx fs))(c:uZ X.K C)(n:bW X.K C f)(l:fs.lookup f=some v)
  (h:∀ u s',aA X pins σ H s'->aP v u->Q u s'):wpAny (model X.prog X.w) A (getAttr (.ref a) f b) Q E s:=by
 obtain⟨mA,O,r,_,_,_⟩:=pd I.hok e;obtain⟨u,hu,ru⟩:=gV.some_of (v:=v) (o:=mA f) (by rw[<-l];exact r f);exact Cf I.kIn O (c.get f) c.hd n hu (zp ru) (h u _ (I.tok _) ru)
theorem qe {m:Str}{g:Addr}{pl:Sem Bool}{Q:Value×List Value->Shared->Prop}(I:aA X pins σ H s)(e:H a=some (.ins C dx fs))(c:uZ X.K C)(k:BW X.K C m g)(l:fs.lookup m=none)
  (h:Q (.ref g,[.ref a]) s):wpAny (model X.prog X.w) A (getMethod (.ref a) m pl) Q E s:=by
 obtain⟨mA,O,r,_,_,_⟩:=pd I.hok e;have hn:mA m=none:=gV.none_of (by rw[<-l];exact r m);exact AD I.kIn O (c.get m) k.at_ k.fn hn h
theorem ro {y:V}{u:Value}{Q:Unit->Shared->Prop}(I:aA X pins σ H s)(e:H a=some (.ins C dx fs))(c:uZ X.K C)(n:bW X.K C f)(hl:fs.length<1000)(ry:aP y u)
  (h:∀ s',aA X pins σ (upd H a (.ins C dx (aV f y fs))) s'->Q () s'):wpAny (model X.prog X.w) A (setAttr (.ref a) f u) Q E s:=by
 obtain⟨mA,O,r,wi,_,ho⟩:=pd I.hok e
 have hz:(fs.map (·.1)).length<=sizeLine:=by rw[Iq,JQ];omega
 refine C3 I.kIn O c.sa c.po n.taker c.hd wi hz fun h' O' sb=>h _ ?_;have hd:∃ o,h'.get? dx=some o:=let ⟨o,_,_,e',_⟩:=O'.ns;⟨o,e'⟩;refine I.write (x:=a) (e:=dx) (by rw[e];exact True.intro) (.inr ho) (fun b q hb z=>(sb.2 b hb).trans z) hd ?_;refine⟨by rw[af O.ne];exact ho,?_,O.ne,O'.obj,_,O'.ns,fun g=>?_,fun g hg=>?_⟩
 ·have:=oq f y fs;omega
 ·show gV ((aV f y fs).lookup g) (if g=f then some u else mA g)
  rw[ao]
  by_cases q:g=f
  ·rw[Iu q,Iu q];exact ry
  ·rw[Ir q,Ir q];exact r g
 ·by_cases q:g=f
  ·rw[q];exact (mR f y fs).1
  ·refine (mR f y fs).2 g (wi g fun z=>hg ?_)
   show (if g=f then some u else mA g)=none
   rw[Ir q];exact z
theorem aA.made (I:aA X pins σ H s):aA X pins σ (upd (upd H s.heap.objs.size (.own (s.heap.objs.size+1))) (s.heap.objs.size+1) (.ins C s.heap.objs.size []))
  { s with heap:=(s.heap.push PySem.W.emptyDict).push (PySem.W.instObj C s.heap.objs.size) }:=by
 have e1:(s.heap.push PySem.W.emptyDict).get? s.heap.objs.size=some PySem.W.emptyDict:=IV s.heap rfl
 have e2:((s.heap.push PySem.W.emptyDict).push (PySem.W.instObj C s.heap.objs.size)).get? (s.heap.objs.size+1)=some (PySem.W.instObj C s.heap.objs.size):=by
  have:=IV (s.heap.push PySem.W.emptyDict) (o:=PySem.W.instObj C s.heap.objs.size) rfl
  rwa [Heap.size_push]at this
 have e3:(s.heap.push PySem.W.emptyDict).Ns s.heap.objs.size (fun _=>none):=⟨PySem.W.emptyDict,#[],_,e1,rfl,(fun e he=>absurd he (by simp)),fun _=>rfl⟩;have I1:=I.laid (a:=s.heap.objs.size) (o:=.own (s.heap.objs.size+1)) (h':=s.heap.push PySem.W.emptyDict) (t':=s.toks) (fun b u q=>Iw _ q) (Ix _) ⟨_,e1⟩;refine I1.laid (a:=s.heap.objs.size+1) (o:=.ins C s.heap.objs.size []) (t':=s.toks) (fun b u q=>Iw _ q) (Nat.le_of_eq (Heap.size_push _ _)) ?_;have ne:s.heap.objs.size≠s.heap.objs.size+1:=IW (Nat.lt_succ_self _);refine⟨by rw[af ne,ac],Jg _,ne,e2,fun _=>none,(Heap.Ns1.of_empty e3).at fun o q=>Iw _ q,fun _=>True.intro,fun y hy=>absurd rfl hy⟩
theorem B3 {prog:Program}{w:World}{env:Env}{e:Expr}{f:Str}{pos:Pos}{s:Shared}{Q:Value->Shared->Prop}(hb:attributeBase e f env (eval e env)=eval e env)
  (h:wpAny (model prog w) A (eval e env) (fun o s₁=>wpAny (model prog w) A (getAttr o f true) Q E s₁) E s):wpAny (model prog w) A (eval (.Attribute e f pos) env) Q E s :=
 Attribute_any_ h (by rw[arm_eval_Attribute,hb])
end
inductive HN (K:PySem.W.Frag) (f:Str) (Q:VK) (x:V) (H:Hp):Prop
 | mk (a C dx:Addr) (fs:List (Str×V)) (v:V) (e:x=.ref a) (o:H a=some (.ins C dx fs)) (c:uZ K C) (n:bW K C f) (l:fs.lookup f=some v) (h:Q v H)
def Hd (K:PySem.W.Frag)(ta:TE)(f:Str):TE:=fun σ H Q=>ta σ H fun x H1=>HN K f Q x H1
def Ha (K:PySem.W.Frag)(ta tv:TE)(f:Str):TS:=fun D σ H=>tv σ H fun y H1=>ta σ H1 fun x H2=>∃ a C dx fs,x=.ref a/\H2 a=some (.ins C dx fs)/\uZ K C/\bW K C f/\fs.length<1000 /\
 D.nx σ (upd H2 a (.ins C dx (aV f y fs)))
def Fj (X:Cx)(op:Operator)(rd:V->V->Hp->VK->Prop):Prop :=
 ∀ (pins:List (Addr×Obj))(s:Shared)(σ:St)(H:Hp)(x y:V)(u v:Value)(Q:VK),aA X pins σ H s->aP x u->aP y v->rd x y H Q->wpAny (model X.prog X.w) X.A (inplaceOp op u v) (EP X pins σ Q) X.xe s
def C2 (K:PySem.W.Frag)(ta tv:TE)(rd:V->V->Hp->VK->Prop)(f:Str):TS:=fun D σ H=>ta σ H fun x H1=>∃ a C dx fs v,x=.ref a/\H1 a=some (.ins C dx fs)/\uZ K C/\bW K C f/\fs.lookup f=some v /\
 tv σ H1 fun y H2=>rd v y H2 fun z H3=>∃ dx' fs',H3 a=some (.ins C dx' fs')/\fs'.length<1000/\D.nx σ (upd H3 a (.ins C dx' (aV f z fs')))
section
variable {X:Cx}{o e value:Expr}{f:Str}{pos pos' tpos:Pos}{ta tv:TE}
theorem aX (he:PE X e ta)(hb:attributeBase e f X.env (eval e X.env)=eval e X.env):PE X (.Attribute e f pos) (Hd X.K ta f):=by
 intro pins s σ H Q I h;refine B3 hb (bq (he pins s σ H _ I h) fun u s1 ⟨x,H1,I1,rx,a,C,dx,fs,v,ex,ea,c,n,l,q⟩=>?_);subst ex;obtain rfl:u=Value.ref a:=rx;exact qd I1 ea c n l fun u' s2 I2 ru=>⟨v,H1,I2,ru,q⟩
theorem di (ha:PE X o ta)(hv:PE X value tv)(hs:swapsWith value (some (.Attribute o f pos')) pos.line X.env=pure false):PS X (.Assign [.Attribute o f pos'] value pos) (Ha X.K ta tv f):=by
 intro pins s σ H D I h;refine plainObj_wpAny_Assign_Attribute (bq (hv pins s σ H _ I h) fun u s1 ⟨y,H1,I1,ry,q⟩=>bq (ha pins s1 σ H1 _ I1 q) fun ov s2 ⟨x,H2,I2,rx,a,C,dx,fs,ex,ea,c,n,l,q2⟩=>?_) hs;subst ex;obtain rfl:ov=Value.ref a:=rx;exact ro I2 ea c n l ry fun s3 I3=>⟨σ,_,I3,q2⟩
theorem zU {op:Operator}{rd:V->V->Hp->VK->Prop}(ha:PE X o ta)(hv:PE X value tv)(hop:Fj X op rd):PS X (.AugAssign (.Attribute o f tpos) op value pos) (C2 X.K ta tv rd f):=by
 intro pins s σ H D I h;refine wpAny_AugAssign_AttributeAny (bq (ha pins s σ H _ I h) fun ov s1 ⟨x,H1,I1,rx,a,C,dx,fs,v,ex,ea,c,n,l,q⟩=>?_);subst ex;obtain rfl:ov=Value.ref a:=rx;refine qd I1 ea c n l fun u s2 I2 ru=>bq (hv pins s2 σ H1 _ I2 q) fun w3 s3 ⟨y,H2,I3,ry,q3⟩=>bq (hop pins s3 σ H2 v y u w3 _ I3 ru ry q3) fun w4 s4 ⟨z,H3,I4,rz,dx',fs',ea',l',q4⟩=>?_;exact ro I4 ea' c n l' rz fun s5 I5=>⟨σ,_,I5,q4⟩
def GX:V->V->Hp->VK->Prop:=fun x y H Q=>∃ i j,x=.int i/\y=.int j/\Q (.int (i+j)) H
theorem Eg:Fj X .Add GX:=by
 rintro pins s σ H x y u v Q I rx ry ⟨i,j,rfl,rfl,q⟩;obtain⟨t,rfl⟩:=(show ∃ t,u=Value.int i t from rx);obtain⟨t',rfl⟩:=(show ∃ t',v=Value.int j t' from ry);exact PyProof.Rows.iadd_int ⟨.int (i+j),H,I.tok _,⟨_,rfl⟩,q⟩
end
section
variable {X:Cx}{pins:List (Addr×Obj)}{σ:St}{H:Hp}{s:Shared}{A:Around}{E:Value->Shared->Prop}{Q:Value->Shared->Prop}{c:Value}{b:Bool}
inductive lx (K:PySem.W.Frag) (H:Hp):V->Value->Prop where
 | non:lx K H .non (.type "NoneType")
 | bl (x:Bool):lx K H (.bl x) (.type "bool")
 | int (i:Int):lx K H (.int i) (.type "int")
 | str (x:Str):lx K H (.str x) (.type "str")
 | flt (x:UInt64):lx K H (.flt x) (.type "float")
 | lst {a:Addr} {xs:List V} (e:H a=some (.lst xs)):lx K H (.ref a) (.type "list")
 | frz {a:Addr} {o:Obj} {xs:List V} (e:H a=some (.frz o (.lst xs))):lx K H (.ref a) (.type "list")
 | tup {a:Addr} {xs:List V} (e:H a=some (.tup xs)):lx K H (.ref a) (.type "tuple")
 | dK {a:Addr} {kvs:List (ca×V)} (e:H a=some (.dK kvs)):lx K H (.ref a) (.type "dict")
 | dT {a:Addr} {kvs:List (List ca×V)} (e:H a=some (.dT kvs)):lx K H (.ref a) (.type "dict")
 | ins {a C dx:Addr} {fs:List (Str×V)} (e:H a=some (.ins C dx fs)) (cl:uZ K C) (ha:PySem.W.findIn K (.ref C) "__class__" = some (some (.builtin "object.__class__")))
   (hn:PySem.W.specialIn K (.builtin "object.__class__") "__get__" = some (some (.builtin "getset_descriptor.__get__"))) (htk:PySem.W.takesIn K (.builtin "object.__class__")=some true)
   (hm:PySem.W.mroIn K C (.type "object")=some true):lx K H (.ref a) (.ref C)
theorem zu {x:V}{u t:Value}(I:aA X pins σ H s)(rx:aP x u)(ty:lx X.K H x t)(e:PySem.W.kitOne X.K t c=some b)(h:∀ tk,Q (.bool b) { s with toks:=tk }) :
  wpAny (model X.prog X.w) A (call (.builtin "isinstance") [u,c]) Q E s:=by
 cases ty with
 | non=>cases (show u=Value.none from rx);exact Jx PySem.W.kitx_none I.kIn True.intro e (fun z=>nomatch z) h
 | bl y=>cases (show u=Value.bool y from rx);exact Jx PySem.W.kitx_bool I.kIn True.intro e (fun z=>nomatch z) h
 | int i=>obtain⟨t,q⟩:=(show ∃ t,u=Value.int i t from rx);cases q;exact Jx PySem.W.kitx_int I.kIn True.intro e (fun z=>nomatch z) h
 | str y=>obtain⟨t,q⟩:=(show ∃ t,u=Value.str y t from rx);cases q;exact Jx PySem.W.kitx_str I.kIn True.intro e (fun z=>nomatch z) h
 | flt y=>obtain⟨t,q⟩:=(show ∃ t,u=Value.float y t from rx);cases q;exact Jx PySem.W.kitx_float I.kIn True.intro e (fun z=>nomatch z) h
 | @lst a xs ea =>
  cases (show u=Value.ref a from rx);obtain⟨_,_,n,_,h1⟩:=(show bu X.prog X.w H s.heap a (.lst xs) from I.hok a _ ea);exact Jx PySem.W.kitx_list I.kIn ⟨_,h1,rfl⟩ e (fun z=>nomatch z) h
 | @frz a ob xs ea =>
  cases (show u=Value.ref a from rx);obtain⟨_,_,_,n,_,h1⟩:=(show bu X.prog X.w H s.heap a (.frz ob (.lst xs)) from I.hok a _ ea);exact Jx PySem.W.kitx_list I.kIn ⟨_,h1,rfl⟩ e (fun z=>nomatch z) h
 | @tup a xs ea =>
  cases (show u=Value.ref a from rx);obtain⟨_,_,_,p⟩:=(show bu X.prog X.w H s.heap a (.tup xs) from I.hok a _ ea);obtain⟨o,h1,h2,_⟩:=p;exact Jx PySem.W.kitx_tuple I.kIn ⟨o,h1,h2⟩ e (fun z=>nomatch z) h
 | @dK a kvs ea =>
  cases (show u=Value.ref a from rx);obtain⟨_,_,vs,_,p⟩:=(show bu X.prog X.w H s.heap a (.dK kvs) from I.hok a _ ea);obtain⟨o,es,ep,h1,h2,_⟩:=p;exact Jx PySem.W.kitx_dict I.kIn ⟨o,h1,h2.1⟩ e (fun z=>nomatch z) h
 | @dT a kvs ea =>
  cases (show u=Value.ref a from rx);obtain⟨_,_,xs,_,o,es,ep,h1,h2,_⟩:=(show bu X.prog X.w H s.heap a (.dT kvs) from I.hok a _ ea);exact Jx PySem.W.kitx_dict I.kIn ⟨o,h1,h2.1⟩ e (fun z=>nomatch z) h
 | @ins a C dx fs ea cl ha hn htk hm =>
  cases (show u=Value.ref a from rx);obtain⟨mA,O,_⟩:=pd I.hok ea;obtain⟨od,J,_⟩:=O.look;exact Jx (PySem.W.kitx_own (cl.get _) cl.hd ha hn htk hm) I.kIn J e (fun z=>nomatch z) h
end
structure bX (k:Nat)(A:Around):Prop where
 hd:A.handled=none
 dp:A.depth+3*k+5<recursionLimit
 un:A.units+16*k+200<cLine
theorem bX.mono {j k:Nat}{A:Around}(r:bX k A)(h:j<=k):bX j A:=⟨r.hd,by have:=r.dp;omega,by have:=r.un;omega⟩
theorem bX.deeper {k:Nat}{A:Around}(r:bX (k+1) A)(env:Env):bX k (A.deeper env) :=
 ⟨r.hd,by have:=r.dp;show A.depth+1+3*k+5<_;omega,by have:=r.un;show A.units+3+16*k+200<_;omega⟩
theorem xj {A:Around}{C:Addr}{us:List Value}{kw:List (Str×Value)}:(A.under (.builtin "type.__call__" ⟨.ref C::us,kw⟩)).depth=A.depth+1:=by
 first | rfl | simp[Around.under,Code.weight,Code.isCreation,Code.isGuard,Code.isCaller,Code.frames,Code.isFrame,guardIds]
theorem xk {A:Around}{C:Addr}{us:List Value}{kw:List (Str×Value)}:(A.under (.builtin "type.__call__" ⟨.ref C::us,kw⟩)).units=A.units+1:=by
 first | rfl | simp[Around.under,Code.cUnits,Code.frames,Code.isFrame]
theorem bX.make {k:Nat}{A:Around}(r:bX (k+1) A)(C:Addr)(us:List Value)(kw:List (Str×Value)):bX k (A.under (.builtin "type.__call__" ⟨.ref C::us,kw⟩)) :=
 ⟨r.hd,by have:=r.dp;rw[xj];omega,by have:=r.un;rw[xk];omega⟩
theorem bX.depth {k:Nat}{A:Around}(r:bX k A):A.depth<recursionLimit:=by have:=r.dp;omega
theorem bX.units {k:Nat}{A:Around}(r:bX k A):A.units+64<cLine:=by have:=r.un;omega
def iP:TA:=fun _ H Q=>Q [] H
def gB (ta:TE)(tr:TA):TA:=fun σ H Q=>ta σ H fun x H1=>tr σ H1 fun xs H2=>Q (x::xs) H2
section
variable {X:Cx}{e:Expr}{es:List Expr}{te:TE}{t:TA}{pos:Pos}
theorem aD:PA X [] iP:=fun _ _ _ _ H Q I h=>JR ⟨[],H,I,.nil,h⟩
theorem ar (ha:PE X e te)(hr:PA X es t)(hs:starEach (e::es) X.env=(false,eval e X.env)::starEach es X.env:=by rfl):PA X (e::es) (gB te t):=by
 intro pos pins s σ H Q I h;rw[hs]
 show wpAny _ _ (spliced ((false,eval e X.env)::backTo pos (starEach es X.env))) _ _ s
 refine Jz (bq (ha pins s σ H _ I h) fun u s1 ⟨x,H1,I1,r1,q1⟩=>?_);exact bq (hr pos pins s1 σ H1 _ I1 q1) fun us s2 ⟨xs,H2,I2,r2,q2⟩=>⟨x::xs,H2,I2,.cons r1 r2,q2⟩
def Hj (t:TA):TE:=fun σ H Q=>t σ H fun xs H1=>xs.length<=sizeLine/\∀ p,H1 p=none->Q (.ref p) (upd H1 p (.tup xs))
def E1 (t:TA):TE:=fun σ H Q=>t σ H fun xs H1=>xs.length<=sizeLine/\∀ p,H1 p=none->Q (.ref p) (upd H1 p (.lst xs))
theorem bZ {x1}(h:PA X es t):PE X (.Tuple es x1 pos) (Hj t):=by
 intro pins s σ H Q I hq;refine wpAny_Tuple_spliced (bq (h pos pins s σ H _ I hq) fun us s1 ⟨xs,H1,I1,r,z,q⟩=>⟨by rw[<-r.length];exact z,?_⟩);have hf:H1 s1.heap.objs.size=none:=I1.hok.fresh (Ix _);refine⟨.ref s1.heap.objs.size,upd H1 s1.heap.objs.size (.tup xs),I1.laid (t':=s1.toks) (fun b u e=>Iw _ e) (Ix _) ?_,rfl,q _ hf⟩;exact⟨z,us,r,⟨_,IV _ rfl,rfl,_,rfl⟩⟩
theorem dz (h:PA X es t):PE X (.List es pos) (E1 t):=by
 intro pins s σ H Q I hq;refine wpAny_List_spliced (bq (h pos pins s σ H _ I hq) fun us s1 ⟨xs,H1,I1,r,z,q⟩=>⟨by rw[<-r.length];exact z,?_⟩);have hf:H1 s1.heap.objs.size=none:=I1.hok.fresh (Ix _);refine⟨.ref s1.heap.objs.size,upd H1 s1.heap.objs.size (.lst xs),I1.laid (t':=s1.toks) (fun b u e=>Iw _ e) (Ix _) ?_,rfl,q _ hf⟩;exact⟨z,us,0,r,IV _ rfl⟩
end
abbrev Sp:=List V->Hp->VK->XK->Prop
abbrev wK:=List Env->Hp->Shared->XK->Value->Shared->Prop
structure wL (P:Program)(w:World)(K:PySem.W.Frag)(mg:Str->Option Value)(base:Heap)(A:Around)(outer:List Env)(s:Shared)(H:Hp):Prop where
 frames:A.frames=some outer
 mod:Mod K mg base
 bs:∀ b o,base.get? b=some o->s.heap.get? b=some o/\H b=none
 bsz:base.objs.size<=s.heap.objs.size
 funs:s.heap.FunFrames base outer
 frf:∀ b∈jU outer,H b=none
 hok:iQ P w H s.heap
 bare:AllBare s.gens
def CE (outer:List Env)(P:Program)(w:World)(H:Hp)(s:Shared)(Q:VK)(u:Value)(s':Shared):Prop :=
 ∃ v H',s'.os=s.os/\AllBare s'.gens/\Un (jU outer) [] H H' s.heap s'.heap/\iQ P w H' s'.heap/\aP v u/\Q v H'
def CR (CX:wK)(outer:List Env)(P:Program)(w:World)(H:Hp)(s:Shared)(Q:VK)(E:XK)(r:Result)(s':Shared):Prop :=
 match r with
 | .ok (.ret u)=>CE outer P w H s Q u s'
 | .ok _=>False
 | .error e=>CX outer H s E e s'
structure aR (P:Program)(w:World)(K:PySem.W.Frag)(mg:Str->Option Value)(base:Heap)(CX:wK)(k:Nat)(f:Addr)(fd:FuncData)(ps:List Str)(sp:Sp):Prop where
 len:∀ vs H Q E,sp vs H Q E->vs.length=ps.length
 run:∀ (A:Around)(outer:List Env)(s:Shared)(H:Hp)(args:Args)(us:List Value)(vs:List V)(Q:VK)(E:XK),bX k A->wL P w K mg base A outer s H->BindsTo s fd args (ps.zip us)->aU vs us->sp vs H Q E ->
  codeAny (model P w) A (.call (.ref f) args) (CR CX outer P w H s Q E) s
theorem wL.make {P:Program}{w:World}{K:PySem.W.Frag}{mg:Str->Option Value}{base:Heap}{A:Around}{outer:List Env}{s:Shared}{H:Hp}(e:wL P w K mg base A outer s H)(C:Addr)(us:List Value)(kw:List (Str×Value)) :
  wL P w K mg base (A.under (.builtin "type.__call__" ⟨.ref C::us,kw⟩)) outer s H:=⟨by first | exact e.frames | (simpa [Around.under,Code.envs,Code.isFrame,pushEnvs] using e.frames),e.mod,e.bs,e.bsz,e.funs,e.frf,e.hok,e.bare⟩
section
variable {X:Cx}{pins:List (Addr×Obj)}{σ:St}{H:Hp}{s s':Shared}
theorem aA.env0 (I:aA X pins σ H s):wL X.prog X.w X.K X.mg X.base X.A X.stack s H :=
 ⟨I.ok.frames,I.ok.mod,I.bs,IY I.ok.bsz I.sz,I.stack,I.stkFree,I.hok,I.bare⟩
theorem aA.after {Q:VK}{u:Value}(I:aA X pins σ H s)(h:CE X.stack X.prog X.w H s Q u s'):EP X pins σ Q u s':=by
 obtain⟨v,H',os,bare,un,hok,r,q⟩:=h;obtain⟨hh,g,d,t,os'⟩:=s';obtain rfl:os'=s.os:=os;exact⟨v,H',I.call (h':=hh) (g':=g) (d':=d) (t':=t) (ch:=[]) un hok bare (fun b z=>absurd z (by simp)),r,q⟩
end
def BJ (sp:Sp)(dvs:List V)(E:XK)(t:TA):TE:=fun σ H Q=>t σ H fun vs H1=>sp (vs++dvs) H1 Q E
inductive HP (C:Addr) (m:Str) (sp:Sp) (dvs:List V) (E:XK) (t:TA) (σ:St) (Q:VK) (x:V) (H:Hp):Prop
 | mk (a dx:Addr) (fs:List (Str×V)) (e:x=.ref a) (o:H a=some (.ins C dx fs)) (l:fs.lookup m=none) (h:t σ H fun vs H2=>sp (x::(vs++dvs)) H2 Q E)
def yS (C:Addr)(m:Str)(sp:Sp)(dvs:List V)(E:XK)(ta:TE)(t:TA):TE:=fun σ H Q=>ta σ H fun x H1=>HP C m sp dvs E t σ Q x H1
def tz (C:Addr)(sp:Sp)(dvs:List V)(E:XK)(t:TA):TE:=fun σ H Q=>t σ H fun vs H1=>∀ x dx,H1 x=none->H1 dx=none->dx≠x ->
 sp (.ref x::(vs++dvs)) (upd (upd H1 dx (.own x)) x (.ins C dx [])) (fun v H2=>v=.non/\Q (.ref x) H2) E
def dE (K:PySem.W.Frag)(fd:FuncData)(ps:List Str)(ds:List Value):Prop :=
 ∀ (s:Shared)(us:List Value),K.In s.heap->(us++ds).length=ps.length->BindsTo s fd ⟨us,[]⟩ (ps.zip (us++ds))
theorem dE.all {K:PySem.W.Frag}{fd:FuncData}{ps:List Str}(h:∀ us:List Value,us.length=ps.length->bindArgs fd ⟨us,[]⟩=pure (ps.zip us)):dE K fd ps []:=fun s us _ hl=>by
 rw[Kb]at hl ⊢;exact .of_eq (h us hl)
def dJ (CX:wK)(X:Cx)(E:XK):Prop:=∀ (pins:List (Addr×Obj))(σ:St)(H:Hp)(s:Shared)(e:Value)(s':Shared),aA X pins σ H s->CX X.stack H s E e s'->X.xe e s'
section
variable {X:Cx}{CX:wK}{k:Nat}{f C:Addr}{fd:FuncData}{ps:List Str}{sp:Sp}{dvs:List V}{ds:List Value}{E:XK}{x m:Str}{p pos apos:Pos}{e o:Expr}{es:List Expr}{ta:TE}{t:TA}
theorem xL {pins:List (Addr×Obj)}{σ:St}{H:Hp}{s:Shared}{Q:VK}{us:List Value}{vs:List V}(F:aR X.prog X.w X.K X.mg X.base CX k f fd ps sp)(hr:bX k X.A)(hb:dE X.K fd ps ds)(hd:aU dvs ds)(hx:dJ CX X E)
  (I:aA X pins σ H s) (r:aU vs us) (h:sp (vs++dvs) H Q E):wpAny (model X.prog X.w) X.A (call (.ref f) us) (EP X pins σ Q) X.xe s:=by
 have r2:aU (vs++dvs) (us++ds):=r.append hd
 have hl:(us++ds).length=ps.length:=by rw[<-r2.length];exact F.len _ _ _ _ h
 refine wpAny_call (codeAny_mono (F.run X.A X.stack s H ⟨us,[]⟩ (us++ds) (vs++dvs) Q E hr I.env0 (hb s us I.kIn hl) r2 h) fun r s' hq=>?_)
 cases r with
 | error e=>exact hx pins σ H s e s' I hq
 | ok fl =>
  cases fl with
  | ret u=>exact I.after hq
  | next=>exact False.elim hq
  | brk=>exact False.elim hq
  | cont=>exact False.elim hq
theorem yz (F:aR X.prog X.w X.K X.mg X.base CX k f fd ps sp)(hr:bX k X.A)(hg:Gl X x)(hm:X.mg x=some (.ref f))(hk:PySem.W.keepIn X.K (.ref f)=true)(hb:dE X.K fd ps ds)(hd:aU dvs ds)(hx:dJ CX X E)
  (ha:PA X (e::es) t) (hdb:(x == ("__debug__" : Str))=false:=by decide) (he:starEach (e::es) X.env=(false,eval e X.env)::starEach es X.env:=by rfl) (hpl:(backTo pos (starEach es X.env)).any (·.1)=false:=by rfl) :
  PE X (.Call (.Name x p) (e::es) [] pos) (BJ sp dvs E t):=by
 intro pins s σ H Q I h;refine JN (fj I hg hm ?_ hdb);refine PySem.W.callWith_K (h₀:=X.base) I.ok.mod.kin hk (bq (ha pos pins s σ H _ I h) fun us s1 ⟨vs,H1,I1,r,q⟩=>⟨I1.kIn,?_⟩) he hpl;exact xL F hr hb hd hx I1 r q
theorem CT {pl:Sem Bool}(he:PE X o ta)(c:uZ X.K C)(hm:BW X.K C m f)(F:aR X.prog X.w X.K X.mg X.base CX k f fd ps sp)(hr:bX k X.A)(hb:dE X.K fd ps ds)(hd:aU dvs ds)(hx:dJ CX X E)(ha:PA X (e::es) t)
  (hst:starEach (e::es) X.env=(false,eval e X.env)::starEach es X.env:=by rfl) (hpl:(backTo pos (starEach es X.env)).any (·.1)=false:=by rfl)
  (ht:eval (.Call (.Attribute o m apos) (e::es) [] pos) X.env=(do
   let ov <-eval o X.env
   standAt apos.atName
   let (f,first) <-holding [ov] (getMethod ov m pl)
   callWith pos f first (backTo pos (starEach (e::es) X.env)) (backToKw pos (keywordEach [] X.env))):=by rfl) :
  PE X (.Call (.Attribute o m apos) (e::es) [] pos) (yS C m sp dvs E ta t):=by
 intro pins s σ H Q I h;refine PySem.W.methodCall_KW (pl:=pl) (bq (he pins s σ H _ I h) fun u s1 ⟨x,H1,I1,rx,a,dx,fs,ex,ea,l,q⟩=>?_) ht;subst ex;obtain rfl:u=Value.ref a:=rx;refine qe I1 ea c hm l ?_;refine PySem.W.callWith_K (first:=[.ref a]) (h₀:=X.base) I.ok.mod.kin hm.kp (bq (ha pos pins s1 σ H1 _ I1 q) fun us s2 ⟨vs,H2,I2,r,q2⟩=>⟨I2.kIn,?_⟩) hst hpl;exact xL (us:=.ref a::us) (vs:=.ref a::vs) F hr hb hd hx I2 (.cons rfl r) q2
theorem Ba {pl:Sem Bool}(he:PE X o ta)(c:uZ X.K C)(hm:BW X.K C m f)(F:aR X.prog X.w X.K X.mg X.base CX k f fd ps sp)(hr:bX k X.A)(hb:dE X.K fd ps ds)(hd:aU dvs ds)(hx:dJ CX X E)
  (ht:eval (.Call (.Attribute o m apos) [] [] pos) X.env=(do
   let ov <-eval o X.env
   standAt apos.atName
   let (f,first) <-holding [ov] (getMethod ov m pl)
   callWith pos f first (backTo pos (starEach [] X.env)) (backToKw pos (keywordEach [] X.env))):=by rfl) :
  PE X (.Call (.Attribute o m apos) [] [] pos) (yS C m sp dvs E ta iP):=by
 intro pins s σ H Q I h;refine PySem.W.methodCall_KW (pl:=pl) (bq (he pins s σ H _ I h) fun u s1 ⟨x,H1,I1,rx,a,dx,fs,ex,ea,l,q⟩=>?_) ht;subst ex;obtain rfl:u=Value.ref a:=rx;refine qe I1 ea c hm l ?_;exact PySem.W.callWith_K0 (first:=[.ref a]) I1.kIn hm.kp (xL (us:=[.ref a]) (vs:=[.ref a]) F hr hb hd hx I1 (.cons rfl .nil) q)
structure Mk (K:PySem.W.Frag)(C f:Addr):Prop where
 makes:PySem.W.makesIn K C=true
 init:PySem.W.findIn K (.ref C) "__init__" = some (some (.ref f))
 fn:PySem.W.isFn K (.ref f)=true
 kp:PySem.W.keepIn K (.ref C)=true
theorem wo {pins:List (Addr×Obj)}{σ:St}{H:Hp}{s:Shared}{Q:VK}{us:List Value}{vs:List V}(M:Mk X.K C f)(F:aR X.prog X.w X.K X.mg X.base CX k f fd ps sp)(hr:bX (k+1) X.A)(hb:dE X.K fd ps ds)(hd:aU dvs ds)
  (hx:dJ CX X E) (I:aA X pins σ H s) (r:aU vs us)
  (h:∀ x dx,H x=none->H dx=none->dx≠x->sp (.ref x::(vs++dvs)) (upd (upd H dx (.own x)) x (.ins C dx [])) (fun v H2=>v=.non/\Q (.ref x) H2) E) :
  wpAny (model X.prog X.w) X.A (call (.ref C) us) (EP X pins σ Q) X.xe s:=by
 have hq:=h (s.heap.objs.size+1) s.heap.objs.size (I.hok.fresh (Nat.le_succ _)) (I.hok.fresh (Ix _)) (IW (Nat.lt_succ_self _));have I2:=aA.made (C:=C) I;have r2:aU (V.ref (s.heap.objs.size+1)::(vs++dvs)) (Value.ref (s.heap.objs.size+1)::(us++ds)):=.cons rfl (r.append hd)
 have hl:(Value.ref (s.heap.objs.size+1)::us++ds).length=ps.length:=by
  have e:=r2.length;rw[F.len _ _ _ _ hq]at e;exact e.symm
 refine wpAny_call (AS (f:=f) I.kIn M.makes M.init (Ka.mp M.fn) (codeAny_mono (F.run _ X.stack _ _ ⟨Value.ref (s.heap.objs.size+1)::us,[]⟩ (Value.ref (s.heap.objs.size+1)::(us++ds)) _ _ E (hr.make C us [])
  (I2.env0.make C us []) (hb _ (Value.ref (s.heap.objs.size+1)::us) I2.kIn hl) r2 hq) fun r s' hq'=>?_))
 cases r with
 | error e=>exact hx pins σ _ _ e s' I2 hq'
 | ok fl =>
  cases fl with
  | ret u =>
   obtain⟨v,H',I3,rv,ev,q3⟩:=I2.after hq';subst ev;exact⟨rv,⟨V.ref (s.heap.objs.size+1),H',I3,rfl,q3⟩⟩
  | next=>exact False.elim hq'
  | brk=>exact False.elim hq'
  | cont=>exact False.elim hq'
theorem CS (M:Mk X.K C f)(F:aR X.prog X.w X.K X.mg X.base CX k f fd ps sp)(hr:bX (k+1) X.A)(hg:Gl X x)(hm:X.mg x=some (.ref C))(hb:dE X.K fd ps ds)(hd:aU dvs ds)(hx:dJ CX X E)
  (ha:PA X (e::es) t) (hdb:(x == ("__debug__" : Str))=false:=by decide) (he:starEach (e::es) X.env=(false,eval e X.env)::starEach es X.env:=by rfl) (hpl:(backTo pos (starEach es X.env)).any (·.1)=false:=by rfl) :
  PE X (.Call (.Name x p) (e::es) [] pos) (tz C sp dvs E t):=by
 intro pins s σ H Q I h;refine JN (fj I hg hm ?_ hdb);refine PySem.W.callWith_K (h₀:=X.base) I.ok.mod.kin M.kp (bq (ha pos pins s σ H _ I h) fun us s1 ⟨vs,H1,I1,r,q⟩=>⟨I1.kIn,?_⟩) he hpl;exact wo M F hr hb hd hx I1 r q
theorem qT (M:Mk X.K C f)(F:aR X.prog X.w X.K X.mg X.base CX k f fd ps sp)(hr:bX (k+1) X.A)(hg:Gl X x)(hm:X.mg x=some (.ref C))(hb:dE X.K fd ps ds)(hd:aU dvs ds)(hx:dJ CX X E)
  (hdb:(x == ("__debug__" : Str))=false:=by decide):PE X (.Call (.Name x p) [] [] pos) (tz C sp dvs E iP):=by
 intro pins s σ H Q I h;refine JN (fj I hg hm ?_ hdb);exact PySem.W.callWith_K0 I.kIn M.kp (wo (us:=[]) M F hr hb hd hx I .nil h)
end
structure au (N P:List Str)(sc:Scope):Prop where
 kind:sc.kind=.function
 co:sc.isCoroutine=false
 gen:sc.isGenerator=false
 nd:N.Nodup
 pre:N.take P.length=P
 par:∀ x∈P,sc.names.lookup x=some .local\/sc.names.lookup x=some .cell
 nofree:∀ y∈sc.names,y.2≠.free
theorem sH {kindOf:Str->Option NameKind}{x:Str}:∀ {binds:List (Str×Value)}{m:Str->Option Value},(∀ v,(x,v)∉binds)->bindL kindOf binds m x=m x
 | [],_,_=>rfl
 | (n,v)::r,m,h=>by
  unfold bindL;rw[sH fun w hw=>h w (Iy _ hw)];split
  ·have:x≠n:=by rintro rfl;exact h v IB
   simp[this]
  ·rfl
theorem sE {kindOf:Str->Option NameKind}{x:Str}:∀ {binds:List (Str×Value)}{m:Str->Option Value},(∀ v,(x,v)∉binds)->bindC kindOf binds m x=m x
 | [],_,_=>rfl
 | (n,v)::r,m,h=>by
  unfold bindC;rw[sE fun w hw=>h w (Iy _ hw)];split
  ·rfl
  ·have:x≠n:=by rintro rfl;exact h v IB
   simp[this]
theorem sG {kindOf:Str->Option NameKind}{x:Str}{v:Value}:∀ {P:List Str}{vs:List Value}{i:Nat}{m:Str->Option Value},P.Nodup->P[i]? = some x->vs[i]? = some v->kindOf x=some .local ->
  bindL kindOf (P.zip vs) m x=some v
 | [],_,_,_,_,h,_,_=>by simp at h
 | _::_,[],_,_,_,_,h,_=>by simp at h
 | p::P,w::vs,0,m,nd,h1,h2,hk=>by
  simp at h1 h2;subst h1;subst h2
  show bindL kindOf ((p,w)::P.zip vs) m p=_
  unfold bindL;rw[sH fun v hv=>(Jk.mp nd).1 (List.of_mem_zip hv).1,Iu hk];simp
 | p::P,w::vs,i+1,m,nd,h1,h2,hk=>by
  show bindL kindOf ((p,w)::P.zip vs) m x=_
  unfold bindL;exact sG (i:=i) (Jk.mp nd).2 (by simpa using h1) (by simpa using h2) hk
theorem sD {kindOf:Str->Option NameKind}{x:Str}{v:Value}:∀ {P:List Str}{vs:List Value}{i:Nat}{m:Str->Option Value},P.Nodup->P[i]? = some x->vs[i]? = some v->kindOf x≠some .local ->
  bindC kindOf (P.zip vs) m x=some v
 | [],_,_,_,_,h,_,_=>by simp at h
 | _::_,[],_,_,_,_,h,_=>by simp at h
 | p::P,w::vs,0,m,nd,h1,h2,hk=>by
  simp at h1 h2;subst h1;subst h2
  show bindC kindOf ((p,w)::P.zip vs) m p=_
  unfold bindC;rw[sE fun v hv=>(Jk.mp nd).1 (List.of_mem_zip hv).1,Ir hk];simp
 | p::P,w::vs,i+1,m,nd,h1,h2,hk=>by
  show bindC kindOf ((p,w)::P.zip vs) m x=_
  unfold bindC;exact sD (i:=i) (Jk.mp nd).2 (by simpa using h1) (by simpa using h2) hk
def lZ (N:List Str)(vs:List V):St:=vs.map some++List.replicate (N.length-vs.length) none
def pT (CX:wK)(P:Program)(w:World)(K:PySem.W.Frag)(mg:Str->Option Value)(base:Heap)(N:List Str)(qual:Str)(scope:Scope)(f:Addr)(cd:Value)(A:Around)(outer:List Env)(s:Shared)(H:Hp)(E:XK):Cx where
 prog:=P
 w:=w
 K:=K
 mg:=mg
 base:=base
 A:=A.deeper (envOfC qual scope s.heap.objs.size f cd)
 N:=N
 s₀:=s
 H₀:=H
 env:=envOfC qual scope s.heap.objs.size f cd
 outer:=outer
 stack:=envOfC qual scope s.heap.objs.size f cd::outer
 ex:=[]
 calm:=true
 fn:=fun _=>true
 pn:=[]
 xe:=fun e s'=>wpAny (model P w) (A.deeper (envOfC qual scope s.heap.objs.size f cd)) (leaving (envOfC qual scope s.heap.objs.size f cd) e) (fun _ s''=>CX outer H s E e s'') (fun e' s''=>CX outer H s E e' s'') s'
theorem vb {sc:Scope}{n:Nat}{x:Str}(h:sc.names.lookup x=some .cell):∃ c,(cellsFrom n sc.names []).lookup x=some c:=by
 have q:=PySem.W.cellsFrom_some sc.names n [] (.inl h);exact Jn.mp q
theorem zt {CX:wK}{P:Program}{w:World}{K:PySem.W.Frag}{mg:Str->Option Value}{base:Heap}{N ps:List Str}{qual:Str}{scope:Scope}{f:Addr}{cd:Value}{A:Around}{outer:List Env}{s s1:Shared}{H:Hp}{E:XK}{us:List Value}{vs:List V}
  (S:au N ps scope) (hd:A.handled=none) (e0:wL P w K mg base A outer s H) (hl:vs.length=ps.length) (r:aU vs us)
  (x:InCallC s s.heap.objs.size (bindL (envOfC qual scope s.heap.objs.size f cd).kindOf (ps.zip us) fun _=>none) (cellsFrom (s.heap.objs.size+1) scope.names []) (bindC (envOfC qual scope s.heap.objs.size f cd).kindOf (ps.zip us) fun _=>none) s1) :
  aA (pT CX P w K mg base N qual scope f cd A outer s H E) [] (lZ N vs) H s1:=by
 have hpl:ps.length<=N.length:=by have:=J3 List.length S.pre;rw[Jm]at this;omega
 obtain⟨h1,tk,rfl,hk⟩:=x.done;have noA:∀ b:Addr,b∉(pT CX P w K mg base N qual scope f cd A outer s H E).ex:=fun b z=>absurd (show b∈([]:List Addr) from z) (by simp)
 refine⟨⟨e0.mod,S.kind,rfl,rfl,Ix _,fun y z c h1 h2=>?_,fun y hy=>?_,fun y c _ h=>?_,fun _=>hd,Around.frames_deeper e0.frames,.inr ⟨rfl,rfl⟩,fun b z=>absurd z (noA b),e0.bs,e0.bsz,fun b _ _=>noA b,fun b z=>absurd z (noA b),e0.funs,e0.frf⟩,
  rfl,e0.bare,Un.kept hk,⟨_,x.toInCall.ns,fun i y v h1 h2 h3=>?_⟩,fun y c h=>⟨_,x.cell y c h⟩,e0.hok.fresh (Ix _),fun y c h=>?_,fun p hp=>absurd (show p∈([]:List (Addr×Obj)) from hp) (by simp),e0.hok.kept hk,?_⟩
 ·exact name_of_addr x.apart (JS h1) (JS h2)
 ·have hy:scope.names.lookup y=some .cell\/scope.names.lookup y=some .free:=hy
  rcases hy with hy | hy
  ·exact vb hy
  ·exact absurd rfl (S.nofree _ (JS hy))
 ·exact Nat.le_of_lt (x.above y c (JS h))
 ·have hi:i<vs.length:=by
   unfold lZ at h2
   by_cases hi:i<vs.length
   ·exact hi
   ·rw[List.getElem?_append_right (by simpa using hi)]at h2
    rw[List.getElem?_replicate]at h2;split at h2<;>cases h2
  have ha:vs[i]? = some v:=by
   unfold lZ at h2;rw[List.getElem?_append_left (by simpa using hi),Ji]at h2
   cases e:vs[i]? with
   | none=>rw[e]at h2;cases h2
   | some a=>rw[e]at h2;cases h2;rfl
  obtain⟨u,hu,rv⟩:=r.get ha
  have hp:ps[i]? = some y:=by
   rw[<-S.pre,List.getElem?_take_of_lt (by omega)];exact h1
  have ndP:ps.Nodup:=by rw[<-S.pre];exact S.nd.sublist (List.take_sublist _ _)
  refine⟨u,rv,?_⟩;rcases S.par y (Jc hp) with k | k
  ·exact .inl ⟨k,sG ndP hp hu k⟩
  ·obtain⟨c,e⟩:=vb (n:=s.heap.objs.size+1) k
   refine .inr ⟨.inl k,c,e,?_⟩;have q:=x.cell y c e;rw[sD ndP hp hu (by show scope.names.lookup y≠_;rw[k];decide)]at q;exact q
 ·exact e0.hok.fresh (Nat.le_of_lt (x.above y c (JS h)))
 ·unfold lZ
  show _=N.length
  rw[IK,Iq,List.length_replicate];omega
theorem Dj {CX:wK}{P:Program}{w:World}{K:PySem.W.Frag}{mg:Str->Option Value}{base:Heap}{k:Nat}{f:Addr}{name qual:Str}{params:Arguments}{body:List Stmt}{scope:Scope}{dV kV doc pm cdv ct oc:Value}{an od:Option Addr}
  {osl:Array (Option Value)} {N ps:List Str} {sp:Sp} (lk:K.lookup f=some ⟨oc,od,.func (PySem.W.fnOf name qual params body scope dV kV doc pm an cdv ct),osl⟩) (hcd:PySem.W.codeIn K cdv qual=true) (S:au N ps scope)
  (len:∀ vs H Q E,sp vs H Q E->vs.length=ps.length)
  (hbody:∀ (A:Around)(outer:List Env)(s:Shared)(H:Hp)(vs:List V)(Q:VK)(E:XK),bX k (A.deeper (envOfC qual scope s.heap.objs.size f cdv))->sp vs H Q E ->
   ∃ t,uV (pT CX P w K mg base N qual scope f cdv A outer s H E) body t/\t { nx:=fun _ H'=>Q .non H',rt:=Q } (lZ N vs) H) :
  aR P w K mg base CX (k+1) f (PySem.W.fnOf name qual params body scope dV kV doc pm an cdv ct) ps sp:=by
 refine⟨len,fun A outer s H args us vs Q E hr e0 hb r hsp=>?_⟩;have hl:=len _ _ _ _ hsp;have KX:K.In s.heap:=e0.mod.kin.keeps fun b o e=>(e0.bs b o e).1;have lim:s.heap.NoLimit:=e0.mod.nolimit.keeps fun b o e=>(e0.bs b o e).1
 have hkind:∀ y∈ps.zip us,scope.names.lookup y.1=some .local\/(scope.names.lookup y.1=some .cell/\((cellsFrom (s.heap.objs.size+1) scope.names []).lookup y.1).isSome=true):=fun ⟨n,v⟩ hy=>by
  rcases S.par n (List.of_mem_zip hy).1 with q | q
  ·exact .inl q
  ·exact .inr ⟨q,PySem.W.cellsFrom_some _ _ _ (.inl q)⟩
 refine codeAny_call_function hr.depth (KX _ _ lk) rfl S.co S.gen rfl (PySem.W.codeRec_of KX hcd) (hb _ _ _ _ ?_);refine wpAny_newFunctionEnv_cells S.kind hkind fun env he s1 x=>?_;subst he;refine⟨lim.keeps x.toInCall.keep,codeAny_func ?_⟩;obtain⟨t,ht,hq⟩:=hbody A outer s H vs Q E (hr.deeper _) hsp;have I:aA (pT CX P w K mg base N qual scope f cdv A outer s H E) [] (lZ N vs) H s1:=zt S hr.hd e0 hl r x;refine Jv (ht [] s1 (lZ N vs) H _ I hq) (fun fl s' hs=>?_) fun e s' hs=>hs
 have fin:∀ {σ':St}{H':Hp}{v:V}{u:Value},aA (pT CX P w K mg base N qual scope f cdv A outer s H E) [] σ' H' s'->aP v u->Q v H'->CE outer P w H s Q u s' :=
  fun {σ' H' v u} J rv q=>⟨v,H',J.os,J.bare,J.base,J.hok,rv,q⟩
 cases fl with
 | ret u =>
  obtain⟨v,σ',H',J,rv,q⟩:=hs;exact fin J rv q
 | next =>
  obtain⟨σ',H',J,q⟩:=hs;exact fin (v:=V.non) (u:=Value.none) J rfl q
 | brk =>
  obtain⟨_,_,_,q⟩:=hs;exact False.elim q
 | cont =>
  obtain⟨_,_,_,q⟩:=hs;exact False.elim q
section
variable {X:Cx}{x:Str}{p pos:Pos}{e:Expr}{es:List Expr}{t:TA}{id T:String}{r:List V->Hp->VK->Prop}
def Go (r:List V->Hp->VK->Prop)(t:TA):TE:=fun σ H Q=>t σ H fun vs H1=>r vs H1 Q
theorem cr (hc:gR X (.builtin id) r)(hg:Gl X x)(hm:X.mg x=none)(hv:bootBuiltins x=some (.builtin id))(ha:PA X (e::es) t)(hn:x≠"__name__":=by decide)(hdb:(x == ("__debug__" : Str))=false:=by decide)
  (he:starEach (e::es) X.env=(false,eval e X.env)::starEach es X.env:=by rfl) (hpl:(backTo pos (starEach es X.env)).any (·.1)=false:=by rfl):PE X (.Call (.Name x p) (e::es) [] pos) (Go r t):=by
 intro pins s σ H Q I h;refine JN (mV I hg hm hv ?_ hn hdb);exact PyProof.Rows.callWith_builtin1 (bq (ha pos pins s σ H _ I h) fun us s1 ⟨vs,H1,I1,r1,q1⟩=>hc pins s1 σ H1 vs us Q I1 r1 q1) he hpl
theorem dH (hc:gR X (.type T) r)(hg:Gl X x)(hm:X.mg x=none)(hv:bootBuiltins x=some (.type T))(ha:PA X (e::es) t)(hn:x≠"__name__":=by decide)(hdb:(x == ("__debug__" : Str))=false:=by decide)
  (he:starEach (e::es) X.env=(false,eval e X.env)::starEach es X.env:=by rfl) (hpl:(backTo pos (starEach es X.env)).any (·.1)=false:=by rfl):PE X (.Call (.Name x p) (e::es) [] pos) (Go r t):=by
 intro pins s σ H Q I h;refine JN (mV I hg hm hv ?_ hn hdb);exact PyProof.Rows.callWith_type1 (bq (ha pos pins s σ H _ I h) fun us s1 ⟨vs,H1,I1,r1,q1⟩=>hc pins s1 σ H1 vs us Q I1 r1 q1) he hpl
theorem xH (hc:gR X (.type T) r)(hg:Gl X x)(hm:X.mg x=none)(hv:bootBuiltins x=some (.type T))(hn:x≠"__name__":=by decide)(hdb:(x == ("__debug__" : Str))=false:=by decide) :
  PE X (.Call (.Name x p) [] [] pos) (Go r iP):=by
 intro pins s σ H Q I h;refine JN (mV I hg hm hv ?_ hn hdb);exact PyProof.Rows.callWith_type0 (hc pins s σ H [] [] Q I .nil h)
end
end L2
namespace HT
open PySem PyProof.Rows
section
variable {prog:Program}{w:World}{A:Around}{E:Value->Shared->Prop}{s:Shared}
theorem cat_tup {t b:Addr}{vs ws:List Value}{Q:Value->Shared->Prop}(ht:IsTup s.heap t vs.toArray)(hb:IsTup s.heap b ws.toArray)(hv:vs≠[])
  (h1:ws=[]->Q (.ref t) s) (h2:ws≠[]->Q (.ref s.heap.objs.size) { s with heap:=s.heap.push { cls:=.type "tuple",data:=.seq (vs++ws).toArray } })
  (hsz:vs.length+ws.length<=sizeLine):wpAny (model prog w) A (binaryOp .Add (.ref t) (.ref b)) Q E s:=by
 obtain⟨⟨cls,dd,data,sl⟩,ho,hc,n,hd⟩:=id ht;obtain⟨⟨cls2,dd2,data2,sl2⟩,ho2,hc2,n2,hd2⟩:=id hb;simp only at hc hd hc2 hd2;subst hc hd hc2 hd2
 have e:vs.toArray++ws.toArray=(vs++ws).toArray:=by simp
 by_cases hw:ws=[]
 ·exact concat_meets ⟨_,ho,rfl⟩ ⟨_,ho2,rfl⟩ noFill_tuple_add seq_tuple_add PySem.F.slot_tuple_add PySem.F.entry_tuple_add (PySem.F.args_tuple_add_2 _ _)
   (tuple_addW1 t b vs.toArray ws.toArray n n2 dd dd2 sl sl2 (by simpa using hv) (by simp[hw])) ⟨ho,ho2,h1 hw⟩
 ·refine concat_meets ⟨_,ho,rfl⟩ ⟨_,ho2,rfl⟩ noFill_tuple_add seq_tuple_add PySem.F.slot_tuple_add PySem.F.entry_tuple_add (PySem.F.args_tuple_add_2 _ _)
   (tuple_addW2 t b vs.toArray ws.toArray n n2 dd dd2 sl sl2 (by simpa using hv) (by simpa using hw) (by rw[IS,IS];exact hsz)) ⟨ho,ho2,?_⟩
  rw[e];exact h2 hw
def sIx (n d:Nat):Option Int->Nat
 | none=>d
 | some v=>if v<0 then (v+(n:Int)).toNat else min v.toNat n
theorem sIx_none (n d:Nat):sIx n d none=d:=rfl
theorem sIx_nat (n d k:Nat):sIx n d (some (k:Int))=min k n:=by
 show (if (k:Int)<0 then ((k:Int)+(n:Int)).toNat else min (k:Int).toNat n)=min k n
 rw[Ir (by omega),Int.toNat_natCast]
theorem ER (n d:Nat)(hd:d<=n)(o:Option Int):sIx n d o<=n:=by
 cases o with
 | none=>exact hd
 | some v =>
  show (if v<0 then (v+(n:Int)).toNat else min v.toNat n)<=n
  by_cases hv:v<0
  ·rw[Iu hv];omega
  ·rw[Ir hv];exact Nat.min_le_right _ _
theorem x8 (v:Int)(n d:Nat):(if v<0 then max (v+(n:Int)) 0 else min v (n:Int))=((sIx n d (some v):Nat):Int):=by
 show (if v<0 then max (v+(n:Int)) 0 else min v (n:Int))=(((if v<0 then (v+(n:Int)).toNat else min v.toNat n):Nat):Int)
 by_cases hv:v<0
 ·simp only[Iu hv];omega
 ·simp only[Ir hv];omega
theorem wO (lo hi:Option Int)(n:Nat):Builtin.Slice.sliceAdjust lo hi 1 (n:Int)=(((sIx n 0 lo:Nat):Int),((sIx n n hi:Nat):Int)):=by
 have h1:¬ ((1:Int)<0):=by omega
 unfold Builtin.Slice.sliceAdjust;simp only[h1,if_false];refine Prod.ext ?_ ?_
 ·cases lo with
  | none=>rfl
  | some v=>exact x8 v n 0
 ·cases hi with
  | none=>rfl
  | some v=>exact x8 v n n
theorem xI (i j:Nat):Builtin.Slice.slicePlaces (i:Int) (j:Int) 1=j-i:=by
 unfold Builtin.Slice.slicePlaces
 have h1:(1:Int)>0:=by omega
 simp only[h1,if_true,Int.ediv_one];split<;>omega
theorem rp {v:Value}{o:Option Int}{Q:Option Int->Shared->Prop}(p:IsPart v o)(h:Q o s):wpAny (model prog w) A (Builtin.Slice.slicePartIndex v) Q E s:=by
 cases p with
 | none=>exact slicePart_none h
 | int i t=>exact slicePart_int h
theorem nv {sl:Addr}{vl vu:Value}{lo hi:Option Int}{n:Nat}{Q:Int×Int×Nat->Shared->Prop}(hs:s.heap.IsSliceOf sl vl vu .none)(pl:IsPart vl lo)(pu:IsPart vu hi)
  (h:Q (((sIx n 0 lo:Nat):Int),1,sIx n n hi-sIx n 0 lo) s):wpAny (model prog w) A (Builtin.Slice.sliceApplied (.ref sl) (pure (n:Int))) Q E s:=by
 obtain⟨os,hos,hcs,hds⟩:=id hs;unfold Builtin.Slice.sliceApplied Builtin.Slice.sliceFields;refine Iv (Iv (Ke hos hds (x:=vl) rfl (Iv (Ke hos hds (x:=vu) rfl (Iv (Ke hos hds (x:=.none) rfl (IP ?_)))))));refine Iv (slicePart_none ?_)
 show wpAny _ _ (if ((1:Int) == 0)=true then _ else _) _ _ s
 rw[Ir (by decide)];refine Iv (rp pl (Iv (rp pu (Iv (IP ?_)))))
 show wpAny _ _ (match Builtin.Slice.sliceAdjust lo hi 1 (n:Int) with | (lo,hi)=>pure (lo,(1:Int),Builtin.Slice.slicePlaces lo hi 1)) _ _ s
 rw[wO lo hi n]
 show wpAny _ _ (pure (((sIx n 0 lo:Nat):Int),(1:Int),Builtin.Slice.slicePlaces ((sIx n 0 lo:Nat):Int) ((sIx n n hi:Nat):Int) 1)) _ _ s
 rw[xI];exact IP h
theorem Bd (xs:Array Value)(i k:Nat):((List.range k).filterMap fun (m:Nat)=>xs[((i:Int)+(m:Int)*1).toNat]?).toArray=((xs.toList.drop i).take k).toArray:=by
 have e:(fun (m:Nat)=>xs[((i:Int)+(m:Int)*1).toNat]?)=fun m=>xs[i+m]?:=by
  funext m
  have:((i:Int)+(m:Int)*1).toNat=i+m:=by omega
  rw[this]
 rw[e];have:=pick_run xs i k;rw[List.filterMap_map]at this;have e2:((fun x=>xs[x]?) ∘ fun x=>i+x)=fun m=>xs[i+m]?:=rfl;rw[e2]at this;rw[this]
theorem getItem_tuple_cut {t sl:Addr}{items:Array Value}{vl vu:Value}{lo hi:Option Int}{Q:Value->Shared->Prop}(ht:IsTup s.heap t items)(hs:s.heap.IsSliceOf sl vl vu .none)(pl:IsPart vl lo)(pu:IsPart vu hi)
  (hw:¬ (sIx items.size 0 lo=0/\sIx items.size items.size hi=items.size))
  (h:Q (.ref s.heap.objs.size) { s with heap:=s.heap.push { cls:=.type "tuple",data:=.seq ((items.toList.drop (sIx items.size 0 lo)).take (sIx items.size items.size hi-sIx items.size 0 lo)).toArray } })
  (hsz:items.size<=sizeLine):wpAny (model prog w) A (getItem (.ref t) (.ref sl)) Q E s:=by
 have htake:sizeOk (.seq ((items.toList.drop (sIx items.size 0 lo)).take (sIx items.size items.size hi-sIx items.size 0 lo)).toArray):=by
  show ((items.toList.drop (sIx items.size 0 lo)).take (sIx items.size items.size hi-sIx items.size 0 lo)).toArray.size<=sizeLine
  rw[IS,Jm,List.length_drop,Jj];omega
 have hj:sIx items.size items.size hi<=items.size:=ER _ _ (Ix _) hi;obtain⟨os,hos,hcs,hds⟩:=id hs;have hTs:s.TypeIs (.ref sl) "slice":=⟨os,hos,hcs⟩;unfold getItem
 try with_reducible refine wpAny_holding ?_
 first | refine Iv (IP ?_) | skip
 refine Iv (wpAny_sequenceKey ht.typeIs (by decide) ?_)
 refine Iv (wpAny_callSpecial?_slot (name:=Str.ofString "__getitem__") ht.typeIs PyProof.Rows.slot_tuple_getitem
  (wpAny_call_entry PyProof.Rows.slot_tuple_getitem ht.typeIs entry_tuple_getitem ?_ (args_tuple_getitem _ _)))
 show wpAny _ _ (Builtin.Tuple.tupleItemsOf (.ref t) >>= _) _ _ s
 refine Iv (tupleItemsOf_ ht ?_);refine Iv (wpAny_typeOf hTs ?_);rw[Iu (by decide)];refine Iv (nv hs pl pu ?_)
 have hno:¬ ((((sIx items.size 0 lo:Nat):Int) == 0&&(1:Int) == 1&&(sIx items.size items.size hi-sIx items.size 0 lo) == items.size)=true):=by
  intro q;rw[JD,JD]at q;have q1:((sIx items.size 0 lo:Nat):Int)=0:=eq_of_beq q.1.1;have q2:sIx items.size items.size hi-sIx items.size 0 lo=items.size:=eq_of_beq q.2;exact hw ⟨by omega,by omega⟩
 show wpAny _ _ (if (((sIx items.size 0 lo:Nat):Int) == 0&&(1:Int) == 1&&(sIx items.size items.size hi-sIx items.size 0 lo) == items.size)=true then _ else _) _ _ s
 rw[Ir hno,Bd]
 first
  | exact Iv (m:=Builtin.Tuple.tupleExact _) (JH (IP ⟨_,rfl,IP h⟩) htake)
  | exact Iv (m:=Builtin.Tuple.tupleExact _) (JH (Iv (IP (IP ⟨_,rfl,IP h⟩))) htake)
  | exact Iv (Iv (m:=Builtin.Tuple.tupleExact _) (JH (IP (IP ⟨_,rfl,IP h⟩)) htake))
  | exact Iv (Iv (m:=Builtin.Tuple.tupleExact _) (JH (IP ⟨_,rfl,IP h⟩) htake))
end
end HT
namespace L2
open PySem PySem.Spec PyProof.Rows
abbrev TO:=St->Hp->(Option Int->Hp->Prop)->Prop
def PO (X:Cx)(e:Option Expr)(t:TO):Prop :=
 ∀ (pins:List (Addr×Obj))(s:Shared)(σ:St)(H:Hp)(Q:Option Int->Hp->Prop),aA X pins σ H s->t σ H Q ->
  wpAny (model X.prog X.w) X.A (evalPart e X.env) (fun u s'=>∃ o H',aA X pins σ H' s'/\IsPart u o/\Q o H') X.xe s
def yT:TO:=fun _ H Q=>Q none H
def F9 (t:TE):TO:=fun σ H Q=>t σ H fun x H1=>∃ i,x=.int i/\Q (some i) H1
section
variable {X:Cx}{e:Expr}{te:TE}{lo hi:Option Expr}{tl th:TO}{pos p2:Pos}
theorem pq:PO X none yT:=by
 intro pins s σ H Q I h;rw[evalPart_none];exact IP ⟨none,H,I,.none,h⟩
theorem jQ (h:PE X e te):PO X (some e) (F9 te):=by
 intro pins s σ H Q I hw;rw[evalPart_some];refine bq (h pins s σ H _ I hw) fun u s1 ⟨x,H1,I1,r1,q1⟩=>?_;obtain⟨i,rfl,q⟩:=q1;obtain⟨t,rfl⟩:=r1;exact⟨some i,H1,I1,.int i t,q⟩
def Gz (X:Cx)(r:V->Option Int->Option Int->Hp->VK->Prop):Prop :=
 ∀ (pins:List (Addr×Obj))(s:Shared)(σ:St)(H:Hp)(x:V)(v vl vu:Value)(lo hi:Option Int)(sl:Addr)(Q:VK),aA X pins σ H s->aP x v->s.heap.IsSliceOf sl vl vu .none->IsPart vl lo->IsPart vu hi->r x lo hi H Q ->
  ∃ T id,typeLookup (.type T) "__getitem__" = pure (some (.builtin id))/\s.TypeIs v T/\wpAny (model X.prog X.w) X.A (getItem v (.ref sl)) (EP X pins σ Q) X.xe s
def Ih (r:V->Option Int->Option Int->Hp->VK->Prop)(te:TE)(tl th:TO):TE:=fun σ H Q=>te σ H fun x H1=>tl σ H1 fun l H2=>th σ H2 fun u H3=>r x l u H3 Q
theorem jj {r:V->Option Int->Option Int->Hp->VK->Prop}(hr:Gz X r)(he:PE X e te)(hl:PO X lo tl)(hu:PO X hi th):PE X (.Subscript e (.Slice lo hi none p2) pos) (Ih r te tl th):=by
 intro pins s σ H Q I h;refine Subscript_ (bq (he pins s σ H _ I h) fun v s1 ⟨x,H1,I1,r1,q1⟩=>?_);refine wpAny_Slice (bq (hl pins s1 σ H1 _ I1 q1) fun vl s2 ⟨l,H2,I2,pl,q2⟩=>bq (hu pins s2 σ H2 _ I2 q2) fun vu s3 ⟨u,H3,I3,pu,q3⟩=>?_);rw[evalPart_none];refine IP ?_;have I4:aA X pins σ H3 { s3 with heap:=s3.heap.push { cls:=.type "slice",data:=.fields #[vl,vu,.none] } }:=I3.kept (t':=s3.toks) fun b ob q=>Iw _ q;obtain⟨T,id,hT,ht,hg⟩:=hr pins { s3 with heap:=s3.heap.push { cls:=.type "slice",data:=.fields #[vl,vu,.none] } } σ H3 x v vl vu l u s3.heap.objs.size Q I4 r1 (Heap.IsSliceOf.new ..) pl pu q3
 show wpAny (model X.prog X.w) X.A (subscriptTail e (.Slice lo hi none p2) v (.ref s3.heap.objs.size)) (EP X pins σ Q) X.xe { s3 with heap:=s3.heap.push { cls:=.type "slice",data:=.fields #[vl,vu,.none] } }
 exact tail_any (ops:=[.ref s3.heap.objs.size,v]) ht hT hg (by with_unfolding_all rfl)
def ij (xs:List V)(lo hi:Option Int):List V:=(xs.drop (HT.sIx xs.length 0 lo)).take (HT.sIx xs.length xs.length hi-HT.sIx xs.length 0 lo)
theorem om (xs:List V)(lo hi:Option Int):(ij xs lo hi).length<=xs.length:=by
 unfold ij;rw[Jm,List.length_drop];omega
def G9 (K:PySem.W.Frag):V->Option Int->Option Int->Hp->VK->Prop:=fun x lo hi H Q=>∃ a xs,x=.ref a/\c7 K H a xs /\
 ¬ (HT.sIx xs.length 0 lo=0/\HT.sIx xs.length xs.length hi=xs.length)/\∀ p,H p=none->Q (.ref p) (upd H p (.tup (ij xs lo hi)))
theorem Bv:Gz X (G9 X.K):=by
 intro pins s σ H x v vl vu lo hi sl Q I rx hs pl pu h;obtain⟨a,xs,rfl,hx,hw,q⟩:=h;cases rx;obtain⟨its,r,ht,hz⟩:=I.tuple hx
 have hlen:its.toArray.size=xs.length:=by rw[IS];exact r.length.symm
 refine⟨"tuple",_,PyProof.Rows.slot_tuple_getitem.lookup,ht.typeIs,?_⟩;refine HT.getItem_tuple_cut ht hs pl pu (by rw[hlen];exact hw) ?_ (by rw[hlen];exact hz);rw[hlen];refine⟨.ref s.heap.objs.size,_,I.laid (t':=s.toks) (o:=.tup (ij xs lo hi)) (fun b ob q=>Iw _ q) (Ix _) ?_,rfl,q _ (I.hok.fresh (Ix _))⟩;exact⟨IY (om xs lo hi) hz,_,(r.drop (HT.sIx xs.length 0 lo)).take (HT.sIx xs.length xs.length hi-HT.sIx xs.length 0 lo),ie.new _ _⟩
def FU (K:PySem.W.Frag):R2:=fun x y H Q=>∃ a b xs ys,x=.ref a/\y=.ref b/\c7 K H a xs/\c7 K H b ys/\xs≠[]/\xs.length+ys.length<=sizeLine /\
 (ys=[]->Q (.ref a) H)/\(ys≠[]->∀ p,H p=none->Q (.ref p) (upd H p (.tup (xs++ys))))
theorem aU.nil_iff {xs:List V}{us:List Value}(r:aU xs us):us=[]↔xs=[]:=by
 cases r with
 | nil=>simp
 | cons _ _=>simp
theorem CL:k8 X (binaryOp .Add) (FU X.K):=by
 intro pins s σ H x y v u Q I rx ry h;obtain⟨a,b,xs,ys,rfl,rfl,ha,hb,hx,hz,q1,q2⟩:=h;cases rx;cases ry;obtain⟨its,r1,p1,_⟩:=I.tuple ha;obtain⟨its2,r2,p2,_⟩:=I.tuple hb;refine HT.cat_tup p1 p2 (fun z=>hx (r1.nil_iff.mp z)) (fun z=>⟨.ref a,H,I,rfl,q1 (r2.nil_iff.mp z)⟩) (fun z=>?_) (by rw[<-r1.length,<-r2.length];exact hz);refine⟨.ref s.heap.objs.size,_,I.laid (t':=s.toks) (o:=.tup (xs++ys)) (fun b ob q=>Iw _ q) (Ix _) ?_,rfl,q2 (fun w=>z (r2.nil_iff.mpr w)) _ (I.hok.fresh (Ix _))⟩;exact⟨by rw[IK];exact hz,_,r1.append r2,ie.new _ _⟩
end
def Fe (n:Nat)(i:Int):Option Nat:=if 0<=i then (if i<n then some i.toNat else none) else if -(n:Int)<=i then some (i+n).toNat else none
def x6 {α:Type}(xs:List α)(i:Int):Option α:=(Fe xs.length i).bind fun j=>xs[j]?
theorem Cj {n:Nat}{i:Int}{j:Nat}(h:Fe n i=some j):seqIndex? i n=some j/\j<n/\-(n:Int)<=i/\i<n:=by
 unfold Fe at h
 by_cases h0:0<=i
 ·rw[Iu h0]at h
  by_cases h1:i<n
  ·rw[Iu h1]at h
   have e:i.toNat=j:=IA h;exact⟨by rw[seqIndex_of h0 h1,e],by omega,by omega,h1⟩
  ·rw[Ir h1]at h;cases h
 ·rw[Ir h0]at h
  by_cases h1 : -(n:Int)<=i
  ·rw[Iu h1]at h
   have e:(i+n).toNat=j:=IA h;exact⟨by rw[seqIndex_neg (by omega) h1,e],by omega,h1,by omega⟩
  ·rw[Ir h1]at h;cases h
theorem tR {α:Type}{xs:List α}{i:Int}{v:α}(h:x6 xs i=some v):∃ j,seqIndex? i xs.length=some j/\xs[j]? = some v/\j<xs.length/\-(xs.length:Int)<=i/\i<xs.length:=by
 unfold x6 at h
 cases e:Fe xs.length i with
 | none=>rw[e]at h;cases h
 | some j =>
  rw[e]at h;obtain⟨h1,h2,h3,h4⟩:=Cj e;exact⟨j,h1,h,h2,h3,h4⟩
theorem cz {α:Type}{xs:List α}{j:Nat}{v:α}(h:xs[j]? = some v):x6 xs (j:Int)=some v:=by
 have hj:j<xs.length:=(IG.mp h).1
 have e:Fe xs.length (j:Int)=some j:=by
  unfold Fe;rw[Iu (by omega),Iu (by omega)];simp
 unfold x6;rw[e];exact h
def BX (b:Expr):Prop:=∀ o i,subscripted b false o i=operate [o,i] (getItem o i)
def Gc (X:Cx)(r:R2):Prop :=
 ∀ (value slice:Expr)(pins:List (Addr×Obj))(s:Shared)(σ:St)(H:Hp)(x y:V)(v u:Value)(Q:VK),aA X pins σ H s->aP x v->aP y u->r x y H Q ->
  subscripted slice false v u=operate [v,u] (getItem v u)->wpAny (model X.prog X.w) X.A (subscriptTail value slice v u) (EP X pins σ Q) X.xe s
def Gd (X:Cx)(id:String)(r:V->List V->Hp->VK->Prop):Prop :=
 ∀ (pins:List (Addr×Obj))(s:Shared)(σ:St)(H:Hp)(x:V)(xs:List V)(v:Value)(us:List Value)(Q:VK),aA X pins σ H s->aP x v->aU xs us->r x xs H Q ->
  wpAny (model X.prog X.w) X.A (call (.builtin id) (v::us)) (EP X pins σ Q) X.xe s
section
variable {X:Cx}{a b:Expr}{ta tb:TE}{pos:Pos}
theorem aT {r:R2}(hr:Gc X r)(ha:PE X a ta)(hb:PE X b tb)(hs:BX b):PE X (.Subscript a b pos) (F8 r ta tb):=by
 intro pins s σ H Q I h;exact Subscript_ (DW ha hb I h fun v u s2 x y H2 I2 rx ry q=>hr a b pins s2 σ H2 x y v u Q I2 rx ry q (hs _ _))
inductive HF (K:PySem.W.Frag) (x y:V) (H:Hp) (Q:VK):Prop
 | mk (p:Addr) (xs:List V) (i:Int) (v:V) (e1:x=.ref p) (e2:y=.int i) (q:bx K H p xs) (a:x6 xs i=some v) (h:Q v H)
def G6 (K:PySem.W.Frag):R2:=fun x y H Q=>HF K x y H Q
inductive HG (K:PySem.W.Frag) (x y:V) (H:Hp) (Q:VK):Prop
 | mk (p:Addr) (xs:List V) (i:Int) (v:V) (e1:x=.ref p) (e2:y=.int i) (q:c7 K H p xs) (a:x6 xs i=some v) (h:Q v H)
def G8 (K:PySem.W.Frag):R2:=fun x y H Q=>HG K x y H Q
def G7:R2:=fun x y H Q=>∃ z i c,x=.str z/\y=.int i/\z.length<=sizeLine/\x6 z.cps.toList i=some c/\Q (.str ⟨#[c]⟩) H
theorem pe:Gc X (G6 X.K):=by
 intro value slice pins s σ H x y v u Q I rx ry h hs;obtain⟨p,xs,i,z,rfl,rfl,hq,he,q⟩:=h;cases rx;obtain⟨t,rfl⟩:=ry;obtain⟨its,r,pl,hz⟩:=I.list hq;obtain⟨j,h1,h2,h3,h4,h5⟩:=tR he;obtain⟨w,ew,rw'⟩:=r.get h2;have hl:=r.length;have hn:=mY;have fin:EP X pins σ Q w s:=⟨z,H,I,rw',q⟩
 by_cases h0:0<=i
 ·have hj:i.toNat=j:=by
   rw[seqIndex_of h0 h5]at h1;exact IA h1
  exact item_listR pl.isList h0 (by omega) (by rw[hj];simpa using ew) fin hs
 ·have hj:(i+(its.toArray.size:Int)).toNat=j:=by
   rw[seqIndex_neg (by omega) h4]at h1;rw[IS,<-hl];exact IA h1
  exact subscriptTail_builtinR (x:=w) pl.isList.typeIs slot_list_getitem.lookup
   (wpAny_getItem_list_neg (Q:=fun r s'=>r=w/\EP X pins σ Q r s') pl.isList (by omega) (by rw[IS]<;>omega) (by omega) (by rw[hj];simpa using ew) ⟨rfl,fin⟩) hs
theorem aK:Gc X (G8 X.K):=by
 intro value slice pins s σ H x y v u Q I rx ry h hs;obtain⟨p,xs,i,z,rfl,rfl,hq,he,q⟩:=h;cases rx;obtain⟨t,rfl⟩:=ry;obtain⟨its,r,pl,hz⟩:=I.tuple hq;obtain⟨j,h1,h2,h3,h4,h5⟩:=tR he;obtain⟨w,ew,rw'⟩:=r.get h2;have hl:=r.length;have hn:=mY;have fin:EP X pins σ Q w s:=⟨z,H,I,rw',q⟩
 exact subscriptTail_builtinR (x:=w) pl.typeIs slot_tuple_getitem.lookup
  (getItem_tuple (j:=j) (Q:=fun r s'=>r=w/\EP X pins σ Q r s') pl (by omega) (by omega) (by rw[IS,<-hl];exact h1) (by simpa using ew) ⟨rfl,fin⟩) hs
theorem Eh:Gc X G7:=by
 intro value slice pins s σ H x y v u Q I rx ry h hs;obtain⟨z,i,c,rfl,rfl,hz,he,q⟩:=h;obtain⟨t,rfl⟩:=rx;obtain⟨t',rfl⟩:=ry;obtain⟨j,h1,h2,h3,h4,h5⟩:=tR he
 have hl:z.cps.toList.length=z.length:=by simp[Str.length]
 rw[hl]at h1 h4 h5;have hn:=mY
 exact tail_any (typeIs_str s z t) slot_str_getitem.lookup (getItem_str (c:=c) (by
  have e1:decide (i < -(2 ^ 63:Int))=false:=IE (by omega);have e2:decide (i>=2 ^ 63)=false:=IE (by omega)
  rw[e1,e2,Bool.or_false]) (by rw[h1];simpa using h2) ⟨.str ⟨#[c]⟩,H,I.tok _,⟨_,rfl⟩,q⟩) hs
theorem uJ (lo hi:Option Int)(n:Nat):(sliceBounds lo hi none n).1=((HT.sIx n 0 lo:Nat):Int)/\(sliceBounds lo hi none n).2.1=((HT.sIx n n hi:Nat):Int)/\(sliceBounds lo hi none n).2.2=1:=by
 refine⟨?_,?_,rfl⟩
 ·cases lo with
  | none=>simp[sliceBounds,HT.sIx]
  | some i =>
   simp only[sliceBounds,HT.sIx,Option.getD_none,show (1:Int)>0 by decide,if_true]
   by_cases h:i<0
   ·simp only[h,if_true]<;>omega
   ·simp only[h,if_false]<;>omega
 ·cases hi with
  | none=>simp[sliceBounds,HT.sIx]
  | some i =>
   simp only[sliceBounds,HT.sIx,Option.getD_none,show (1:Int)>0 by decide,if_true]
   by_cases h:i<0
   ·simp only[h,if_true]<;>omega
   ·simp only[h,if_false]<;>omega
theorem sh (its:List Value)(lo hi:Option Int):slicePick its.toArray lo hi none=((its.drop (HT.sIx its.length 0 lo)).take (HT.sIx its.length its.length hi-HT.sIx its.length 0 lo)).toArray:=by
 obtain⟨h1,h2,h3⟩:=uJ lo hi its.toArray.size;unfold slicePick;rw[h1,h2,h3];simp only[sliceRange_one,pick_run,IS]<;>rfl
inductive FV (K:PySem.W.Frag) (x:V) (lo:Option Int) (hi:Option Int) (H:Hp) (Q:VK):Prop
 | mk (a:Addr) (xs:List V) (_:x=.ref a) (_:bx K H a xs) (_:∀ p,H p=none->Q (.ref p) (upd H p (.lst (ij xs lo hi))))
theorem uI:Gz X (FV X.K):=by
 intro pins s σ H x v vl vu lo hi sl Q I rx hs pl pu h;obtain⟨a,xs,rfl,hx,q⟩:=h;cases rx;obtain⟨its,r,ht,hz⟩:=I.list hx;have hlen:=r.length;refine⟨"list",_,slot_list_getitem.lookup,ht.isList.typeIs,?_⟩;refine wpAny_getItem_list_slice ht.isList hs pl pu .none (by simp) ?_ (by rw[IS]<;>omega);rw[sh,<-hlen];refine⟨.ref s.heap.objs.size,_,I.laid (t':=s.toks) (o:=.lst (ij xs lo hi)) (fun b ob q=>Iw _ q) (Ix _) ?_,rfl,q _ (I.hok.fresh (Ix _))⟩;exact⟨IY (om xs lo hi) hz,_,0,(r.drop (HT.sIx xs.length 0 lo)).take (HT.sIx xs.length xs.length hi-HT.sIx xs.length 0 lo),IV _ rfl⟩
def kh:V->Bool
 | .non=>true
 | .bl _=>true
 | .int _=>true
 | .str _=>true
 | _=>false
def Az:V->V->Bool
 | .non,.non=>true
 | .bl a,.bl b=>a == b
 | .bl a,.int b=>(if a then 1 else 0) == b
 | .int a,.bl b=>a == (if b then 1 else 0)
 | .int a,.int b=>a == b
 | .str a,.str b=>a == b
 | _,_=>false
theorem Ax {A:Around}{s:Shared}{y x:V}{u v:Value}(ry:aP y u)(rx:aP x v)(fy:kh y=true)(fx:kh x=true):SeqAt.EqAt A s u v (Az y x):=by
 cases y with
 | non =>
  cases ry
  cases x with
  | non=>cases rx;exact SeqAt.EqAt.same _
  | bl b=>cases rx;exact SeqAt.EqAt.none_bool b
  | int b=>obtain⟨t,rfl⟩:=rx;exact SeqAt.EqAt.none_int b t
  | str b=>obtain⟨t,rfl⟩:=rx;exact SeqAt.EqAt.none_str b t
  | _=>exact absurd (show false=true from fx) Iz
 | bl a =>
  cases ry
  cases x with
  | non=>cases rx;exact SeqAt.EqAt.bool_none a
  | bl b=>cases rx;exact SeqAt.EqAt.bool_bool a b
  | int b=>obtain⟨t,rfl⟩:=rx;exact SeqAt.EqAt.bool_int a b t
  | str b=>obtain⟨t,rfl⟩:=rx;exact SeqAt.EqAt.bool_str a b t
  | _=>exact absurd (show false=true from fx) Iz
 | int a =>
  obtain⟨t',rfl⟩:=ry
  cases x with
  | non=>cases rx;exact SeqAt.EqAt.int_none a t'
  | bl b=>cases rx;exact SeqAt.EqAt.int_bool a t' b
  | int b=>obtain⟨t,rfl⟩:=rx;exact SeqAt.EqAt.int_int a t' b t
  | str b=>obtain⟨t,rfl⟩:=rx;exact SeqAt.EqAt.int_str a t' b t
  | _=>exact absurd (show false=true from fx) Iz
 | str a =>
  obtain⟨t',rfl⟩:=ry
  cases x with
  | non=>cases rx;exact SeqAt.EqAt.str_none a t'
  | bl b=>cases rx;exact SeqAt.EqAt.str_bool a t' b
  | int b=>obtain⟨t,rfl⟩:=rx;exact SeqAt.EqAt.str_int a t' b t
  | str b=>obtain⟨t,rfl⟩:=rx;exact SeqAt.EqAt.str_str a t' b t
  | _=>exact absurd (show false=true from fx) Iz
 | _=>exact absurd (show false=true from fy) Iz
def Cb (x:V)(u:Value):Bool:=match u with
 | .none=>Az .non x
 | .bool b=>Az (.bl b) x
 | .int i _=>Az (.int i) x
 | .str z _=>Az (.str z) x
 | _=>false
theorem Ay {x y:V}{u:Value}(r:aP y u)(f:kh y=true):Cb x u=Az y x:=by
 cases y with
 | non=>cases r;rfl
 | bl b=>cases r;rfl
 | int i=>obtain⟨t,rfl⟩:=r;rfl
 | str z=>obtain⟨t,rfl⟩:=r;rfl
 | _=>exact absurd (show false=true from f) Iz
theorem tP {x:V}:∀ {xs:List V}{us:List Value},aU xs us->xs.all kh=true->us.any (Cb x)=xs.any fun y=>Az y x
 | _,_,.nil,_=>rfl
 | y::xs,u::us,.cons r t,f=>by
  rw[List.all_cons,JD]at f;rw[JL,JL,Ay r f.1,tP t f.2]
theorem qo {A:Around}{s:Shared}{x:V}{v:Value}(rx:aP x v)(fx:kh x=true):∀ {xs:List V}{us:List Value},aU xs us->xs.all kh=true->∀ u∈us,SeqAt.EqAt A s u v (Cb x u)
 | _,_,.nil,_=>fun u hu=>by cases hu
 | y::xs,u::us,.cons r t,f=>fun u' hu=>by
  rw[List.all_cons,JD]at f;rcases IC.mp hu with rfl | hu
  ·rw[Ay r f.1];exact Ax r rx f.1 fx
  ·exact qo rx fx t f.2 u' hu
def Fd (x:V)(xs:List V):Bool:=xs.any fun y=>Az y x
inductive Hx (K:PySem.W.Frag) (neg:Bool) (x:V) (y:V) (H:Hp) (Q:VK):Prop
 | mk (p:Addr) (xs:List V) (_:y=.ref p) (_:(bx K H p xs\/c7 K H p xs)) (_:kh x=true) (_:xs.all kh=true) (_:Q (.bl (if neg then !Fd x xs else Fd x xs)) H)
theorem sY:k8 X (compareOp .In) (Hx X.K false):=by
 intro pins s σ H x y v u Q I rx ry h;obtain⟨p,xs,rfl,hq,fx,fs,q⟩:=h;cases ry;rcases hq with hq | hq
 ·obtain⟨its,r,pl,hz⟩:=I.list hq
  refine SeqAt.in_listAt (Cb x) pl.isList (fun w hw=>qo rx fx r fs w (by simpa using hw)) ⟨.bl _,H,I,rfl,?_⟩;rw[show its.toArray.any (Cb x)=its.any (Cb x) by simp,tP r fs];exact q
 ·obtain⟨its,r,pl,hz⟩:=I.tuple hq
  refine SeqAt.in_tupleAt (Cb x) pl (fun w hw=>qo rx fx r fs w (by simpa using hw)) ⟨.bl _,H,I,rfl,?_⟩;rw[show its.toArray.any (Cb x)=its.any (Cb x) by simp,tP r fs];exact q
theorem cC:gR X (.builtin "len") (fun xs H Q=>∃ p ys,xs=[.ref p]/\(bx X.K H p ys\/c7 X.K H p ys)/\Q (.int ys.length) H):=by
 intro pins s σ H xs us Q I r h;obtain⟨p,ys,rfl,hq,q⟩:=h;obtain⟨u,rfl,rx⟩:=hZ r;cases rx;have hn:=mY;rcases hq with hq | hq
 ·obtain⟨its,r',pl,hz⟩:=I.list hq
  have hlen:=r'.length;exact Calls.call_len_list pl.isList (by simp only[IS]<;>omega) ⟨.int ys.length,H,I.tok _,⟨s.toks+1,by rw[IS,hlen]⟩,q⟩
 ·obtain⟨its,r',pl,hz⟩:=I.tuple hq
  have hlen:=r'.length;exact len_tuple pl (by simp only[IS]<;>omega) ⟨.int ys.length,H,I.tok _,⟨s.toks+1,by rw[IS,hlen]⟩,q⟩
theorem tT:gR X (.builtin "len") (fun xs H Q=>∃ z,xs=[.str z]/\z.length<=sizeLine/\Q (.int z.length) H):=by
 intro pins s σ H xs us Q I r h;obtain⟨z,rfl,hz,q⟩:=h;obtain⟨u,rfl,t,rfl⟩:=hZ r;have hn:=mY;exact len_str (by omega) ⟨.int z.length,H,I.tok _,⟨_,rfl⟩,q⟩
theorem rK:gR X (.type "tuple") (fun xs H Q=>∃ p ys,xs=[.ref p]/\((bx X.K H p ys/\∀ l,H l=none->Q (.ref l) (upd H l (.tup ys)))\/(c7 X.K H p ys/\Q (.ref p) H))):=by
 intro pins s σ H xs us Q I r h;obtain⟨p,ys,rfl,h⟩:=h;obtain⟨u,rfl,rx⟩:=hZ r;cases rx;rcases h with ⟨hq,q⟩ | ⟨hq,q⟩
 ·obtain⟨its,r',pl,hz⟩:=I.list hq
  have hlen:=r'.length;refine call_tuple_list pl.isList (fun h' kp=>?_) (by simp only[IS]<;>omega);have I1:aA X pins σ H { s with heap:=h' }:=I.kept (t':=s.toks) kp
  have I2:aA X pins σ (upd H h'.objs.size (.tup ys)) { s with heap:=h'.push { cls:=.type "tuple",data:=.seq its.toArray } } :=
   I1.laid (t':=s.toks) (fun b o e=>Iw _ e) (Ix _) (show bu X.prog X.w _ _ _ (.tup ys) from ⟨hz,its,r',ie.new _ _⟩)
  exact⟨.ref h'.objs.size,_,I2,rfl,q _ (I1.hok.fresh (Ix _))⟩
 ·obtain⟨its,r',pl,hz⟩:=I.tuple hq
  exact call_tuple_same pl ⟨.ref p,H,I,rfl,q⟩
def Hy (K:PySem.W.Frag)(T:String)(x:V)(H:Hp):Prop:=match x with
 | .str _=>T="str"
 | .int _=>T="int"
 | .ref p=>(T="list"/\∃ xs,bx K H p xs)\/(T="tuple"/\∃ o,K.lookup p=some o/\o.cls=.type "tuple"/\o.dict=none) \/
   (T="dict"/\((∃ kvs,H p=some (.dK kvs))\/∃ kvs,H p=some (.dT kvs)))\/(T="set"/\∃ S n,H p=some (.set S n))
 | _=>False
theorem E6 {pins:List (Addr×Obj)}{σ:St}{H:Hp}{s:Shared}{T:String}{x:V}{v:Value}(I:aA X pins σ H s)(r:aP x v)(ty:Hy X.K T x H) :
  s.TypeIs v T/\∀ a,v=.ref a->∃ ob,s.heap.get? a=some ob/\ob.dict=none:=by
 cases x with
 | str z =>
  obtain⟨t,rfl⟩:=r;cases (show T="str" from ty);exact⟨typeIs_str s z t,fun _ e=>nomatch e⟩
 | int i =>
  obtain⟨t,rfl⟩:=r;cases (show T="int" from ty);exact⟨typeIs_int s i t,fun _ e=>nomatch e⟩
 | ref p =>
  cases r;rcases ty with ⟨rfl,xs,hq⟩ | ⟨rfl,o,hk,hc,hd⟩ | ⟨rfl,hk⟩ | ⟨rfl,S,n,hk⟩
  ·obtain⟨its,_,pl,_⟩:=I.list hq
   refine⟨pl.isList.typeIs,fun a e=>?_⟩;cases e;obtain⟨o,n,e,c,hd,_⟩:=pl;exact⟨o,e,hd⟩
  ·refine⟨⟨o,I.kIn p o hk,hc⟩,fun a e=>?_⟩
   cases e;exact⟨o,I.kIn _ o hk,hd⟩
  ·have z:∃ o,s.heap.get? p=some o/\o.ExactDict:=by
    rcases hk with ⟨kvs,hk⟩ | ⟨kvs,hk⟩
    ·obtain⟨_,_,_,_,o,_,_,e,ex,_⟩:=I.hok p _ hk
     exact⟨o,e,ex⟩
    ·obtain⟨_,_,_,_,o,_,_,e,ex,_⟩:=I.hok p _ hk
     exact⟨o,e,ex⟩
   obtain⟨o,e,ex⟩:=z;refine⟨⟨o,e,ex.1⟩,fun a e2=>?_⟩;cases e2;exact⟨o,e,ex.2.1⟩
  ·obtain⟨o,_,_,_,e,ex,_⟩:=I.hok p _ hk
   refine⟨⟨o,e,ex.1⟩,fun a e2=>?_⟩;cases e2;exact⟨o,e,ex.2.1⟩
 | _=>exact False.elim ty
def F2 (K:PySem.W.Frag)(T:String)(r:V->List V->Hp->VK->Prop)(to:TE)(t:TA):TE:=fun σ H Q=>to σ H fun x H1=>Hy K T x H1/\t σ H1 fun xs H2=>r x xs H2 Q
variable {o e:Expr}{es:List Expr}{to:TE}{t:TA}{name:Str}{apos cpos:Pos}{T id:String}{r:V->List V->Hp->VK->Prop}
theorem eR (pa:PlainAttrs T)(slot:Slot T name id)(hty:typeOf (.builtin id)=pure (.type "method_descriptor"))(hm:Gd X id r)(ho:PE X o to)(ha:PA X (e::es) t)
  (hbase:attributeBase o name X.env (eval o X.env)=eval o X.env:=by rfl)
  (hfew:((backTo cpos (starEach (e::es) X.env)).all (fun x=>!x.1)&&(backToKw cpos (keywordEach [] X.env)).all (fun x=>x.1.isSome)
   && decide ((e::es).length+([]:List Keyword).length+(if ([]:List Keyword).isEmpty then 0 else 1)<30))=true:=by rfl)
  (hline:(apos.endLine == cpos.line)=true:=by rfl) (hs:starEach (e::es) X.env=(false,eval e X.env)::starEach es X.env:=by rfl) (hplain:(backTo cpos (starEach es X.env)).any (·.1)=false:=by rfl) :
  PE X (.Call (.Attribute o name apos) (e::es) [] cpos) (F2 X.K T r to t):=by
 intro pins s σ H Q I h;refine wpAny_Call_method_late hbase hfew hline rfl (bq (ho pins s σ H _ I h) fun v s1 ⟨x,H1,I1,r1,ty,q1⟩=>?_);obtain⟨h1,h2⟩:=E6 I1 r1 ty;refine⟨T,id,pa,slot,hty,h1,h2,?_⟩;have hA:=ha cpos pins s1 σ H1 _ I1 q1;rw[hs]at hA ⊢;refine JV (by show (false||(backTo cpos (starEach es X.env)).any (·.1))=false;rw[hplain]<;>rfl) (JF ?_);exact bq hA fun us s2 ⟨vs,H2,I2,r2,q2⟩=>hm pins s2 σ H2 x vs v us Q I2 r1 r2 q2
end
def Hl (X:Cx)(id:String)(r:V->List V->Hp->VK->Prop):Prop :=
 ∀ (pins:List (Addr×Obj))(s:Shared)(σ:St)(H:Hp)(x:V)(xs:List V)(v:Value)(us:List Value)(Q:VK),aA X pins σ H s->aP x v->aU xs us->r x xs H Q ->
  wpAny (model X.prog X.w) X.A (call (.builtin id) (v::us)) (EP X pins σ Q) X.xe s
theorem aU.one:∀ {x:V}{us:List Value},aU [x] us->∃ u,us=[u]/\aP x u
 | _,_,.cons r .nil=>⟨_,rfl,r⟩
theorem aU.two:∀ {x y:V}{us:List Value},aU [x,y] us->∃ u v,us=[u,v]/\aP x u/\aP y v
 | _,_,_,.cons r (.cons q .nil)=>⟨_,_,rfl,r,q⟩
section
variable {X:Cx}{pins:List (Addr×Obj)}{σ:St}{H:Hp}{s:Shared}{l b:Addr}{xs ys zs:List V}
theorem aA.lset {its its':List Value}{n:Nat}{f:Array Value->Array Value}{t':Nat}(I:aA X pins σ H s)(hH:H l=some (.lst xs))
  (e:s.heap.get? l=some { cls:=.type "list",data:=.seq its.toArray n }) (hf:f its.toArray=its'.toArray) (hv:aU ys its') (hz:ys.length<=sizeLine) :
  aA X pins σ (upd H l (.lst ys)) { s with heap:=s.heap.update l (Obj.mapSeq f),toks:=t' }:=by
 have q:=PySem.IsL.update e f;rw[hf]at q;refine I.write (x:=l) (e:=l) (by rw[hH];exact trivial) (.inl rfl) (fun b' u hb hu=>(JJ s.heap (Obj.mapSeq f) (IJ hb)).trans hu) ⟨_,q⟩ ?_;exact⟨hz,its',_,hv,q⟩
theorem aA.lnew {its:List Value}{t':Nat}(I:aA X pins σ H s)(hv:aU ys its)(hz:ys.length<=sizeLine) :
  aA X pins σ (upd H s.heap.objs.size (.lst ys)) { s with heap:=s.heap.push { cls:=.type "list",data:=.seq its.toArray },toks:=t' } :=
 I.laid (fun _ _ q=>Iw _ q) (Ix _) ⟨hz,its,0,hv,IV _ rfl⟩
theorem aA.fresh (I:aA X pins σ H s):H s.heap.objs.size=none:=I.hok.fresh (Ix _)
theorem aA.lstM (I:aA X pins σ H s)(hH:H l=some (.lst xs)):xs.length<=sizeLine/\∃ (its:List Value)(n:Nat),aU xs its/\xs.length=its.length/\s.heap.get? l=some { cls:=.type "list",data:=.seq its.toArray n }:=by
 obtain⟨z,its,n,r,e⟩:=I.hok l _ hH;exact⟨z,its,n,r,r.length,e⟩
end
section
variable {X:Cx}
inductive C0 (x:V) (vs:List V) (H:Hp) (Q:VK):Prop
 | mk (l:Addr) (xs:List V) (y:V) (_:x=.ref l) (_:vs=[y]) (_:H l=some (.lst xs)) (_:xs.length<sizeLine) (_:Q .non (upd H l (.lst (xs++[y]))))
theorem bK:Hl X "list.append" C0:=by
 intro pins s σ H x vs v us Q I rx rv h;obtain⟨l,xs,y,rfl,rfl,hH,hz,q⟩:=h;cases rx;obtain⟨u,rfl,ru⟩:=rv.one;obtain⟨z,its,n,r,hl,e⟩:=I.lstM hH;refine call_meets F.slot_list_append ⟨_,e,rfl⟩ F.entry_list_append (F.args_list_append_2 _ _) (PySem.list_append l its.toArray n u (by rw[IS];omega)) ⟨e,?_⟩;refine⟨.non,_,I.lset (its':=its++[u]) hH e (by simp) (r.append (.cons ru .nil)) ?_,rfl,q⟩;rw[IK,JY];omega
inductive FT (x:V) (y:V) (H:Hp) (Q:VK):Prop
 | mk (l b:Addr) (xs zs:List V) (_:x=.ref l) (_:y=.ref b) (_:H l=some (.lst xs)) (_:H b=some (.lst zs)) (_:xs.length+zs.length<=sizeLine) (_:∀ p,H p=none->Q (.ref p) (upd H p (.lst (xs++zs))))
theorem xE:k8 X (binaryOp .Add) FT:=by
 intro pins s σ H x y v u Q I rx ry h;obtain⟨l,b,xs,zs,rfl,rfl,hH,hB,hz,q⟩:=h;cases rx;cases ry;obtain⟨z,its,n,r,hl,e⟩:=I.lstM hH;obtain⟨z2,its2,n2,r2,hl2,e2⟩:=I.lstM hB;refine PySem.P.add_list e e2 ?_ (by rw[IS,IS];omega)
 have ea:its.toArray++its2.toArray=(its++its2).toArray:=by simp
 rw[ea];exact⟨.ref _,_,I.lnew (t':=s.toks) (r.append r2) (by rw[IK];omega),rfl,q _ I.fresh⟩
end
section
variable {κ:Type} [DecidableEq κ]
def da (kvs:List (κ×V))(k:κ):Option V:=(kvs.find? fun kv=>decide (kv.1=k)).map (·.2)
def gj (kvs:List (κ×V))(k:κ)(v:V):List (κ×V) :=
 if (kvs.any fun kv=>decide (kv.1=k))=true then kvs.map (fun kv=>if kv.1=k then (kv.1,v) else kv) else kvs++[(k,v)]
def pW (kvs:List (κ×V))(k:κ):List (κ×V):=kvs.filter fun kv=>decide (kv.1≠k)
theorem jA {p:κ×V}{r:List (κ×V)}{k:κ}(e:p.1=k):da (p::r) k=some p.2:=by simp[da,JZ,e]
theorem jz {p:κ×V}{r:List (κ×V)}{k:κ}(e:¬ p.1=k):da (p::r) k=da r k:=by simp[da,JZ,e]
theorem jy (k:κ):∀ kvs:List (κ×V),(kvs.any fun kv=>decide (kv.1=k))=(da kvs k).isSome
 | []=>rfl
 | p::r=>by
  rw[JL]
  by_cases e:p.1=k
  ·simp only[jA e,ID e,Bool.true_or,Option.isSome_some]
  ·rw[jz e,IE e,Bool.false_or];exact jy k r
theorem je (kvs:List (κ×V))(k:κ)(v:V):(gj kvs k v).length<=kvs.length+1:=by
 unfold gj;split
 ·rw[Iq];omega
 ·rw[IK,IX,List.length_nil];omega
theorem Bh {kvs:List (κ×V)}{k:κ}(v:V)(h:da kvs k=none):gj kvs k v=kvs++[(k,v)]:=by
 unfold gj;rw[jy,h];exact Ir (by decide)
theorem gV.isSome_eq {o:Option V}{u:Option Value}(r:gV o u):o.isSome=u.isSome:=by
 cases o with
 | none=>cases u with
  | none=>rfl
  | some _=>exact (show False from r).elim
 | some _=>cases u with
  | none=>exact (show False from r).elim
  | some _=>rfl
theorem gV.getD {o:Option V}{u:Option Value}{d:V}{d':Value}(r:gV o u)(rd:aP d d'):aP (o.getD d) (u.getD d'):=by
 cases o with
 | none=>cases u with
  | none=>exact rd
  | some _=>exact (show False from r).elim
 | some _=>cases u with
  | none=>exact (show False from r).elim
  | some _=>exact r
theorem KV.val {kvs:List (κ×V)}{vs:List (κ×Value)}(r:KV kvs vs)(k:κ):gV (da kvs k) (valueAt vs k):=by
 unfold KV at r
 induction r with
 | nil=>exact True.intro
 | @cons p q ps qs h t ih =>
  obtain⟨h1,h2⟩:=h
  by_cases e:p.1=k
  ·have e':q.1=k:=h1.symm.trans e
   have b:valueAt (q::qs) k=some q.2:=by simp[valueAt,JZ,e']
   rw[jA e,b];exact h2
  ·have e':¬ q.1=k:=fun z=>e (h1.trans z)
   have b:valueAt (q::qs) k=valueAt qs k:=by simp[valueAt,JZ,e']
   rw[jz e,b];exact ih
theorem KV.any {kvs:List (κ×V)}{vs:List (κ×Value)}(r:KV kvs vs)(k:κ):(kvs.any fun kv=>decide (kv.1=k))=vs.any fun kv=>decide (kv.1=k):=by
 unfold KV at r
 induction r with
 | nil=>rfl
 | cons h t ih=>rw[JL,JL,ih,h.1]
theorem KV.repl {kvs:List (κ×V)}{vs:List (κ×Value)}(r:KV kvs vs)(k:κ){y:V}{u:Value}(ry:aP y u) :
  KV (kvs.map fun kv=>if kv.1=k then (kv.1,y) else kv) (vs.map fun kv=>if kv.1=k then (kv.1,u) else kv):=by
 unfold KV at r ⊢
 induction r with
 | nil=>exact .nil
 | @cons p q ps qs h t ih =>
  rw[IR,IR];refine .cons ?_ ih;obtain⟨h1,h2⟩:=h
  by_cases e:p.1=k
  ·rw[Iu e,Iu (h1.symm.trans e)];exact⟨h1,ry⟩
  ·rw[Ir e,Ir (fun z=>e (h1.trans z))];exact⟨h1,h2⟩
theorem KV.put {kvs:List (κ×V)}{vs:List (κ×Value)}(r:KV kvs vs)(k:κ){y:V}{u:Value}(ry:aP y u):KV (gj kvs k y) (stored vs k u):=by
 unfold gj stored;rw[r.any k]
 by_cases e:(vs.any fun kv=>decide (kv.1=k))=true
 ·rw[Iu e,Iu e];exact r.repl k ry
 ·rw[Ir e,Ir e];exact Paired.snoc r ⟨rfl,ry⟩
theorem KV.drop {kvs:List (κ×V)}{vs:List (κ×Value)}(r:KV kvs vs)(k:κ):KV (pW kvs k) (without vs k):=by
 unfold KV at r ⊢;unfold pW without
 induction r with
 | nil=>exact .nil
 | @cons p q ps qs h t ih =>
  obtain⟨h1,h2⟩:=h;rw[JM,JM]
  by_cases e:p.1=k
  ·have a:¬ decide (p.1≠k)=true:=by simp[e]
   have b:¬ decide (q.1≠k)=true:=by simp[h1.symm.trans e]
   rw[Ir a,Ir b];exact ih
  ·have e':¬ q.1=k:=fun z=>e (h1.trans z)
   have a:decide (p.1≠k)=true:=by simp[e]
   have b:decide (q.1≠k)=true:=by simp[e']
   rw[Iu a,Iu b];exact .cons ⟨h1,h2⟩ ih
theorem KV.keys {kvs:List (κ×V)}{vs:List (κ×Value)}(r:KV kvs vs):kvs.map (·.1)=vs.map (·.1):=by
 unfold KV at r
 induction r with
 | nil=>rfl
 | cons h t ih=>rw[IR,IR,ih,h.1]
theorem KV.length {kvs:List (κ×V)}{vs:List (κ×Value)}(r:KV kvs vs):kvs.length=vs.length:=IU r
theorem As (kvs:List (κ×V))(k:κ):(pW kvs k).length<=kvs.length:=JO _ _
end
theorem oo {P:Program}{w:World}{k:ca}{u:Value}(r:aP (kV k) u):(bt P w).is k u=true:=by
 cases k with
 | inl i=>obtain⟨t,e⟩:=(show ∃ t,u=Value.int i t from r);subst e;exact vD P w i t
 | inr x=>obtain⟨t,e⟩:=(show ∃ t,u=Value.str x t from r);subst e;exact gv P w x t
theorem sN {P:Program}{w:World}:∀ {ks:List ca}{us:List Value},aU (ks.map kV) us->ItemsAre (bt P w) ks us
 | [],_,r=>by rw[List.map_nil]at r;cases r;exact .nil
 | k::ks,_,r=>by
  rw[IR]at r
  cases r with
  | cons h t=>exact .cons (oo h) (sN t)
abbrev KT (H:Hp):List (List ca×V)->List (List ca×Addr×Value)->Prop:=Paired fun p q=>p.1=q.1/\H q.2.1=some (.tup (p.1.map kV))/\aP p.2 q.2.2
theorem KT.val {H:Hp}{kvs:List (List ca×V)}{xs:List (List ca×Addr×Value)}(r:KT H kvs xs)(k:List ca):gV (da kvs k) ((atKey xs k).map (·.2)):=by
 induction r with
 | nil=>exact True.intro
 | @cons p q ps qs h t ih =>
  obtain⟨h1,_,h2⟩:=h
  by_cases e:p.1=k
  ·have e':q.1=k:=h1.symm.trans e
   have b:atKey (q::qs) k=some q.2:=by simp[atKey,JZ,e']
   rw[jA e,b];exact h2
  ·have e':¬ q.1=k:=fun z=>e (h1.trans z)
   have b:atKey (q::qs) k=atKey qs k:=by simp[atKey,JZ,e']
   rw[jz e,b];exact ih
theorem KT.repl {H:Hp}{kvs:List (List ca×V)}{xs:List (List ca×Addr×Value)}(r:KT H kvs xs)(k:List ca){y:V}{u:Value}(ry:aP y u) :
  KT H (kvs.map fun kv=>if kv.1=k then (kv.1,y) else kv) (xs.map (putAt k u)):=by
 induction r with
 | nil=>exact .nil
 | @cons p q ps qs h t ih =>
  rw[IR,IR];refine .cons ?_ ih;obtain⟨h1,h2,h3⟩:=h;unfold putAt
  by_cases e:p.1=k
  ·rw[Iu e,Iu (h1.symm.trans e)];exact⟨h1,h2,ry⟩
  ·rw[Ir e,Ir (fun z=>e (h1.trans z))];exact⟨h1,h2,h3⟩
theorem KT.put {H:Hp}{kvs:List (List ca×V)}{xs:List (List ca×Addr×Value)}(r:KT H kvs xs)(k:List ca){b:Addr}{y:V}{u:Value}(hb:H b=some (.tup (k.map kV)))(ry:aP y u) :
  KT H (gj kvs k y) (storedH xs k b u):=by
 have e:(kvs.any fun kv=>decide (kv.1=k))=(atKey xs k).isSome:=by
  rw[jy,(r.val k).isSome_eq,Option.isSome_map]
 unfold gj storedH;rw[e]
 by_cases q:(atKey xs k).isSome=true
 ·rw[Iu q,Iu q];exact r.repl k ry
 ·rw[Ir q,Ir q];exact Paired.snoc r ⟨rfl,hb,ry⟩
theorem KT.keeps {H H':Hp}{kvs:List (List ca×V)}{xs:List (List ca×Addr×Value)}(r:KT H kvs xs)(ht:∀ b ys,H b=some (.tup ys)->H' b=some (.tup ys)):KT H' kvs xs :=
 Paired.mapP r fun _ _ z=>⟨z.1,ht _ _ z.2.1,z.2.2⟩
section
variable {P:Program}{w:World}{H:Hp}{h:Heap}{a:Addr}
theorem Du {u:HO}(ok:iQ P w H h)(e:Rd H a u):bu P w H h a u:=e.ok ok
theorem pV {kvs:List (ca×V)}(ok:iQ P w H h)(e:Rd H a (.dK kvs)):kvs.length<=sizeLine/\(a == sysModules)=false/\∃ vs,KV kvs vs/\h.DictOf (bt P w) a vs :=
 show bu P w H h a (.dK kvs) from Du ok e
theorem Ar {kvs:List (ca×V)}(ok:iQ P w H h)(e:H a=some (.dK kvs)):kvs.length<=sizeLine/\(a == sysModules)=false/\∃ vs,KV kvs vs/\h.DictOf (bt P w) a vs:=pV ok (.inl e)
theorem mO {ks:List ca}(ok:iQ P w H h)(e:H a=some (.tup (ks.map kV))):(tupleKind (bt P w)).is h ks a:=by
 obtain⟨_,its,r,o,h1,h2,n,h3⟩:=(show bu P w H h a (.tup (ks.map kV)) from ok a _ e);exact⟨o,its.toArray,n,h1,h2,(Prod.mk.inj h3).1,by simpa using sN r⟩
theorem pY {kvs:List (List ca×V)}(ok:iQ P w H h)(e:Rd H a (.dT kvs)):kvs.length<=sizeLine/\(a == sysModules)=false /\
  ∃ xs,KT H kvs xs/\h.DictOfH (tupleKind (bt P w)) a xs:=by
 obtain⟨z,y,xs,r,o,es,ep,h1,h2,h3,h4,h5⟩:=(show bu P w H h a (.dT kvs) from Du ok e);refine⟨z,y,xs,r,o,es,ep,h1,h2,h3,h4,fun x hx=>?_,h5⟩
 have all:∀ {l:List (List ca×V)}{m:List (List ca×Addr×Value)},KT H l m->∀ x∈m,(tupleKind (bt P w)).is h x.1 x.2.1:=by
  intro l m q
  induction q with
  | nil=>intro x hx;exact nomatch hx
  | @cons p q ps qs hq t ih =>
   intro x hx;rcases IC.mp hx with e | hx
   ·subst e
    exact mO ok (by rw[<-hq.1];exact hq.2.1)
   ·exact ih x hx
 exact all r x hx
theorem Fx {kvs:List (List ca×V)}(ok:iQ P w H h)(e:H a=some (.dT kvs)):kvs.length<=sizeLine/\(a == sysModules)=false /\
  ∃ xs,KT H kvs xs/\h.DictOfH (tupleKind (bt P w)) a xs:=pY ok (.inl e)
end
def c3 (H:Hp)(a:Addr)(y:V)(r:Option V):Prop :=
 (∃ kvs k,Rd H a (.dK kvs)/\y=kV k/\r=da kvs k)\/∃ kvs k b,Rd H a (.dT kvs)/\y=.ref b/\H b=some (.tup (k.map kV))/\r=da kvs k
def kD (H:Hp)(a:Addr)(y v:V)(H':Hp):Prop :=
 (∃ kvs k,H a=some (.dK kvs)/\y=kV k/\kvs.length<sizeLine/\H'=upd H a (.dK (gj kvs k v))) \/
 ∃ kvs k b,H a=some (.dT kvs)/\y=.ref b/\H b=some (.tup (k.map kV))/\kvs.length<sizeLine/\H'=upd H a (.dT (gj kvs k v))
theorem c3.k {H:Hp}{a:Addr}{kvs:List (ca×V)}{k:ca}(e:H a=some (.dK kvs)):c3 H a (kV k) (da kvs k):=.inl ⟨kvs,k,.inl e,rfl,rfl⟩
theorem c3.t {H:Hp}{a b:Addr}{kvs:List (List ca×V)}{k:List ca}(e:H a=some (.dT kvs))(eb:H b=some (.tup (k.map kV))):c3 H a (.ref b) (da kvs k):=.inr ⟨kvs,k,b,.inl e,rfl,eb,rfl⟩
theorem kD.k {H:Hp}{a:Addr}{kvs:List (ca×V)}{k:ca}{v:V}(e:H a=some (.dK kvs))(hl:kvs.length<sizeLine):kD H a (kV k) v (upd H a (.dK (gj kvs k v))):=.inl ⟨kvs,k,e,rfl,hl,rfl⟩
theorem kD.t {H:Hp}{a b:Addr}{kvs:List (List ca×V)}{k:List ca}{v:V}(e:H a=some (.dT kvs))(eb:H b=some (.tup (k.map kV)))(hl:kvs.length<sizeLine) :
  kD H a (.ref b) v (upd H a (.dT (gj kvs k v))):=.inr ⟨kvs,k,b,e,rfl,eb,hl,rfl⟩
section
variable {X:Cx}{pins:List (Addr×Obj)}{σ:St}{H:Hp}{s:Shared}{a:Addr}{y v:V}{u r:Value}{o:Option V}{A:Around}{E:Value->Shared->Prop}
theorem aA.big (I:aA X pins σ H s):sysModules<s.heap.objs.size:=by
 have h:mainGlobals<s.heap.objs.size:=(I.mod.glob.keeps I.bk).lt;exact Nat.lt_trans (by decide) h
theorem zi {Q:Value->Shared->Prop}(hu:A.units+1<cLine)(I:aA X pins σ H s)(g:c3 H a y (some v))(ry:aP y u)(h:∀ w' s',aA X pins σ H s'->aP v w'->Q w' s') :
  wpAny (model X.prog X.w) A (getItem (.ref a) u) Q E s:=by
 rcases g with ⟨kvs,k,e,ey,l⟩ | ⟨kvs,k,b,e,ey,eb,l⟩
 ·subst ey
  obtain⟨z,hd,vs,rel,dd⟩:=pV I.hok e;obtain⟨w',hw,rw'⟩:=gV.some_of (v:=v) (o:=valueAt vs k) (by rw[l];exact rel.val k);exact wpAny_getItem_of (oo ry) dd.mapOf hw (h w' _ (I.tok _) rw')
 ·subst ey
  cases (show u=Value.ref b from ry);obtain⟨z,hd,xs,rel,dd⟩:=pY I.hok e;obtain⟨w',hw,rw'⟩:=gV.some_of (v:=v) (o:=(atKey xs k).map (·.2)) (by rw[l];exact rel.val k);obtain⟨p,hp,hp2⟩:=Option.map_eq_some_iff.mp hw;refine wpAny_getItem_heap (Kc hu) (mO I.hok eb) dd hp ?_;rw[hp2];exact h w' _ (I.tok _) rw'
theorem GI {Q:Value->Shared->Prop}(hu:A.units+1<cLine)(I:aA X pins σ H s)(g:c3 H a y o)(ry:aP y u)(h:∀ s',aA X pins σ H s'->Q (.bool o.isSome) s') :
  wpAny (model X.prog X.w) A (compareOp .In u (.ref a)) Q E s:=by
 rcases g with ⟨kvs,k,e,ey,l⟩ | ⟨kvs,k,b,e,ey,eb,l⟩
 ·subst ey
  obtain⟨z,hd,vs,rel,dd⟩:=pV I.hok e;refine wpAny_in_of (oo ry) hd dd.mapOf ?_;rw[<-(rel.val k).isSome_eq,<-l];exact h _ (I.tok _)
 ·subst ey
  cases (show u=Value.ref b from ry);obtain⟨z,hd,xs,rel,dd⟩:=pY I.hok e;refine wpAny_in_heap (Kc hu) (mO I.hok eb) hd dd ?_;have q:=(rel.val k).isSome_eq;rw[Option.isSome_map]at q;rw[<-q,<-l];exact h _ (I.tok _)
theorem B9 {Q:Value->Shared->Prop}(hu:A.units+1<cLine)(I:aA X pins σ H s)(g:c3 H a y o)(ry:aP y u)(h:∀ s',aA X pins σ H s'->Q (.bool (!o.isSome)) s') :
  wpAny (model X.prog X.w) A (compareOp .NotIn u (.ref a)) Q E s:=by
 rcases g with ⟨kvs,k,e,ey,l⟩ | ⟨kvs,k,b,e,ey,eb,l⟩
 ·subst ey
  obtain⟨z,hd,vs,rel,dd⟩:=pV I.hok e;refine wpAny_notIn_of (oo ry) hd dd.mapOf ?_;rw[<-(rel.val k).isSome_eq,<-l];exact h _ (I.tok _)
 ·subst ey
  cases (show u=Value.ref b from ry);obtain⟨z,hd,xs,rel,dd⟩:=pY I.hok e;refine wpAny_notIn_heap (Kc hu) (mO I.hok eb) hd dd ?_;have q:=(rel.val k).isSome_eq;rw[Option.isSome_map]at q;rw[<-q,<-l];exact h _ (I.tok _)
theorem pb {h':Heap}{t':Nat}{ob:HO}(I:aA X pins σ H s)(mu:Fo (H a))(hs:Heap.SameBut a s.heap h')(he:∃ q,h'.get? a=some q)(new:bu X.prog X.w (upd H a ob) h' a ob) :
  aA X pins σ (upd H a ob) { s with heap:=h',toks:=t' } :=
 I.write (x:=a) (e:=a) mu (.inl rfl) (fun b q hb z=>(hs.2 b hb).trans z) he new
theorem wV {P:Program}{w:World}{H':Hp}{h':Heap}{kvs:List (ca×V)}{vs:List (ca×Value)}(z:kvs.length<=sizeLine)(hd:(a == sysModules)=false)(rel:KV kvs vs)(dd:h'.DictOf (bt P w) a vs) :
  bu P w H' h' a (.dK kvs):=⟨z,hd,vs,rel,dd⟩
theorem zj {H':Hp}{Q:Unit->Shared->Prop}(hu:A.units+1<cLine)(I:aA X pins σ H s)(g:kD H a y v H')(ry:aP y u)(rv:aP v r)(h:∀ s',aA X pins σ H' s'->Q () s') :
  wpAny (model X.prog X.w) A (setItem (.ref a) u r) Q E s:=by
 rcases g with ⟨kvs,k,e,ey,l,eH⟩ | ⟨kvs,k,b,e,ey,eb,l,eH⟩
 ·subst ey eH
  obtain⟨z,hd,vs,rel,dd⟩:=Ar I.hok e
  have hz:vs.length<=sizeLine:=by rw[<-rel.length];exact z
  have hl:(gj kvs k v).length<=sizeLine:=by have:=je kvs k v;omega
  refine wpAny_setItem_pairs (hsz:=hz) (oo ry) dd fun h' dd' hs=>h _ ?_;have he:∃ q,h'.get? a=some q:=let ⟨q,_,_,hq,_⟩:=dd';⟨q,hq⟩;exact pb I (by rw[e];exact True.intro) hs he (wV hl hd (rel.put k rv) dd')
 ·subst ey eH
  cases (show u=Value.ref b from ry);obtain⟨z,hd,xs,rel,dd⟩:=Fx I.hok e
  have hz:xs.length<=sizeLine:=by rw[<-IU rel];exact z
  have hl:(gj kvs k v).length<=sizeLine:=by have:=je kvs k v;omega
  refine wpAny_setItem_heap (hsz:=hz) (Kc hu) (mO I.hok eb) dd fun h' dd' hs=>h _ ?_;obtain⟨q,es,ep,hq,h2,h3,h4,_,h5⟩:=dd';refine pb I (by rw[e];exact True.intro) hs ⟨q,hq⟩ ⟨hl,hd,_,(rel.put k eb rv).keeps fun c ys ec=>?_,q,es,ep,hq,h2,h3,h4,h5⟩;rw[af (bQ ec e (fun z=>nomatch z))];exact ec
end
section
variable {X:Cx}{pins:List (Addr×Obj)}{σ:St}{H:Hp}{s:Shared}{a:Addr}{kvs:List (ca×V)}{k:ca}{u:Value}{A:Around}{E:Value->Shared->Prop}
theorem Fw {v:V}{more:List Value}{Q:Value->Shared->Prop}(I:aA X pins σ H s)(e:H a=some (.dK kvs))(ry:aP (kV k) u)(l:da kvs k=some v)(hm:more=[]\/∃ x,more=[x])
  (h:∀ w' s',aA X pins σ (upd H a (.dK (pW kvs k))) s'->aP v w'->Q w' s'):wpAny (model X.prog X.w) A (call (.builtin "dict.pop") (.ref a::u::more)) Q E s:=by
 obtain⟨z,hd,vs,rel,dd⟩:=Ar I.hok e;obtain⟨w',hw,rw'⟩:=gV.some_of (v:=v) (o:=valueAt vs k) (by rw[<-l];exact rel.val k)
 have hp:(keyPart u).isSome=true:=by
  cases k with
  | inl i=>obtain⟨t,q⟩:=(show ∃ t,u=Value.int i t from ry);subst q;rfl
  | inr x=>obtain⟨t,q⟩:=(show ∃ t,u=Value.str x t from ry);subst q;rfl
 have ha:argsOk "dict.pop" ⟨.ref a::u::more,[]⟩:=by
  rcases hm with q | ⟨x,q⟩
  ·subst q;exact PySem.F.args_dict_pop_2 _ _
  ·subst q;exact PySem.F.args_dict_pop_3 _ _ _
 refine call_meetsIn PySem.F.slot_dict_pop dd.typeIs PySem.F.entry_dict_pop ha (meets_dict_pop_there (bt X.prog X.w) a (oo ry) more hm hp)
  ⟨vs,w',dd,by rw[<-rel.length];exact z,hw,fun h' dd' hs=>h w' _ ?_ rw'⟩
 have he:∃ q,h'.get? a=some q:=let ⟨q,_,_,hq,_⟩:=dd';⟨q,hq⟩;exact pb I (by rw[e];exact True.intro) hs he (wV (IY (As kvs k) z) hd (rel.drop k) dd')
end
def Fp (i:Expr):Prop:=∀ ov iv,subscripted i false ov iv=operate [ov,iv] (getItem ov iv)
theorem C5 {prog:Program}{w:World}{A:Around}{E:Value->Shared->Prop}{s:Shared}{env:Env}{value slice:Expr}{pos:Pos}{T id:String}{Q:Value->Shared->Prop}
  (hl:typeLookup (.type T) "__getitem__" = pure (some (.builtin id))) (hs:Fp slice)
  (h:wpAny (model prog w) A (eval value env) (fun o s₁=>wpAny (model prog w) A (eval slice env) (fun i s₂=>s₂.TypeIs o T/\wpAny (model prog w) A (getItem o i) Q E s₂) E s₁) E s) :
  wpAny (model prog w) A (eval (.Subscript value slice pos) env) Q E s:=by
 refine Subscript_ (Jv h (fun o s₁ h₁=>Jv h₁ (fun i s₂ h₂=>?_) fun _ _ x=>x) fun _ _ x=>x);obtain⟨hT,h₂⟩:=h₂;unfold subscriptTail;refine Iv ?_;rw[getitemInPython_of_ne hT.not_modules];refine Iv (wpAny_specialOf hT hl ?_)
 have fin:wpAny (model prog w) A (subscripted slice false o i) (fun r s₃=>wpAny (model prog w) A (letTemporaryGo value o r >>= fun _=>pure r) Q E s₃) E s₂:=by
  rw[hs o i];exact wpAny_operating (Jv h₂ (fun r s₃ h₃=>Iv (wpAny_letTemporaryGo (IP h₃))) fun _ _ x=>x)
 first
  | exact IP (Iv fin)
  | exact Iv (IP (Iv fin))
  | exact Iv fin
theorem ve {X:Cx}{pins:List (Addr×Obj)}{σ:St}{H:Hp}{s:Shared}{a:Addr}{y:V}{o:Option V}(I:aA X pins σ H s)(g:c3 H a y o):s.TypeIs (.ref a) "dict":=by
 rcases g with ⟨kvs,k,e,_,_⟩ | ⟨kvs,k,b,e,_,_,_⟩
 ·obtain⟨_,_,vs,_,dd⟩:=pV I.hok e
  exact dd.typeIs
 ·obtain⟨_,_,xs,_,dd⟩:=pY I.hok e
  exact dd.typeIs
inductive HL (x y:V) (Q:VK) (H:Hp):Prop
 | mk (a:Addr) (v:V) (e:x=.ref a) (g:c3 H a y (some v)) (h:Q v H)
def F3 (td ty:TE):TE:=fun σ H Q=>td σ H fun x H1=>ty σ H1 fun y H2=>HL x y Q H2
def Hc (ty td:TE):TE:=fun σ H Q=>ty σ H fun y H1=>td σ H1 fun x H2=>∃ a o,x=.ref a/\c3 H2 a y o/\Q (.bl o.isSome) H2
def C7 (ty td:TE):TE:=fun σ H Q=>ty σ H fun y H1=>td σ H1 fun x H2=>∃ a o,x=.ref a/\c3 H2 a y o/\Q (.bl (!o.isSome)) H2
def FW (td ty tv:TE):TS:=fun D σ H=>tv σ H fun v H1=>td σ H1 fun x H2=>ty σ H2 fun y H3=>∃ a H4,x=.ref a/\kD H3 a y v H4/\D.nx σ H4
section
variable {X:Cx}{o i e value:Expr}{pos pos' tpos:Pos}{td ty tv:TE}
theorem iq (hu:X.A.units+1<cLine)(ho:PE X o td)(hi:PE X i ty)(hs:Fp i):PE X (.Subscript o i pos) (F3 td ty):=by
 intro pins s σ H Q I h;refine C5 PySem.F.slot_dict_getitem.lookup hs (bq (ho pins s σ H _ I h) fun u s1 ⟨x,H1,I1,rx,q1⟩=>bq (hi pins s1 σ H1 _ I1 q1) fun iv s2 ⟨y,H2,I2,ry,a,v,ex,g,q2⟩=>?_);subst ex;obtain rfl:u=Value.ref a:=rx;exact⟨ve I2 g,zi hu I2 g ry fun w' s3 I3 rw'=>⟨v,H2,I3,rw',q2⟩⟩
theorem qQ (hu:X.A.units+1<cLine)(hi:PE X i ty)(ho:PE X o td):PC X .In i o (Hc ty td):=by
 intro pins s σ H Q I h;refine bq (hi pins s σ H _ I h) fun iv s1 ⟨y,H1,I1,ry,q1⟩=>bq (ho pins s1 σ H1 _ I1 q1) fun u s2 ⟨x,H2,I2,rx,a,ov,ex,g,q2⟩=>?_;subst ex;obtain rfl:u=Value.ref a:=rx;exact GI hu I2 g ry fun s3 I3=>⟨.bl ov.isSome,H2,I3,rfl,q2⟩
theorem jO (hu:X.A.units+1<cLine)(hi:PE X i ty)(ho:PE X o td):PC X .NotIn i o (C7 ty td):=by
 intro pins s σ H Q I h;refine bq (hi pins s σ H _ I h) fun iv s1 ⟨y,H1,I1,ry,q1⟩=>bq (ho pins s1 σ H1 _ I1 q1) fun u s2 ⟨x,H2,I2,rx,a,ov,ex,g,q2⟩=>?_;subst ex;obtain rfl:u=Value.ref a:=rx;exact B9 hu I2 g ry fun s3 I3=>⟨.bl (!ov.isSome),H2,I3,rfl,q2⟩
theorem gz (hu:X.A.units+1<cLine)(ho:PE X o td)(hi:PE X i ty)(hv:PE X value tv)(hs:swapsWith value (some (.Subscript o i pos')) pos.line X.env=pure false) :
  PS X (.Assign [.Subscript o i pos'] value pos) (FW td ty tv):=by
 intro pins s σ H D I h;refine wpAny_Assign_Subscript (bq (hv pins s σ H _ I h) fun r s1 ⟨v,H1,I1,rv,q1⟩=>bq (ho pins s1 σ H1 _ I1 q1) fun u s2 ⟨x,H2,I2,rx,q2⟩=>bq (hi pins s2 σ H2 _ I2 q2) fun iv s3 ⟨y,H3,I3,ry,a,H4,ex,g,q3⟩=>?_) hs;subst ex;obtain rfl:u=Value.ref a:=rx;exact zj hu I3 g ry rv fun s4 I4=>⟨σ,H4,I4,q3⟩
end
theorem Aq {P:Program}{w:World}{H:Hp}(h:Heap)(hb:sysModules<h.objs.size):bu P w H (h.push { cls:=.type "dict",data:=.dict #[] }) h.objs.size (.dK []) :=
 ⟨Jg _,JI.mpr (IJ (IW hb)),[],.nil,Heap.DictOf.new h⟩
theorem At {P:Program}{w:World}{H:Hp}(h:Heap)(hb:sysModules<h.objs.size):bu P w H (h.push { cls:=.type "dict",data:=.dict #[] }) h.objs.size (.dT []) :=
 ⟨Jg _,JI.mpr (IJ (IW hb)),[],.nil,_,#[],0,IV _ rfl,⟨rfl,rfl,rfl⟩,rfl,rfl,Kh⟩
def EW:TE:=fun _ H Q=>∀ p,H p=none->Q (.ref p) (upd H p (.dK []))
def EX:TE:=fun _ H Q=>∀ p,H p=none->Q (.ref p) (upd H p (.dT []))
section
variable {X:Cx}{pos:Pos}
theorem c5:PE X (.Dict [] [] pos) EW:=fun pins s σ H Q I h =>
 wpAny_Dict_empty ⟨.ref s.heap.objs.size,_,I.laid (a:=s.heap.objs.size) (o:=.dK []) (t':=s.toks) (fun _ _ q=>Iw _ q) (Ix _) (Aq s.heap I.big),rfl,h _ (I.hok.fresh (Ix _))⟩
theorem v6:PE X (.Dict [] [] pos) EX:=fun pins s σ H Q I h =>
 wpAny_Dict_empty ⟨.ref s.heap.objs.size,_,I.laid (a:=s.heap.objs.size) (o:=.dT []) (t':=s.toks) (fun _ _ q=>Iw _ q) (Ix _) (At s.heap I.big),rfl,h _ (I.hok.fresh (Ix _))⟩
end
structure M1 (X:Cx)(o:Expr)(m:Str)(apos:Pos)(e:Expr)(cpos:Pos):Prop where
 base:attributeBase o m X.env (eval o X.env)=eval o X.env
 few:((backTo cpos (starEach [e] X.env)).all (fun x=>!x.1)&&(backToKw cpos (keywordEach [] X.env)).all (fun x=>x.1.isSome)
  && decide (([e]:List Expr).length+([]:List Keyword).length+(if ([]:List Keyword).isEmpty then 0 else 1)<30))=true
 line:(apos.endLine == cpos.line)=true
 trees:backTo cpos (starEach [e] X.env)=[(false,eval e X.env)]
structure M2 (X:Cx)(o:Expr)(m:Str)(apos:Pos)(e f:Expr)(cpos:Pos):Prop where
 base:attributeBase o m X.env (eval o X.env)=eval o X.env
 few:((backTo cpos (starEach [e,f] X.env)).all (fun x=>!x.1)&&(backToKw cpos (keywordEach [] X.env)).all (fun x=>x.1.isSome)
  && decide (([e,f]:List Expr).length+([]:List Keyword).length+(if ([]:List Keyword).isEmpty then 0 else 1)<30))=true
 line:(apos.endLine == cpos.line)=true
 trees:backTo cpos (starEach [e,f] X.env)=[(false,eval e X.env),(false,eval f X.env)]
def Gb (H:Hp)(a:Addr):Prop:=(∃ kvs,Rd H a (.dK kvs))\/∃ kvs,Rd H a (.dT kvs)
theorem w9 {X:Cx}{pins:List (Addr×Obj)}{σ:St}{H:Hp}{s:Shared}{a:Addr}(I:aA X pins σ H s)(d:Gb H a) :
  s.TypeIs (.ref a) "dict"/\(∀ b,Value.ref a=.ref b->∃ ob,s.heap.get? b=some ob/\ob.dict=none)/\(a == sysModules)=false:=by
 rcases d with ⟨kvs,e⟩ | ⟨kvs,e⟩
 ·obtain⟨_,hd,vs,_,dd⟩:=pV I.hok e
  refine⟨dd.typeIs,fun b q=>?_,hd⟩;cases q;obtain⟨ob,_,_,h1,h2,_⟩:=dd;exact⟨ob,h1,h2.2.1⟩
 ·obtain⟨_,hd,xs,_,dd⟩:=pY I.hok e
  refine⟨dd.typeIs,fun b q=>?_,hd⟩;cases q;obtain⟨ob,_,_,h1,h2,_⟩:=dd;exact⟨ob,h1,h2.2.1⟩
section
variable {X:Cx}{pins:List (Addr×Obj)}{σ:St}{H:Hp}{s:Shared}{a:Addr}{y d:V}{u r:Value}{o:Option V}{A:Around}{E:Value->Shared->Prop}
theorem DY {Q:Value->Shared->Prop}(hu:A.units+1<cLine)(I:aA X pins σ H s)(g:c3 H a y o)(ry:aP y u)(rd:aP d r)(h:∀ w' s',aA X pins σ H s'->aP (o.getD d) w'->Q w' s') :
  wpAny (model X.prog X.w) A (call (.builtin "dict.get") [.ref a,u,r]) Q E s:=by
 rcases g with ⟨kvs,k,e,ey,l⟩ | ⟨kvs,k,b,e,ey,eb,l⟩
 ·subst ey
  obtain⟨z,hd,vs,rel,dd⟩:=pV I.hok e;refine call_meetsIn J0 dd.typeIs PySem.F.entry_dict_get (PySem.F.args_dict_get_3 _ _ _) (meets_dict_get_default (bt X.prog X.w) a (oo ry) hd r) ⟨_,dd.mapOf,h _ _ (I.tok _) ?_⟩;rw[l];exact (rel.val k).getD rd
 ·subst ey
  cases (show u=Value.ref b from ry);obtain⟨z,hd,xs,rel,dd⟩:=pY I.hok e;refine call_meetsIn J0 dd.typeIs PySem.F.entry_dict_get (PySem.F.args_dict_get_3 _ _ _) (meetsH_dict_get_default (tupleKind (bt X.prog X.w)) a b hd r) ⟨Kc hu,k,xs,mO I.hok eb,dd,h _ _ (I.tok _) ?_⟩;rw[l];exact (rel.val k).getD rd
end
def EV (td ty tx:TE):TE:=fun σ H Q=>td σ H fun x H1=>∃ a,x=.ref a/\Gb H1 a/\ty σ H1 fun y H2=>tx σ H2 fun z H3=>∃ o,c3 H3 a y o/\Q (o.getD z) H3
def EY (td ty:TE):TE:=fun σ H Q=>td σ H fun x H1=>∃ a,x=.ref a/\Gb H1 a/\ty σ H1 fun y H2=>∃ kvs k v,H2 a=some (.dK kvs)/\y=kV k/\da kvs k=some v/\Q v (upd H2 a (.dK (pW kvs k)))
section
variable {X:Cx}{o e f:Expr}{apos cpos:Pos}{td ty tx:TE}
theorem A8 (hu:X.A.units+1<cLine)(ho:PE X o td)(he:PE X e ty)(hf:PE X f tx)(m:M2 X o "get" apos e f cpos):PE X (.Call (.Attribute o "get" apos) [e,f] [] cpos) (EV td ty tx):=by
 intro pins s σ H Q I h;refine wpAny_Call_method m.base m.few m.line PySem.F.plainAttrs_dict J0 PySem.F.type_dict_get (bq (ho pins s σ H _ I h) fun u s1 ⟨x,H1,I1,rx,a,ex,d,q1⟩=>?_);subst ex;obtain rfl:u=Value.ref a:=rx;obtain⟨t1,t2,_⟩:=w9 I1 d;refine⟨t1,t2,?_⟩;rw[m.trees]
 refine JV rfl (JF (Jz (bq (he pins s1 σ H1 _ I1 q1) fun iv s2 ⟨y,H2,I2,ry,q2⟩ =>
  Jz (bq (hf pins s2 σ H2 _ I2 q2) fun fv s3 ⟨z,H3,I3,rz,ov,g,q3⟩=>JR ?_))))
 exact DY hu I3 g ry rz fun w' s4 I4 rw'=>⟨_,H3,I4,rw',q3⟩
theorem qS (ho:PE X o td)(he:PE X e ty)(m:M1 X o "pop" apos e cpos):PE X (.Call (.Attribute o "pop" apos) [e] [] cpos) (EY td ty):=by
 intro pins s σ H Q I h;refine wpAny_Call_method m.base m.few m.line PySem.F.plainAttrs_dict PySem.F.slot_dict_pop PySem.F.type_dict_pop (bq (ho pins s σ H _ I h) fun u s1 ⟨x,H1,I1,rx,a,ex,d,q1⟩=>?_);subst ex;obtain rfl:u=Value.ref a:=rx;obtain⟨t1,t2,_⟩:=w9 I1 d;refine⟨t1,t2,?_⟩;rw[m.trees];refine JV rfl (JF (Jz (bq (he pins s1 σ H1 _ I1 q1) fun iv s2 ⟨y,H2,I2,ry,kvs,k,v,ea,ey,l,q2⟩=>JR ?_)));subst ey;exact Fw I2 ea ry l (.inl rfl) fun w' s3 I3 rw'=>⟨v,_,I3,rw',q2⟩
end
end L2
namespace Att
open PySem PySem.W PySem.Calls PyProof.Rows
theorem oQ {P:Params}{h:Heap}:∀ (ns:List Int)(vs:List Value),WellAll P h vs (ns.map WData.int)->IntsAre vs ns:=by
 intro ns
 induction ns with
 | nil =>
  intro vs w;rw[List.map_nil]at w;cases w;exact .nil
 | cons n ns ih =>
  intro vs w;rw[IR]at w
  cases w with
  | cons a b =>
   cases a;exact .cons _ _ (ih _ b)
theorem zZ {l:OpenLaw}{n:Nat}(hn:l.most=some n){P:Params}{h:Heap}{args:List WData}{vals:List Value}
  (hpre:l.row.toRowW.claim.pre args=true) (hwl:WellAll P h vals args) :
  ∃ a vs ns,vals=[Value.ref a]/\args=[WData.list (ns.map WData.int)]/\h.get? a=some { cls:=.type "list",data:=.seq vs.toArray }/\IntsAre vs ns/\ns.length<=n:=by
 have hsh:WShape.hasAll [] args [.list .int]=true:=(pre_splitW hpre).1;have hc:l.pre.holds [] { args:=args }=true:=(pre_splitW hpre).2;obtain⟨d,r,rfl,h1,h2⟩:=hasAllW_cons hsh;obtain rfl:=hasAllW_nil h2;obtain⟨xs,rfl,h3⟩:=hasW_list h1;obtain⟨ns,rfl⟩:=items_int h3
 have hlen:ns.length<=n:=by
  unfold OpenLaw.pre at hc
  have h4:(WTm.not (.lt (.lit (.int (n:Int))) (.len (.arg 0)))).holds [] { args:=[.list (ns.map .int)] }=true:=by
   have h4:=(holds_andW hc).1;rw[hn]at h4;exact h4
  have h5:=condW_of h4 (w_not (w_lt w_lit (w_len_list (w_arg rfl))));rw[Iq]at h5;refine Nat.le_of_not_lt fun q=>?_
  have q':(n:Int)<((ns.length:Nat):Int):=by omega
  first
   | (rw[ID q']at h5;exact absurd h5 (by decide))
   | (simp at h5;omega)
 cases hwl with
 | cons w1 w2 =>
  cases w2
  cases w1 with
  | list ho hall=>exact⟨_,_,ns,rfl,rfl,ho,oQ ns _ hall,hlen⟩
theorem zT (l:OpenLaw)(args:List WData):l.row.toRowW.claim.post args (.bool true) args=true :=
 postW_of (r:=l.row.toRowW) (X:=(true == true))
  (show WShape.has [] (.bool true) .bool=true by first | rfl | decide | simp[WShape.has,WShape.arms,WShape.armsAll])
  (show (WTm.eq .res (.lit (.bool true))).value [] { args:=args,res:=some (.bool true),after:=args }=some (.bool (true == true)) from w_eq_bool (w_res rfl) w_lit) rfl
theorem attach_call {l:OpenLaw}{n:Nat}{q:Program}{loose:List Str}{XP:(Str->Option Value)->Heap->Prop}{YP:World->Heap->Prop}{d:DefRec}
  (hn:l.most=some n) (hdf:d.params.defaults=[])
  (call:∀ (w:World)(s₀ s₁:Shared)(mg mb:Str->Option Value)(fa:Addr)(o:Obj)(pm cd doc:Value)(a:Addr)(vs:List Value)(ns:List Int),
   Ground q loose [] XP w s₀ mg mb s₁.heap->YP w s₁.heap ->
   s₁.heap.get? fa=some o->o.data=.func (docDef d.name d.params d.body d.scope pm cd doc)->s₁.heap.CodeRec cd d.name->mg d.name=some (.ref fa) ->
   s₁.heap.get? a=some { cls:=.type "list",data:=.seq vs.toArray }->IntsAre vs ns->ns.length<=n->s₁.gens = #[] ->
   codeAny (model l.prog w) callerA (.call (.ref fa) ⟨[.ref a],[]⟩) (fun r s'=>r=.ok (.ret (.bool true))/\OldK s₁.heap s'.heap/\s'.os=s₁.os/\AllBare s'.gens) s₁) :
  WalkO q loose XP YP l.row.toRowW d [] (fun f vs=>PySem.call f vs):=by
 intro w s₀ s₁ mg mb G Y fa o pm cd doc dV kV ho hd hcd hD hmg hg args vals as hpre hlay hrd hwl hlo;obtain rfl:dV=.none:=Dflts.none hD hdf;obtain rfl:kV=.none:=Dflts.noKw hD;obtain⟨a,vs,ns,rfl,rfl,hobj,hints,hlen⟩:=zZ hn hpre hwl;refine enter_call (codeAny_mono (call w s₀ s₁ mg mb fa o pm cd doc a vs ns G Y ho (fd_plain hd) hcd hmg hobj hints hlen hg) fun r s' hq=>?_);obtain⟨rfl,h2,h3,h4⟩:=hq;exact⟨.inl ⟨.bool true,.bool true,[],rfl,fun _=>rfl,.bool true,zT l _,fun _=>⟨List.Pairwise.nil,fun _ hm=>(nomatch hm)⟩⟩,h2,h3,h4⟩
section
variable {prog:Program}{w:World}{A:Around}{E:Value->Shared->Prop}{s:Shared}{K:Frag}
def GU (h:Heap):Heap:={ h with objs:=#[] }
def GS (h:Heap)(L d:Addr):List (Addr×Obj):=(List.range h.objs.size).filterMap fun a=>if a=L\/a=d then none else (h.get? a).map fun o=>(a,o)
end
end Att
namespace L2
open PySem PySem.Spec PyProof.Rows
theorem tE:∀ {vs:List Value}{ns:List Int},IntsAre vs ns->aU (ns.map V.int) vs
 | _,_,.nil=>.nil
 | _,_,.cons n t h=>.cons ⟨t,rfl⟩ (tE h)
def DP (H:Hp):Prop:=∀ b,H b=none\/∃ o xs,H b=some (.frz o (.lst xs))
theorem AL {P:Program}{w:World}{K:PySem.W.Frag}{mg mb:Str->Option Value}{CX:wK}{k:Nat}{fa a:Addr}{fd:FuncData}{x:Str}{sp:Sp}{s₁:Shared}{vs:List Value}{ns:List Int}
  (KX:K.In s₁.heap) (hns:s₁.heap.Ns mainGlobals mg) (hb:s₁.heap.Ns builtinsNs mb) (hbb:∀ x:Str,x≠"__name__"->mb x=bootBuiltins x) (hlim:s₁.heap.NoLimit) (hg:s₁.gens = #[])
  (ha:s₁.heap.get? a=some { cls:=.type "list",data:=.seq vs.toArray }) (hi:IntsAre vs ns) (hl:ns.length<=sizeLine) (hr:bX k callerA)
  (F:∀ base:Heap,K.In base->base.Ns mainGlobals mg->aR P w K mg base CX k fa fd [x] sp) (hbind:∀ (s:Shared)(u:Value),BindsTo s fd ⟨[u],[]⟩ [(x,u)])
  (hsp:∀ H:Hp,DP H->bx K H a (ns.map V.int)->sp [.ref a] H (fun v _=>v=.bl true) fun _ _ _=>False)
  (hCX:∀ H e s',CX [] H s₁ (fun _ _ _=>False) e s'->False) :
  codeAny (model P w) callerA (.call (.ref fa) ⟨[.ref a],[]⟩) (fun r s'=>r=.ok (.ret (.bool true))/\OldK s₁.heap s'.heap/\s'.os=s₁.os/\AllBare s'.gens) s₁:=by
 have rv:=tE hi;have lenV:=hi.length
 have core:∀ H:Hp,DP H->bx K H a (ns.map V.int)->iQ P w H s₁.heap->(∀ b,H b≠none->b=a)->(H a≠none->K.lookup a=none) ->
   codeAny (model P w) callerA (.call (.ref fa) ⟨[.ref a],[]⟩) (fun r s'=>r=.ok (.ret (.bool true))/\OldK s₁.heap s'.heap/\s'.os=s₁.os/\AllBare s'.gens) s₁:=by
  intro H hO hS hok hA hK;have base_of:∀ {b:Addr}{o:Obj},s₁.heap.get? b=some o->H b=none->(tZ s₁.heap H).get? b=some o:=fun e n=>AG e n
  have noA:∀ {b:Addr}{o:Obj}{es:Array DictEntry}{ep:Nat},s₁.heap.get? b=some o->o.data=.dict es ep->H b=none:=fun {b o es ep} e d=>by
   cases q:H b with
   | none=>rfl
   | some u =>
    have e':b=a:=hA b (by rw[q];simp);subst e';rw[ha]at e;cases e;have d':Data.seq vs.toArray _=Data.dict es ep:=d;cases d'
  have nsK:∀ {b:Addr}{m:Str->Option Value},s₁.heap.Ns b m->(tZ s₁.heap H).Ns b m:=fun {b m} ⟨o,es,ep,e,d,r⟩=>⟨o,es,ep,base_of e (noA e d),d,r⟩
  have hKb:K.In (tZ s₁.heap H):=fun b o e=>base_of (KX b o e) (by
   cases q:H b with
   | none=>rfl
   | some u =>
    have e':b=a:=hA b (by rw[q];simp);subst e'
    rw[hK (by rw[q];simp)]at e;cases e)
  have hM:Mod K mg (tZ s₁.heap H):=⟨hKb,nsK hns,⟨mb,nsK hb,hbb⟩,let ⟨mc,h1,h2⟩:=hlim;⟨mc,nsK h1,h2⟩⟩;have e0:wL P w K mg (tZ s₁.heap H) callerA [] s₁ H:=⟨rfl,hM,fun b o e=>CI e,Nat.le_of_eq (zr _ _),trivial,fun b hb=>absurd (show b∈([]:List Addr) from hb) (by simp),hok,.of_eq hg⟩;refine codeAny_mono ((F _ hKb (nsK hns)).run callerA [] s₁ H ⟨[.ref a],[]⟩ [.ref a] [.ref a] _ _ hr e0 (hbind s₁ (.ref a)) (.cons rfl .nil) (hsp H hO hS)) fun r s' h=>?_
  cases r with
  | error e=>exact (hCX H e s' h).elim
  | ok fl =>
   cases fl with
   | next=>exact False.elim h
   | brk=>exact False.elim h
   | cont=>exact False.elim h
   | ret u =>
    obtain⟨v,H',os,bare,un,hok',r',q⟩:=h;have q':v=.bl true:=q;subst q';obtain rfl:u=Value.bool true:=r';refine⟨rfl,OldK.of_keep fun b o e=>?_,os,bare⟩
    cases q:H b with
    | none=>exact un.keep b o e q (by intro z;exact absurd (show b∈([]:List Addr) from z) (by simp)) (by simp)
    | some u =>
     rcases hO b with z | ⟨ob,xs,z⟩
     ·rw[q]at z;cases z
     ·have z2:=un.frzs b ob _ z
      obtain⟨e1,_⟩:=hok b _ z;obtain⟨e2,_⟩:=hok' b _ z2;rw[e]at e1;cases e1;exact e2
 cases hk:K.lookup a with
 | some o =>
  have e:=KX a o hk;rw[ha]at e;cases e;refine core (fun _=>none) (fun _=>.inl rfl) (.inr ⟨_,vs.toArray,_,hk,rfl,rfl,rfl,by rw[IS,lenV];exact hl,by simpa using rv⟩) (fun b u z=>by have z':(none:Option HO)=some u:=z;cases z') (fun b z=>absurd rfl z) fun z=>absurd rfl z
 | none =>
  refine core (fun b=>if b=a then some (.frz { cls:=.type "list",data:=.seq vs.toArray } (.lst (ns.map V.int))) else none) (fun b=>?_) (.inl (.inr ⟨{ cls:=.type "list",data:=.seq vs.toArray },Iu rfl⟩)) (fun b u z=>?_) (fun b z=>?_) fun _=>hk
  ·by_cases hb:b=a
   ·exact .inr ⟨_,_,Iu hb⟩
   ·exact .inl (Ir hb)
  ·by_cases hb:b=a
   ·have z':=(Iu hb).symm.trans z
    cases z';subst hb;exact⟨ha,by rw[Iq];exact hl,vs,_,rv,ha⟩
   ·have z':=(Ir hb).symm.trans z
    cases z'
  ·by_cases hb:b=a
   ·exact hb
   ·exact absurd (Ir hb) z
theorem walk_of {l:PySem.W.OpenLaw}{n k:Nat}{q:Program}{loose:List Str}{XP:(Str->Option Value)->Heap->Prop}{YP:World->Heap->Prop}{d:DefRec}{K:Params->PySem.W.Frag}{CX:World->wK}{sp:World->Sp}{x:Str}
  (hn:l.most=some n) (hn2:n<=sizeLine) (hdf:d.params.defaults=[]) (hr:bX k callerA)
  (hY:∀ (w:World)(h:Heap),YP w h->(K w.params).In h)
  (F:∀ (w:World)(mg:Str->Option Value)(fa:Addr)(h:Heap),(K w.params).In h->h.Ns mainGlobals mg->mg d.name=some (.ref fa) ->
   ∃ fd:FuncData,(∀ (s:Shared)(u:Value),BindsTo s fd ⟨[u],[]⟩ [(x,u)]) /\
    ∀ base:Heap,(K w.params).In base->base.Ns mainGlobals mg->aR l.prog w (K w.params) mg base (CX w) k fa fd [x] (sp w))
  (hsp:∀ (w:World)(H:Hp)(a:Addr)(ns:List Int),ns.length<=n->DP H->bx (K w.params) H a (ns.map V.int)->sp w [.ref a] H (fun v _=>v=.bl true) fun _ _ _=>False)
  (hCX:∀ (w:World)(H:Hp)(s:Shared)(e:Value)(s':Shared),CX w [] H s (fun _ _ _=>False) e s'->False) :
  PySem.W.WalkO q loose XP YP l.row.toRowW d [] (fun f vs=>PySem.call f vs):=by
 refine Att.attach_call hn hdf fun w s₀ s₁ mg mb fa o pm cd doc a vs ns G Y ho hd hcd hmg hobj hints hlen hg=>?_;have KX:=hY w _ Y;obtain⟨fd,hb,hF⟩:=F w mg fa _ KX G.T.g hmg;exact AL KX G.T.g G.T.b G.T.builtins G.T.nolimit hg hobj hints (IY hlen hn2) hr hF hb (fun H hO hS=>hsp w H a ns hlen hO hS) fun H e s'=>hCX w H s₁ e s'
def aZ (s:Stmt)(j:Nat):Stmt:=match s with
 | .ClassDef _ _ _ body _ _ _ _ _ _ _=>body.getD j (.Pass ⟨0,0,0,0⟩)
 | _=>.Pass ⟨0,0,0,0⟩
def fh (s:Stmt):Arguments:=match s with
 | .FunctionDef _ a _ _ _ _ _ _ _ _=>a
 | _=>{ posonlyargs:=[],args:=[],vararg:=none,kwonlyargs:=[],kw_defaults:=[],kwarg:=none,defaults:=[] }
def dN (s:Stmt):List Stmt:=match s with
 | .FunctionDef _ _ b _ _ _ _ _ _ _=>b
 | _=>[]
def ai (s:Stmt):Scope:=match s with
 | .FunctionDef _ _ _ _ _ _ sc _ _ _=>sc
 | _=>{ kind:=.function,names:=[],isGenerator:=false,isCoroutine:=false }
abbrev c0:wK:=fun _ _ _ _ _ _=>False
abbrev E0:XK:=fun _ _ _=>False
theorem c4 {X:Cx}:dJ c0 X E0:=fun _ _ _ _ _ _ _ h=>h.elim
structure dt (K:PySem.W.Frag)(x qual:Str)(st:Stmt)(f:Addr)(fd:FuncData):Prop where
 ex:∃ (oc:Value)(od:Option Addr)(kV doc pm:Value)(an:Option Addr)(cdv ct:Value)(osl:Array (Option Value)),
  fd=PySem.W.fnOf x qual (fh st) (dN st) (ai st) .none kV doc pm an cdv ct/\K.lookup f=some ⟨oc,od,.func fd,osl⟩/\PySem.W.codeIn K cdv qual=true
 kp:PySem.W.keepIn K (.ref f)=true
section
variable {P:Program}{w:World}{K:PySem.W.Frag}{mg:Str->Option Value}{base:Heap}
theorem dt.ok {x qual:Str}{st:Stmt}{f:Addr}{fd:FuncData}{N ps:List Str}{k:Nat}{sp:Sp}(F:dt K x qual st f fd)(S:au N ps (ai st))(len:∀ vs H Q E,sp vs H Q E->vs.length=ps.length)
  (hbody:∀ (cdv:Value)(A:Around)(outer:List Env)(s:Shared)(H:Hp)(vs:List V)(Q:VK)(E:XK),bX k (A.deeper (envOfC qual (ai st) s.heap.objs.size f cdv))->sp vs H Q E ->
   ∃ t,uV (pT c0 P w K mg base N qual (ai st) f cdv A outer s H E).nox (dN st) t/\t { nx:=fun _ H'=>Q .non H',rt:=Q } (lZ N vs) H):aR P w K mg base c0 (k+1) f fd ps sp:=by
 obtain⟨oc,od,kV,doc,pm,an,cdv,ct,osl,rfl,lk,hcd⟩:=F.ex;refine Dj lk hcd S len fun A outer s H vs Q E hr hsp=>?_;obtain⟨t,h,q⟩:=hbody cdv A outer s H vs Q E hr hsp;exact⟨t,h.nox,q⟩
theorem dt.binds {x qual:Str}{st:Stmt}{f:Addr}{fd:FuncData}{ps:List Str}(F:dt K x qual st f fd)
  (h:∀ (kV doc pm:Value)(an:Option Addr)(cdv ct:Value)(us:List Value),us.length=ps.length->bindArgs (PySem.W.fnOf x qual (fh st) (dN st) (ai st) .none kV doc pm an cdv ct) ⟨us,[]⟩=pure (ps.zip us)):dE K fd ps []:=by
 obtain⟨oc,od,kV,doc,pm,an,cdv,ct,osl,rfl,lk,hcd⟩:=F.ex;exact .all (h kV doc pm an cdv ct)
theorem AB {x qual:Str}{st:Stmt}{f:Addr}{oc:Value}{od an:Option Addr}{osl:Array (Option Value)}{kV doc pm cdv ct:Value}(l:K.lookup f=some ⟨oc,od,.func (PySem.W.fnOf x qual (fh st) (dN st) (ai st) .none kV doc pm an cdv ct),osl⟩)
  (c:PySem.W.codeIn K cdv qual=true) (k:PySem.W.keepIn K (.ref f)=true):dt K x qual st f (PySem.W.fnOf x qual (fh st) (dN st) (ai st) .none kV doc pm an cdv ct):=⟨⟨oc,od,kV,doc,pm,an,cdv,ct,osl,rfl,l,c⟩,k⟩
end
theorem eO {A:Around}{k:Nat}(hr:bX k A):A.units+1<cLine:=Kd (Nat.add_le_add_left (by decide:1<=64) _) hr.units
theorem aQ {n:Nat}(h:n<=1000):n<sizeLine:=Kd h (by decide)
section
variable {X:Cx}
theorem pv (i:Nat){x:Str}{pos:Pos}(hN:X.N[i]? = some x:=by rfl)(hv:GF X.env.scope x:=by first | exact Or.inl rfl | exact Or.inr (Or.inl rfl) | exact Or.inr (Or.inr rfl))(hd:(x == ("__debug__" : Str))=false:=by decide)
  (hcd:(x == ("__classdict__" : Str))=false:=by decide):PE X (.Name x pos) (z7 i):=EN hN hv hd hcd
end
theorem aw {A B:Prop}(h:B):if false=true then A else B:=by
 rw[Ir Iz];exact h
theorem bc {A B:Prop}(h:A):if true=true then A else B:=by
 rw[Iu rfl];exact h
theorem xb {c A B:Prop} [Decidable c] (h1:c->A)(h2:¬ c->B):if c then A else B:=by
 by_cases h:c
 ·rw[Iu h]
  exact h1 h
 ·rw[Ir h]
  exact h2 h
def ay (H H':Hp):Prop:=∀ b o,H b=some o->H' b=some o
theorem ay.refl (H:Hp):ay H H:=fun _ _ h=>h
theorem ay.trans {H H1 H2:Hp}(a:ay H H1)(b:ay H1 H2):ay H H2:=fun c o h=>b c o (a c o h)
theorem ay.free {H H':Hp}(e:ay H H'){l:Addr}(h:H' l=Option.none):H l=Option.none:=by
 cases q:H l with
 | none=>rfl
 | some o =>
  rw[e l o q]at h;cases h
theorem ay.seq {K:PySem.W.Frag}{H H':Hp}{a:Addr}{xs:List V}(e:ay H H')(h:bx K H a xs):bx K H' a xs:=by
 rcases h with (h | ⟨o,h⟩) | h
 ·exact .inl (.inl (e _ _ h))
 ·exact .inl (.inr ⟨o,e _ _ h⟩)
 ·exact .inr h
section
variable {κ:Type} [DecidableEq κ]
theorem pj:∀ {l:List κ}{k:κ},l.Nodup->¬ k∈l->(l++[k]).Nodup
 | [],k,_,_=>by simp
 | a::r,k,h,hk=>by
  obtain⟨h1,h2⟩:=Jk.mp h
  show (a::(r++[k])).Nodup
  refine Jk.mpr ⟨fun m=>?_,pj h2 fun m=>hk (IC.mpr (Or.inr m))⟩;rcases IN.mp m with q | q
  ·exact h1 q
  ·exact hk (IC.mpr (Or.inl (IF.mp q).symm))
end
end L2
set_option maxHeartbeats 4000000
namespace L2
open PySem PySem.Spec PyProof.Rows
structure u0 (so sc:Scope)(N N':List Str)(src:List (Option Nat)):Prop where
 kind:sc.kind=.function
 nocell:∀ y∈sc.names,y.2≠.cell
 loc:∀ y∈sc.names,y.2=.local->sc.names.lookup y.1=some .local
 fre:∀ y∈sc.names,y.2=.free->so.names.lookup y.1=some .cell\/so.names.lookup y.1=some .free
 nd:N'.Nodup
 len:src.length=N'.length
 cap:∀ p∈N'.zip src,(match p.2 with | none=>true | some j=>decide (N[j]? = some p.1/\sc.names.lookup p.1=some .free))=true
def kI (src:List (Option Nat))(σ:St):St:=src.map fun o=>o.bind fun j=>(σ[j]?).join
def ii (X:Cx)(sc:Scope)(cl:List (Str×Addr))(C:Addr)(N':List Str)(s:Shared)(H:Hp)(ex:List Addr):Cx where
 prog:=X.prog
 w:=X.w
 K:=X.K
 mg:=X.mg
 base:=X.base
 A:=X.A
 N:=N'
 s₀:=s
 H₀:=H
 env:=compEnvC sc cl C X.env
 outer:=X.stack
 stack:=X.stack
 ex:=ex
 fn:=fun _=>false
 calm:=X.calm
 pn:=[]
 xe:=fun _ _=>False
theorem ig {env:Env}:∀ (names:List (Str×NameKind))(cs:List (Str×Addr)),(∀ y∈names,y.2=.free->∃ c,env.cells.lookup y.1=some c) ->
  (∀ x c,cs.lookup x=some c->env.cells.lookup x=some c) ->
  ∃ cl:List (Str×Addr),(forIn names cs fun x r=>if (x.2 == NameKind.free)=true then (do let a <-cellOf env x.1;pure (ForInStep.yield ((x.1,a)::r))) else pure (ForInStep.yield r):Sem (List (Str×Addr)))=pure cl /\
   (∀ x c,cl.lookup x=some c->env.cells.lookup x=some c)/\(∀ x,(∃ c,cs.lookup x=some c)->∃ c,cl.lookup x=some c)/\∀ y∈names,y.2=.free->∃ c,cl.lookup y.1=some c
 | [],cs,_,h2=>⟨cs,by rw[List.forIn_nil],h2,fun _ h=>h,fun _ h=>nomatch h⟩
 | (n,k)::r,cs,h1,h2=>by
  by_cases hk:k=.free
  ·subst hk
   obtain⟨c,hc⟩:=h1 (n,.free) IB rfl
   have h2':∀ x d,((n,c)::cs).lookup x=some d->env.cells.lookup x=some d:=fun x d e=>by
    rw[Jt]at e;split at e
    ·rename_i hx
     cases e
     have:x=n:=by simpa using hx
     rw[this];exact hc
    ·exact h2 x d e
   obtain⟨cl,e,q1,q2,q3⟩:=ig r ((n,c)::cs) (fun y hy=>h1 y (Iy _ hy)) h2';have has:∃ d,((n,c)::cs).lookup n=some d:=⟨c,by simp⟩;refine⟨cl,?_,q1,fun x ⟨d,hd⟩=>q2 x ?_,fun y hy hf=>?_⟩
   ·rw[List.forIn_cons,<-e]
    simp[cellOf,hc]
   ·rw[Jt]
    split
    ·exact⟨_,rfl⟩
    ·exact⟨d,hd⟩
   ·rcases IC.mp hy with rfl | hy
    ·exact q2 _ has
    ·exact q3 y hy hf
  ·obtain⟨cl,e,q1,q2,q3⟩:=ig r cs (fun y hy=>h1 y (Iy _ hy)) h2
   have hb:(k == NameKind.free)=false:=by simpa using hk
   refine⟨cl,?_,q1,q2,fun y hy hf=>?_⟩
   ·rw[List.forIn_cons,<-e]
    simp[hb]
   ·rcases IC.mp hy with rfl | hy
    ·exact absurd hf hk
    ·exact q3 y hy hf
theorem pR {sc:Scope}{env:Env}(h:∀ y∈sc.names,y.2=.free->∃ c,env.cells.lookup y.1=some c) :
  ∃ cl:List (Str×Addr),closureFor sc env=pure cl/\(∀ x c,cl.lookup x=some c->env.cells.lookup x=some c)/\∀ y∈sc.names,y.2=.free->∃ c,cl.lookup y.1=some c:=by
 obtain⟨cl,e,q1,_,q3⟩:=ig sc.names [] h (fun x c z=>by simp at z);refine⟨cl,?_,q1,q3⟩;unfold closureFor
 show (forIn sc.names [] _ >>= fun cs=>pure cs)=_
 refine Eq.trans (J3 (fun t=>t >>= fun cs=>pure cs) (Eq.trans ?_ e)) (by simp)
 congr 1
theorem lW {env:Env}:∀ {names:List (Str×NameKind)}{x:Str},(∀ y∈names,y.2≠.cell) ->
  ((names.map fun (n,k)=>if (k == NameKind.free&&env.scope.kind == .function&&env.kindOf n == some .cell) then (n,NameKind.cell) else (n,k)).lookup x=some .cell \/
    (names.map fun (n,k)=>if (k == NameKind.free&&env.scope.kind == .function&&env.kindOf n == some .cell) then (n,NameKind.cell) else (n,k)).lookup x=some .free)->(x,NameKind.free)∈names
 | [],_,_,h=>by simp at h
 | (n,k)::r,x,hc,h=>by
  have ih:=@lW env r x (fun y hy=>hc y (Iy _ hy));have h:List.lookup x ((if (k == NameKind.free&&env.scope.kind == .function&&env.kindOf n == some .cell)=true then (n,NameKind.cell) else (n,k))::_)=some .cell\/List.lookup x ((if (k == NameKind.free&&env.scope.kind == .function&&env.kindOf n == some .cell)=true then (n,NameKind.cell) else (n,k))::_)=some .free:=h
  by_cases hb:(k == NameKind.free&&env.scope.kind == .function&&env.kindOf n == some .cell)=true
  ·rw[Iu hb]at h
   cases hx:x == n with
   | true =>
    have e:x=n:=by simpa using hx
    subst e
    have:k=NameKind.free:=by
     simp only[JD,Ka]at hb;exact hb.1.1
    subst this;exact IB
   | false =>
    simp only[Jt,hx]at h;exact Iy _ (ih h)
  ·rw[Ir hb]at h
   cases hx:x == n with
   | true =>
    have e:x=n:=by simpa using hx
    subst e;have hk:=hc (x,k) IB;simp only[Jt,beq_self_eq_true,Option.some.injEq]at h;rcases h with h | h
    ·exact absurd h hk
    ·subst h;exact IB
   | false =>
    simp only[Jt,hx]at h;exact Iy _ (ih h)
theorem ku {env:Env}:∀ {names:List (Str×NameKind)}{x:Str},names.lookup x=some .free ->
  ((names.map fun (n,k)=>if (k == NameKind.free&&env.scope.kind == .function&&env.kindOf n == some .cell) then (n,NameKind.cell) else (n,k)).lookup x=some .cell \/
    (names.map fun (n,k)=>if (k == NameKind.free&&env.scope.kind == .function&&env.kindOf n == some .cell) then (n,NameKind.cell) else (n,k)).lookup x=some .free)
 | [],_,h=>by simp at h
 | (n,k)::r,x,h=>by
  have ih:=@ku env r x
  show List.lookup x ((if (k == NameKind.free&&env.scope.kind == .function&&env.kindOf n == some .cell)=true then (n,NameKind.cell) else (n,k))::_)=some .cell\/List.lookup x ((if (k == NameKind.free&&env.scope.kind == .function&&env.kindOf n == some .cell)=true then (n,NameKind.cell) else (n,k))::_)=some .free
  cases hx:x == n with
  | true =>
   simp only[Jt,hx,Option.some.injEq]at h;subst h
   by_cases hb:(NameKind.free == NameKind.free&&env.scope.kind == .function&&env.kindOf n == some .cell)=true
   ·rw[Iu hb];left;simp only[Jt,hx]
   ·rw[Ir hb];right;simp only[Jt,hx]
  | false =>
   simp only[Jt,hx]at h
   by_cases hb:(k == NameKind.free&&env.scope.kind == .function&&env.kindOf n == some .cell)=true
   ·rw[Iu hb];simp only[Jt,hx];exact ih h
   ·rw[Ir hb];simp only[Jt,hx];exact ih h
theorem eK {prog:Program}{w:World}{A:Around}{R:Result->Shared->Prop}{s:Shared}{elt target aS:Expr}{ifs:List Expr}{scope:Scope}{pos:Pos}{it acc:Value}{env:Env}(I:Nat->Shared->Prop)
  (turn:∀ n s,I n s->wpAny (model prog w) A (pyNext it) (fun r s₁=>match r with
   | none=>R (.ok .next) s₁
   | some v=>wpAny (model prog w) A (letOwnedTupleGo target it v) (fun _ s₁'=>wpAny (model prog w) A (assign target env v) (fun _ s₂ =>
     wpAny (model prog w) A (forIn ifs true fun c r=>if r=true then do let ok <-isTrue c env (eval c env);pure (ForInStep.yield ok) else pure (ForInStep.yield r)) (fun ok s₃ =>
      if ok=true then wpAny (model prog w) A (eval elt env) (fun x s₄ =>
       wpAny (model prog w) A (call (.builtin "list.append") [acc,x]) (fun _ s₅=>∃ m,m<n/\I m s₅) (fun _ _=>False) s₄) (fun _ _=>False) s₃
      else ∃ m,m<n/\I m s₃) (fun _ _=>False) s₂) (fun _ _=>False) s₁') (fun _ _=>False) s₁) (fun _ _=>False) s)
  (n:Nat) (h:I n s) :
  codeAny (model prog w) A (.compLoop (.ListComp elt [⟨target,aS,ifs,0⟩] scope pos) 0 it acc env) R s:=by
 refine codeAny_loop rfl I (fun n s hI=>?_) n h
 show wpAny _ A ((compTurn (.ListComp elt [⟨target,aS,ifs,0⟩] scope pos) 0 it acc env).onRaise (fun x=>do noteFrame x env;theTreesLotGoes x)) _ _ s
 refine wpAny_noted ?_;rw[compTurn_list];refine Iv (wpAny_standAt (Iv (Jv (turn n s hI) (fun r s₁ h₁=>?_) fun _ _ h'=>h'.elim)))
 cases r with
 | none=>exact IP h₁
 | some v =>
  refine Iv (Jv h₁ (fun _ s₁' h₁'=>?_) fun _ _ h'=>h'.elim);refine Iv (Jv h₁' (fun _ s₂ h₂=>Iv (Jv h₂ (fun ok s₃ h₃=>?_) fun _ _ h'=>h'.elim)) fun _ _ h'=>h'.elim)
  cases ok with
  | false=>exact IP ⟨rfl,h₃⟩
  | true =>
   exact Iv (Iv (Jv h₃ (fun x s₄ h₄=>Iv (Jv h₄ (fun _ s₅ h₅=>IP (IP ⟨rfl,h₅⟩)) fun _ _ h'=>h'.elim)) fun _ _ h'=>h'.elim))
def Gh (X:Cx)(ifs:List Expr)(t:TT):Prop :=
 ∀ (pins:List (Addr×Obj))(s:Shared)(σ:St)(H:Hp)(Q:Bool->Hp->Prop),aA X pins σ H s->t σ H Q ->
  wpAny (model X.prog X.w) X.A (forIn ifs true fun c r=>if r=true then do let ok <-isTrue c X.env (eval c X.env);pure (ForInStep.yield ok) else pure (ForInStep.yield r)) (TP X pins σ Q) X.xe s
def wF:TT:=fun _ H Q=>Q true H
theorem fo {X:Cx}:Gh X [] wF:=fun pins s σ H Q I h=>wpAny_tests_nil ⟨H,I,h⟩
theorem uB {X:Cx}{c:Expr}{t:TT}(h:PT X c t):Gh X [c] t:=fun pins s σ H Q I hq=>wpAny_tests_one (h pins s σ H Q I hq)
def C9 (tt:TT)(te:TE)(a:Addr):TS:=fun D σ H=>tt σ H fun b H1=>if b=true then te σ H1 fun y H2=>∃ ys,H2 a=some (.lst ys)/\ys.length<sizeLine/\D.nx σ (upd H2 a (.lst (ys++[y]))) else D.nx σ H1
def sy (J:It)(g:TG)(tb:TS)(D:kE)(σ:St)(H:Hp):Prop:=∃ W:Nat->Nat->St->Hp->Prop,(∃ m,W 0 m σ H)/\∀ i m σ H,W i m σ H ->
 (J.stop i H/\D.nx σ H)\/(J.go i H/\∃ N:St->Hp->Prop,(∀ σ' H',N σ' H'->∃ m',m'<m/\W (i+1) m' σ' H')/\∀ x H',J.yld i H x H'->g x σ H' fun σ2 H2=>tb { D with nx:=N,ct:=N,bk:=D.nx } σ2 H2)
def Dz (wi:TI)(g:TG)(tt:TT)(te:TE)(src:List (Option Nat)):TE:=fun σ H Q=>wi σ H fun J H1=>∀ a,H1 a=none ->
 sy J g (C9 tt te a) { nx:=fun _ H'=>Q (.ref a) H',rt:=fun _ _=>False } (kI src σ) (upd H1 a (.lst []))
theorem vp {X:Cx}{pins:List (Addr×Obj)}{σ:St}{H:Hp}{s:Shared}{sc so:Scope}{N':List Str}{src:List (Option Nat)}{cl:List (Str×Addr)}{fp:List Addr}{h':Heap}
  (I:aA X pins σ H s) (hso:X.env.scope=so) (S:u0 so sc X.N N' src) (q1:∀ x c,cl.lookup x=some c->X.env.cells.lookup x=some c) (q3:∀ y∈sc.names,y.2=.free->∃ c,cl.lookup y.1=some c)
  (hf:∀ b∈fp,kF X pins H b) (hlt:∀ b∈fp,b<s.heap.objs.size) (hns:h'.Ns s.heap.objs.size fun _=>none) (hk:∀ b o,s.heap.get? b=some o->h'.get? b=some o) (tk:Nat) :
  aA (ii X sc cl s.heap.objs.size N' s H fp) [] (kI src σ) H { s with heap:=h',toks:=tk }:=by
 have hb:∀ b∈fp,b≠s.heap.objs.size/\∀ x c,cl.lookup x=some c->c≠b:=fun b z=>⟨IW (hlt b z),fun x c e=>(hf b z).2.2.2.2.1 x c (q1 x c e)⟩
 refine⟨⟨I.ok.mod,?_,I.ok.glob,I.ok.blt,Ix _,fun x y c h1 h2=>I.ok.inj x y c (q1 _ _ h1) (q1 _ _ h2),fun x hx=>?_,fun x c hx _=>(by cases hx),I.ok.hd,I.ok.frames,.inl rfl,hb,I.bs,IY I.ok.bsz I.sz,fun b o e z=>?_,fun b z hz=>?_,I.stack,I.stkFree⟩,
  rfl,I.bare,Un.kept hk,⟨_,hns,fun i x v h1 h2 h3=>?_⟩,fun x c e=>?_,I.hok.fresh (Ix _),fun x c e=>I.freeC x c (q1 x c e),fun p hp=>absurd (show p∈([]:List (Addr×Obj)) from hp) (by simp),I.hok.kept hk,?_⟩
 ·show (relabel sc X.env).kind=_
  exact S.kind
 ·have hx':(x,NameKind.free)∈sc.names:=lW S.nocell hx
  exact q3 _ hx' rfl
 ·rcases (hf b z).2.2.2.1 with y | y
  ·exact I.ok.noex b o e y
  ·exact absurd (IT (II e) (IY I.ok.bsz y)) (Nat.lt_irrefl _)
 ·rcases IC.mp (I.stkSub b hz) with y | y
  ·exact (hf b z).2.1 y
  ·exact (hf b z).2.2.1 y
 ·-- the captured names
  have h1':N'[i]? = some x:=h1;have h2':(kI src σ)[i]? = some (some v):=h2;unfold kI at h2';rw[Ji]at h2'
  cases hs:src[i]? with
  | none=>rw[hs]at h2';cases h2'
  | some o =>
   rw[hs]at h2';have h2'':(o.bind fun j=>(σ[j]?).join)=some v:=IA h2'
   cases o with
   | none=>cases h2''
   | some j =>
    have hj:(σ[j]?).join=some v:=h2''
    have hσ:σ[j]? = some (some v):=by
     cases e:σ[j]? with
     | none=>rw[e]at hj;cases hj
     | some z=>rw[e]at hj;rw[show z=some v from hj]
    have hzip:(x,some j)∈N'.zip src:=by
     have:(N'.zip src)[i]? = some (x,some j):=by
      rw[List.getElem?_zip_eq_some];exact⟨h1',hs⟩
     exact Jc this
    have hc:=Jq (S.cap _ hzip);obtain⟨hN,hfr⟩:X.N[j]? = some x/\sc.names.lookup x=some .free:=hc;have hmem:(x,NameKind.free)∈sc.names:=JS hfr;have hvis:=S.fre _ hmem rfl;rw[<-hso]at hvis;obtain⟨m,hn,hl⟩:=I.loc;obtain⟨u,ru,lk⟩:=hl j x v hN hσ (.inr hvis);refine⟨u,ru,.inr ⟨ku hfr,?_⟩⟩;obtain⟨c,hcl⟩:=q3 _ hmem rfl;refine⟨c,hcl,?_⟩;rcases lk with ⟨k,_⟩ | ⟨_,c',e',z⟩
    ·have k:X.env.scope.names.lookup x=some .local:=k
     rcases hvis with y | y<;>(rw[k]at y;cases y)
    ·have:=q1 x c hcl
     rw[e']at this;cases this;obtain⟨ob,e1,e2⟩:=z;exact⟨ob,hk _ _ e1,e2⟩
 ·obtain⟨v,ob,e1,e2⟩:=I.cell x c (q1 x c e)
  exact⟨v,ob,hk _ _ e1,e2⟩
 ·show (kI src σ).length=N'.length
  unfold kI;rw[Iq];exact S.len
theorem oi {X:Cx}{pins:List (Addr×Obj)}{σ:St}{H:Hp}{s:Shared}{l:Addr}{xs:List V}{y:V}{u:Value}{E:Value->Shared->Prop}(I:aA X pins σ H s)(hH:H l=some (.lst xs))(hz:xs.length<sizeLine)(ru:aP y u) :
  wpAny (model X.prog X.w) X.A (call (.builtin "list.append") [.ref l,u]) (fun _ s'=>aA X pins σ (upd H l (.lst (xs++[y]))) s') E s:=by
 obtain⟨z,its,n,r,hl,e⟩:=I.lstM hH;refine call_meets F.slot_list_append ⟨_,e,rfl⟩ F.entry_list_append (F.args_list_append_2 _ _) (PySem.list_append l its.toArray n u (by rw[IS];omega)) ⟨e,?_⟩;refine I.lset (its':=its++[u]) hH e (by simp) (r.append (.cons ru .nil)) ?_;rw[IK,JY];omega
theorem fm {X:Cx}{elt tg aS:Expr}{ifs:List Expr}{sc so:Scope}{pos:Pos}{N':List Str}{src:List (Option Nat)}{wi:TI}{g:TG}{tt:TT}{te:TE}{N:List Str}(hso:X.env.scope=so)(hXN:X.N=N)(S:u0 so sc N N' src)(hc:X.calm=true)(hi:PI X tg aS wi)
  (hb:∀ (cl:List (Str×Addr))(C:Addr)(s:Shared)(H:Hp)(ex:List Addr),PG (ii X sc cl C N' s H ex) tg g/\Gh (ii X sc cl C N' s H ex) ifs tt/\PE (ii X sc cl C N' s H ex) elt te)
  (hs:∀ x,foldedSetIterable aS X.env x=pure x:=by intro _;rfl):PE X (.ListComp elt [⟨tg,aS,ifs,0⟩] sc pos) (Dz wi g tt te src):=by
 subst hXN;intro pins s σ H Q I h
 obtain⟨cl,hcl,q1,q3⟩:=pR (sc:=sc) (env:=X.env) fun y hy hf=>by
  have:=S.fre y hy hf;rw[<-hso]at this;exact I.ok.has y.1 this
 rw[eval_ListComp];refine wpAny_comprehension_free (use:=none) rfl hs hcl S.kind S.loc (bq (hi pins s σ H _ I h) fun v s1 h1=>bq h1 fun itv s2 h2=>?_);obtain⟨it,fp,tn,J,H2,e,I2,T,st2,f2,hR⟩:=h2;subst e;refine JH ?_
 have I3:aA X pins σ (upd H2 s2.heap.objs.size (.lst [])) { s2 with heap:=s2.heap.push { cls:=.type "list",dict:=none,data:=.seq ([]:List Value).toArray } } :=
  I2.laid (t':=s2.toks) (fun b u q=>Iw _ q) (Ix _) ⟨Jg _,[],0,.nil,IV _ rfl⟩
 have hfr:=I2.hok.fresh (Ix s2.heap.objs.size);obtain⟨W,⟨m0,w0⟩,turn⟩:=hR _ hfr
 have flt:∀ b∈fp,b<s2.heap.objs.size:=fun b hb=>by obtain⟨o,e,_⟩:=T.obj _ _ st2 b hb;exact II e
 generalize hs3:({ s2 with heap:=s2.heap.push { cls:=.type "list",dict:=none,data:=.seq ([]:List Value).toArray } }:Shared)=s3 at I3 ⊢
 have e3:s3.heap=s2.heap.push { cls:=.type "list",dict:=none,data:=.seq ([]:List Value).toArray }:=by rw[<-hs3]
 have sz3:s3.heap.objs.size=s2.heap.objs.size+1:=by rw[e3,Heap.size_push]
 have hf3:∀ b∈fp,kF X pins (upd H2 s2.heap.objs.size (.lst [])) b:=fun b hb=>⟨by rw[af (IW (flt b hb))];exact (f2 b hb).1,(f2 b hb).2⟩
 have flt3:∀ b∈fp,b<s3.heap.objs.size:=fun b hb=>by rw[sz3];exact Nat.lt_succ_of_lt (flt b hb)
 have st3:tn 0 s3.heap:=T.keep _ _ _ st2 fun b _ o e=>by rw[e3];exact Iw _ e
 refine wpAny_newFunctionEnv S.nocell (by intro y hy;simp at hy) (fun h4 hns4 hsb4=>?_) S.kind;have kp4:∀ b o,s3.heap.get? b=some o->h4.get? b=some o:=fun b o e=>hsb4.extBut b o (IW (II e)) (Iw _ e);have I4:=vp (h':=h4) I3 hso S q1 q3 hf3 flt3 (by simpa using hns4) kp4 (s3.toks+([]:List (Str×Value)).length);have st4:tn 0 h4:=T.keep _ _ _ st3 fun b _ o e=>kp4 b o e;generalize hC:s3.heap.objs.size=C at I4 hns4 hsb4 ⊢;obtain⟨hg,ht,he⟩:=hb cl C s3 (upd H2 s2.heap.objs.size (.lst [])) fp
 let Y:Cx:=ii X sc cl C N' s3 (upd H2 s2.heap.objs.size (.lst [])) fp
 have loop:∀ s5:Shared,s5={ s3 with heap:=h4,toks:=s3.toks+([]:List (Str×Value)).length }->codeAny (model X.prog X.w) X.A (.compLoop (.ListComp elt [⟨tg,aS,ifs,0⟩] sc pos) 0 (.ref it) (.ref s2.heap.objs.size) (compEnvC sc cl C X.env))
   (compPost (model X.prog X.w) X.A X.xe none (EP X pins σ Q) (.ref s2.heap.objs.size) C) s5:=by
  rintro s5 rfl
  have stat:∀ {H':Hp},(∀ b∈fp,H' b=none)->∀ b∈fp,kF Y [] H' b:=fun {H'} hn b hb=>by
   obtain⟨f0,f1,f2',f3,f4,f5⟩:=hf3 b hb;refine⟨hn b hb,?_,fun z=>?_,.inl hb,fun x c e=>f4 x c (q1 x c e),fun p hp=>absurd (show p∈([]:List (Addr×Obj)) from hp) (by simp)⟩
   ·show b≠C
    rw[<-hC];exact IW (flt3 b hb)
   ·have z:b∈jU X.stack:=z
    rcases IC.mp (I3.stkSub b z) with y | y
    ·exact f1 y
    ·exact f2' y
  refine eK (fun n s'=>∃ i σ' H',aA Y [] σ' H' s'/\tn i s'.heap/\(∀ b∈fp,H' b=none)/\W i n σ' H') ?_ m0 ⟨0,_,_,I4,st4,fun b hb=>(hf3 b hb).1,w0⟩;rintro n s6 ⟨i,σ6,H6,I6,st6,fr6,w6⟩;rcases turn i n σ6 H6 w6 with ⟨stop,qn⟩ | ⟨go,Nx,hN,step⟩
  ·refine bq (T.done Y rfl rfl rfl hc i [] s6 σ6 H6 _ I6 (stat fr6) st6 stop) fun r s7 ⟨hr,I7⟩=>?_
   subst hr;obtain⟨m,hn,_⟩:=id I7.loc;refine⟨m,hn,fun h' hsb=>?_⟩
   have neC:∀ b o,s3.heap.get? b=some o->b≠C:=fun b o e=>by rw[<-hC];exact IW (II e)
   have freeC:H6 C=none:=I7.free
   have un:Un (jU X.stack) fp (upd H2 s2.heap.objs.size (.lst [])) H6 s3.heap h' :=
    ⟨fun b o e n hb hx=>(hsb.2 b (neC b o e)).trans (I7.base.keep b o e n hb hx),fun b o e n hb hx=>by
      obtain⟨sl,q⟩:=I7.base.slot b o e n hb hx
      exact⟨sl,(hsb.2 b (neC b o e)).trans q⟩,I7.base.free,fun b o e hx=>by
      obtain⟨o',q⟩:=I7.base.there b o e hx
      exact⟨o',(hsb.2 b (neC b o e)).trans q⟩,I7.base.tups,I7.base.frzs,I7.base.tbls⟩
   have hok:iQ X.prog X.w H6 h':=fun b ob e=>by
    refine (I7.hok b ob e).stay (fun c w' hc' q=>(hsb.2 c ?_).trans q) (fun _ q=>q) fun _ _ q=>q;rintro rfl;rcases hc' with z | z
    ·rw[<-z,freeC]at e;cases e
    ·rw[freeC]at z;cases z
   have J7:aA X pins σ H6 { s7 with heap:=h' }:=I3.call' (ch:=fp) (s':={ s7 with heap:=h' }) I7.os un hok I7.bare fun b hb=>⟨(hf3 b hb).2.2.2.1,(hf3 b hb).2.1,(hf3 b hb).2.2.2.2.1,(hf3 b hb).2.2.2.2.2⟩;exact⟨.ref s2.heap.objs.size,H6,J7,rfl,qn⟩
  ·refine bq (T.item Y rfl rfl rfl hc i [] s6 σ6 H6 _ I6 (stat fr6) st6 go) fun r s7 ⟨u,hr,h7⟩=>?_
   subst hr;refine bq h7 fun _ s8 ⟨x,H8,I8,r8,y8,st8,fr8⟩=>?_;have I8':=I8.pinned (stat fr8) (T.obj _ _ st8);refine bq (hg _ s8 σ6 H8 x u _ I8' r8 (step x H8 y8)) fun _ s9 ⟨σ9,H9,I9,q9⟩=>?_
   have again:∀ {s':Shared}{σ7:St}{H7:Hp},aA Y ([]++nj fp s8.heap) σ7 H7 s'->Nx σ7 H7->∃ m,m<n/\∃ i σ' H',aA Y [] σ' H' s'/\tn i s'.heap/\(∀ b∈fp,H' b=none)/\W i m σ' H':=fun {s' σ7 H7} I7 n7=>by
    obtain⟨m',hm,w7⟩:=hN σ7 H7 n7;refine⟨m',hm,i+1,σ7,H7,I7.unpinned,T.keep _ _ _ st8 fun b hb o e=>(I7.pin (b,o) (Je _ (Je _ (d8 hb e)))).1,fun b hb=>?_,w7⟩;obtain⟨o,e,d⟩:=T.obj _ _ st8 b hb;exact (I7.pin (b,o) (Je _ (Je _ (d8 hb e)))).2.1
   refine bq (ht _ s9 σ9 H9 _ I9 q9) fun ok s10 ⟨H10,I10,q10⟩=>?_
   cases ok with
   | false =>
    rw[Ir Iz]at q10 ⊢;exact again I10 q10
   | true =>
    rw[Iu rfl]at q10 ⊢;refine bq (he _ s10 σ9 H10 _ I10 q10) fun y s11 ⟨yv,H11,I11,ry,ys,hys,hlen,q11⟩=>?_;exact bq (oi (X:=Y) I11 hys hlen ry) fun _ s12 I12=>again I12 q11
 exact codeAny_compStart_list (loop _ rfl) (T.self _ 0 _ _ _ st4 (loop _ rfl))
def EU (wi:TI)(g:TG)(tt:TT)(te:TE)(src:List (Option Nat))(i:Nat):TS:=fun D σ H=>wi σ H fun J H1=>∀ a,H1 a=none ->
 sy J g (C9 tt te a) { nx:=fun _ H'=>D.nx (σ.set i (some (.ref a))) H',rt:=fun _ _=>False } (kI src σ) (upd H1 a (.lst []))
theorem uA {X:Cx}{ix:Nat}{x:Str}{px spos:Pos}{elt tg aS:Expr}{ifs:List Expr}{sc so:Scope}{pos:Pos}{N':List Str}{src:List (Option Nat)}{wi:TI}{g:TG}{tt:TT}{te:TE}{N:List Str}(hso:X.env.scope=so)(hXN:X.N=N)(S:u0 so sc N N' src)(hc:X.calm=true)(hi:PI X tg aS wi)
  (hb:∀ (cl:List (Str×Addr))(C:Addr)(s:Shared)(H:Hp)(ex:List Addr),PG (ii X sc cl C N' s H ex) tg g/\Gh (ii X sc cl C N' s H ex) ifs tt/\PE (ii X sc cl C N' s H ex) elt te)
  (hnd:X.N.Nodup) (hix:X.N[ix]? = some x) (hx:X.env.scope.names.lookup x=some .local)
  (hsw:swapsWith (.ListComp elt [⟨tg,aS,ifs,0⟩] sc pos) (some (.Name x px)) spos.line X.env=pure true:=by rfl)
  (hs:∀ x,foldedSetIterable aS X.env x=pure x:=by intro _;rfl):PS X (.Assign [.Name x px] (.ListComp elt [⟨tg,aS,ifs,0⟩] sc pos) spos) (EU wi g tt te src ix):=by
 subst hXN;intro pins s σ H D I h
 obtain⟨cl,hcl,q1,q3⟩:=pR (sc:=sc) (env:=X.env) fun y hy hf=>by
  have:=S.fre y hy hf;rw[<-hso]at this;exact I.ok.has y.1 this
 rw[exec_Assign_Name_used _ _ _ _ hsw];refine Iv (wpAny_standAt (Iv ?_))
 show wpAny _ X.A (do let _ <-comprehension (.ListComp elt [⟨tg,aS,ifs,0⟩] sc pos) sc X.env _ (newList []) false (eval aS X.env) (some (assign (.Name x px) X.env))) _ _ s
 refine Iv (Jv (wpAny_comprehension_free (use:=some (assign (.Name x px) X.env)) (Q:=fun _ s'=>SP X pins D .next s') rfl hs hcl S.kind S.loc (bq (hi pins s σ H _ I h) fun v s1 h1=>bq h1 fun itv s2 h2=>?_)) (fun _ s' hq=>IP (IP hq)) fun _ _ e=>e);obtain⟨it,fp,tn,J,H2,e,I2,T,st2,f2,hR⟩:=h2;subst e;refine JH ?_
 have I3:aA X pins σ (upd H2 s2.heap.objs.size (.lst [])) { s2 with heap:=s2.heap.push { cls:=.type "list",dict:=none,data:=.seq ([]:List Value).toArray } } :=
  I2.laid (t':=s2.toks) (fun b u q=>Iw _ q) (Ix _) ⟨Jg _,[],0,.nil,IV _ rfl⟩
 have hfr:=I2.hok.fresh (Ix s2.heap.objs.size);obtain⟨W,⟨m0,w0⟩,turn⟩:=hR _ hfr
 have flt:∀ b∈fp,b<s2.heap.objs.size:=fun b hb=>by obtain⟨o,e,_⟩:=T.obj _ _ st2 b hb;exact II e
 generalize hs3:({ s2 with heap:=s2.heap.push { cls:=.type "list",dict:=none,data:=.seq ([]:List Value).toArray } }:Shared)=s3 at I3 ⊢
 have e3:s3.heap=s2.heap.push { cls:=.type "list",dict:=none,data:=.seq ([]:List Value).toArray }:=by rw[<-hs3]
 have sz3:s3.heap.objs.size=s2.heap.objs.size+1:=by rw[e3,Heap.size_push]
 have hf3:∀ b∈fp,kF X pins (upd H2 s2.heap.objs.size (.lst [])) b:=fun b hb=>⟨by rw[af (IW (flt b hb))];exact (f2 b hb).1,(f2 b hb).2⟩
 have flt3:∀ b∈fp,b<s3.heap.objs.size:=fun b hb=>by rw[sz3];exact Nat.lt_succ_of_lt (flt b hb)
 have st3:tn 0 s3.heap:=T.keep _ _ _ st2 fun b _ o e=>by rw[e3];exact Iw _ e
 refine wpAny_newFunctionEnv S.nocell (by intro y hy;simp at hy) (fun h4 hns4 hsb4=>?_) S.kind;have kp4:∀ b o,s3.heap.get? b=some o->h4.get? b=some o:=fun b o e=>hsb4.extBut b o (IW (II e)) (Iw _ e);have I4:=vp (h':=h4) I3 hso S q1 q3 hf3 flt3 (by simpa using hns4) kp4 (s3.toks+([]:List (Str×Value)).length);have st4:tn 0 h4:=T.keep _ _ _ st3 fun b _ o e=>kp4 b o e;generalize hC:s3.heap.objs.size=C at I4 hns4 hsb4 ⊢;obtain⟨hg,ht,he⟩:=hb cl C s3 (upd H2 s2.heap.objs.size (.lst [])) fp
 let Y:Cx:=ii X sc cl C N' s3 (upd H2 s2.heap.objs.size (.lst [])) fp
 have loop:∀ s5:Shared,s5={ s3 with heap:=h4,toks:=s3.toks+([]:List (Str×Value)).length }->codeAny (model X.prog X.w) X.A (.compLoop (.ListComp elt [⟨tg,aS,ifs,0⟩] sc pos) 0 (.ref it) (.ref s2.heap.objs.size) (compEnvC sc cl C X.env))
   (compPost (model X.prog X.w) X.A X.xe (some (assign (.Name x px) X.env)) (fun _ s'=>SP X pins D .next s') (.ref s2.heap.objs.size) C) s5:=by
  rintro s5 rfl
  have stat:∀ {H':Hp},(∀ b∈fp,H' b=none)->∀ b∈fp,kF Y [] H' b:=fun {H'} hn b hb=>by
   obtain⟨f0,f1,f2',f3,f4,f5⟩:=hf3 b hb;refine⟨hn b hb,?_,fun z=>?_,.inl hb,fun x c e=>f4 x c (q1 x c e),fun p hp=>absurd (show p∈([]:List (Addr×Obj)) from hp) (by simp)⟩
   ·show b≠C
    rw[<-hC];exact IW (flt3 b hb)
   ·have z:b∈jU X.stack:=z
    rcases IC.mp (I3.stkSub b z) with y | y
    ·exact f1 y
    ·exact f2' y
  refine eK (fun n s'=>∃ i σ' H',aA Y [] σ' H' s'/\tn i s'.heap/\(∀ b∈fp,H' b=none)/\W i n σ' H') ?_ m0 ⟨0,_,_,I4,st4,fun b hb=>(hf3 b hb).1,w0⟩;rintro n s6 ⟨i,σ6,H6,I6,st6,fr6,w6⟩;rcases turn i n σ6 H6 w6 with ⟨stop,qn⟩ | ⟨go,Nx,hN,step⟩
  ·refine bq (T.done Y rfl rfl rfl hc i [] s6 σ6 H6 _ I6 (stat fr6) st6 stop) fun r s7 ⟨hr,I7⟩=>?_
   subst hr;obtain⟨m,hn,_⟩:=id I7.loc;have freeC:H6 C=none:=I7.free;have J7:aA X pins σ H6 s7:=I3.call' (ch:=fp) (s':=s7) I7.os I7.base I7.hok I7.bare fun b hb=>⟨(hf3 b hb).2.2.2.1,(hf3 b hb).2.1,(hf3 b hb).2.2.2.2.1,(hf3 b hb).2.2.2.2.2⟩
   have hC3:∀ b o,s3.heap.get? b=some o->b≠C:=fun b o e=>by rw[<-hC];exact IW (II e)
   have hlC:X.env.locals≠C:=by obtain⟨m3,⟨o3,_,_,e3',_⟩,_⟩:=I3.loc;exact hC3 _ _ e3'
   have hcC:∀ y c,X.env.cells.lookup y=some c->c≠C:=fun y c e=>by obtain⟨v3,o3,e3',_⟩:=I3.cell y c e;exact hC3 _ _ e3'
   have hpC:∀ p∈X.pn++pins,p.1≠C:=fun p hp=>hC3 _ _ (I3.pin p hp).1;refine wpAny_assign_Name (tq (i:=ix) (v:=.ref s2.heap.objs.size) J7 hnd hix (.inl hx) rfl (fun s8 I8 ⟨a8,sb8,ha8⟩=>?_) (.inr hx))
   have ha8C:C≠a8:=by
    rcases ha8 with z | z
    ·rw[z];exact IJ hlC
    ·exact IJ (hcC _ _ z)
   refine⟨m,hn.sameBut sb8 ha8C,fun h' hsb=>?_⟩
   have I9:aA X pins (σ.set ix (some (.ref s2.heap.objs.size))) H6 { s8 with heap:=h' } :=
    I8.turned (it:=C) (t':=s8.toks) (fun b o hb e=>(hsb.2 b hb).trans e) freeC (IJ hlC) (.inr (by rw[<-hC];exact I3.sz)) hcC hpC
   exact⟨_,H6,I9,qn⟩
  ·refine bq (T.item Y rfl rfl rfl hc i [] s6 σ6 H6 _ I6 (stat fr6) st6 go) fun r s7 ⟨u,hr,h7⟩=>?_
   subst hr;refine bq h7 fun _ s8 ⟨x,H8,I8,r8,y8,st8,fr8⟩=>?_;have I8':=I8.pinned (stat fr8) (T.obj _ _ st8);refine bq (hg _ s8 σ6 H8 x u _ I8' r8 (step x H8 y8)) fun _ s9 ⟨σ9,H9,I9,q9⟩=>?_
   have again:∀ {s':Shared}{σ7:St}{H7:Hp},aA Y ([]++nj fp s8.heap) σ7 H7 s'->Nx σ7 H7->∃ m,m<n/\∃ i σ' H',aA Y [] σ' H' s'/\tn i s'.heap/\(∀ b∈fp,H' b=none)/\W i m σ' H':=fun {s' σ7 H7} I7 n7=>by
    obtain⟨m',hm,w7⟩:=hN σ7 H7 n7;refine⟨m',hm,i+1,σ7,H7,I7.unpinned,T.keep _ _ _ st8 fun b hb o e=>(I7.pin (b,o) (Je _ (Je _ (d8 hb e)))).1,fun b hb=>?_,w7⟩;obtain⟨o,e,d⟩:=T.obj _ _ st8 b hb;exact (I7.pin (b,o) (Je _ (Je _ (d8 hb e)))).2.1
   refine bq (ht _ s9 σ9 H9 _ I9 q9) fun ok s10 ⟨H10,I10,q10⟩=>?_
   cases ok with
   | false =>
    rw[Ir Iz]at q10 ⊢;exact again I10 q10
   | true =>
    rw[Iu rfl]at q10 ⊢;refine bq (he _ s10 σ9 H10 _ I10 q10) fun y s11 ⟨yv,H11,I11,ry,ys,hys,hlen,q11⟩=>?_;exact bq (oi (X:=Y) I11 hys hlen ry) fun _ s12 I12=>again I12 q11
 exact codeAny_compStart_list (loop _ rfl) (T.self _ 0 _ _ _ st4 (loop _ rfl))
section
variable {X:Cx}
def Fg (i j:Int):Prop:=0<j/\j<1152921504606846976
theorem AZ:k8 X (binaryOp .FloorDiv) (rI Fg fun i j=>.int (i/j)):=FK fun i j _ _ _ _ _ hc q=>by
 have h1:(0:Int)<j:=hc.1;have h2:j<1152921504606846976:=hc.2;refine floordiv_int (by omega) (by rw[Int.fdiv_eq_ediv_of_nonneg i (by omega)];exact q) (.inl (PyProof.noPylong_of_log2 ?_))
 have h0:j.natAbs≠0:=by omega
 have:j.natAbs.log2<60:=(Nat.log2_lt h0).mpr (by omega);omega
theorem Am:gR X (.builtin "isinstance") (fun xs H Q=>∃ x T t b,xs=[x,.ty T]/\lx X.K H x t/\PySem.W.kitOne X.K t (.type T)=some b/\Q (.bl b) H):=by
 intro pins s σ H xs us Q I r h;obtain⟨x,T,t,b,rfl,ty,e,q⟩:=h
 cases r with
 | cons rx r2 =>
  cases r2 with
  | cons rt r3 =>
   cases r3;cases rt;exact zu I rx ty e fun tk=>⟨.bl b,H,I.tok tk,rfl,q⟩
theorem oM {A:Around}{bs:List Bool}{its:List Value}(r:aU (bs.map V.bl) its) :
  TruthOf X.prog X.w A (fun i v=>its.toArray[i]? = some v) (fun i=>bs.getD i false):=by
 intro i v s Q E hv hq
 have hv':its[i]? = some v:=by simpa using hv
 have hi:i<its.length:=(IG.mp hv').1;have hl:=r.length;rw[Iq]at hl;obtain⟨u,hu,ru⟩:=r.get (i:=i) (x:=V.bl (bs[i]'(by omega))) (by rw[Ji,IM (by omega)];rfl);rw[hv']at hu;cases hu;cases ru
 have e:bs.getD i false=bs[i]'(by omega):=by simp[List.getD,IM (show i<bs.length by omega)]
 have hq':Q (bs.getD i false) s:=hq;rw[e]at hq';exact JG hq'
theorem zV (bs:List Bool):(List.range bs.length).all (fun i=>bs.getD i false)=bs.all id:=by
 have h:(List.range bs.length).map (fun i=>bs.getD i false)=bs:=by
  apply List.ext_getElem
  ·simp
  ·intro i h1 h2;simp[List.getD,IM h2]
 have e:(List.range bs.length).all (fun i=>bs.getD i false)=((List.range bs.length).map (fun i=>bs.getD i false)).all id:=by rw[List.all_map];rfl
 rw[e,h]
theorem zW (bs:List Bool):(List.range bs.length).any (fun i=>bs.getD i false)=bs.any id:=by
 have h:(List.range bs.length).map (fun i=>bs.getD i false)=bs:=by
  apply List.ext_getElem
  ·simp
  ·intro i h1 h2;simp[List.getD,IM h2]
 have e:(List.range bs.length).any (fun i=>bs.getD i false)=((List.range bs.length).map (fun i=>bs.getD i false)).any id:=by rw[List.any_map];rfl
 rw[e,h]
theorem sS {pins:List (Addr×Obj)}{σ:St}{H:Hp}{s:Shared}{A:Around}{E:Value->Shared->Prop}{p:Addr}{xs:List V}{its:List Value}{R:Value->Shared->Prop}(I:aA X pins σ H s)(hA:A.handled=none)(pl:PlainL s.heap p its.toArray)
  (h:∀ (I':Addr)(St:Nat->Heap->Prop)(s2:Shared),s2.heap.objs.size=s.heap.objs.size+1->I'=s.heap.objs.size->Walks X.prog X.w A I' [I',p] [I'] its.length (fun i v=>its.toArray[i]? = some v) St->St 0 s2.heap->(∀ b o,s.heap.get? b=some o->s2.heap.get? b=some o)->(∀ h' tk,(∀ b o,b∉[I']->s2.heap.get? b=some o->h'.get? b=some o)->aA X pins σ H { s2 with heap:=h',toks:=tk })->R (.ref I') s2) :
  wpAny (model X.prog X.w) A (pyIter (.ref p)) R E s:=by
 refine wpAny_pyIter_list pl.isList ?_
 have hlt:p<s.heap.objs.size:=by obtain⟨o,n,e,_⟩:=pl;exact II e
 have W:=Walks.list (prog:=X.prog) (w:=X.w) hA s.heap.objs.size p (IW hlt) its.toArray;rw[IS]at W;refine h _ _ _ (by rw[Heap.size_push]) rfl W ⟨⟨_,IV _ rfl,rfl,rfl⟩,pl.isList.at fun o e=>Iw _ e⟩ (fun b o e=>Iw _ e) fun h' tk kp=>?_;exact I.kept (t':=tk) fun b o e=>kp b o (by simpa using IW (II e)) (Iw _ e)
theorem zd (hc:X.calm=true):gR X (.builtin "all") (fun xs H Q=>∃ (p:Addr)(bs:List Bool),xs=[.ref p]/\bx X.K H p (bs.map V.bl)/\Q (.bl (bs.all id)) H):=by
 intro pins s σ H xs us Q I r h;obtain⟨p,bs,rfl,hq,q⟩:=h;obtain⟨u,rfl,rx⟩:=hZ r;cases rx;obtain⟨its,rv,pl,hz⟩:=I.list hq;have hl:=rv.length;rw[Iq]at hl;refine call_all_walk (sS (xs:=bs.map V.bl) I (I.ok.hd hc) pl fun I' St s2 hs2 hI W st kp fin=>?_);refine⟨I',_,_,_,_,St,_,rfl,W,st,oM rv,fun h' tk k=>⟨.bl _,H,fin h' tk k,rfl,?_⟩⟩;rw[<-hl,zV];exact q
theorem zf (hc:X.calm=true):gR X (.builtin "any") (fun xs H Q=>∃ (p:Addr)(bs:List Bool),xs=[.ref p]/\bx X.K H p (bs.map V.bl)/\Q (.bl (bs.any id)) H):=by
 intro pins s σ H xs us Q I r h;obtain⟨p,bs,rfl,hq,q⟩:=h;obtain⟨u,rfl,rx⟩:=hZ r;cases rx;obtain⟨its,rv,pl,hz⟩:=I.list hq;have hl:=rv.length;rw[Iq]at hl;refine call_any_walk (sS (xs:=bs.map V.bl) I (I.ok.hd hc) pl fun I' St s2 hs2 hI W st kp fin=>?_);refine⟨I',_,_,_,_,St,_,rfl,W,st,oM rv,fun h' tk k=>⟨.bl _,H,fin h' tk k,rfl,?_⟩⟩;rw[<-hl,zW];exact q
theorem lG:∀ {ns:List Int}{us:List Value},aU (ns.map V.int) us->IntsAre us ns
 | [],_,r=>by cases r;exact IntsAre.nil
 | n::ns,_,r=>by
  cases r with
  | cons r t=>obtain⟨tk,rfl⟩:=r;exact IntsAre.cons _ _ (lG t)
theorem uS:∀ {ns:List Int}{us:List Value},IntsAre us ns->aU (ns.map V.int) us:=by
 intro ns
 induction ns with
 | nil=>intro us h;cases h;exact .nil
 | cons n ns ih =>
  intro us h
  cases h with
  | cons _ _ t=>exact .cons ⟨_,rfl⟩ (ih t)
def df:List Int->List Int:=fun l=>l.mergeSort (fun a b=>decide (a<=b))
theorem wu {l m:List Int}(hp:m.Perm l)(hs:m.Pairwise (·<=·)):m=df l:=by
 have h1:(df l).Pairwise (fun a b=>decide (a<=b)=true):=List.pairwise_mergeSort (by intro a b c;simp;omega) (by intro a b;simp;omega) l;have h2:(df l).Pairwise (·<=·):=h1.imp (by simp);have h3:m.Perm (df l):=hp.trans (List.mergeSort_perm l _).symm;exact h3.eq_of_pairwise (fun a b _ _ h1 h2=>Int.le_antisymm h1 h2) hs h2
theorem yU:∀ {xs:List V}{us:List Value},xs.length=us.length->(∀ (i:Nat) x u,xs[i]? = some x->us[i]? = some u->aP x u)->aU xs us
 | [],[],_,_=>.nil
 | x::xs,u::us,hl,h=>.cons (h 0 x u rfl rfl) (yU (by simpa using hl) fun i y v e1 e2=>h (i+1) y v (by simpa using e1) (by simpa using e2))
 | [],_::_,hl,_=>by simp at hl
 | _::_,[],hl,_=>by simp at hl
theorem lz (hc:X.calm=true):gR X (.builtin "sorted") (fun xs H Q=>∃ (p:Addr)(kvs:List (ca×V))(ns:List Int),xs=[.ref p]/\H p=some (.dK kvs)/\kvs.map (·.1)=ns.map Sum.inl/\ns.length<64/\∀ l,H l=none->Q (.ref l) (upd H l (.lst ((df ns).map V.int)))):=by
 intro pins s σ H xs us Q I r h;obtain⟨p,kvs,ns,rfl,hH,hk,h64,q⟩:=h;obtain⟨u,rfl,rx⟩:=hZ r;cases rx;obtain⟨hz,lo,vs,rel,dd⟩:=(show bu X.prog X.w H s.heap p (.dK kvs) from I.hok p _ hH);obtain⟨ep,hat⟩:=dd.dictAt
 have hlk:kvs.length=ns.length:=by have:=J3 List.length hk;simpa using this
 have hlv:kvs.length=vs.length:=IU rel;refine PySem.Calls.call_function_entry kind_sorted plain_sorted entry_sorted (args_sorted1 _) ?_;unfold Builtin.«sorted»;refine Iv (m:=checkCount "sorted" 1 1 _) (IP ?_);refine Iv (PySem.W.kdu_collect (A:=X.A.in1) (PySem.W.kdl_dict (knd:=bt X.prog X.w) (kvs:=vs) (ep:=ep) lo) (I.ok.hd hc) hat (by rw[<-hlv];exact hz) fun h' tk acc kp hacc=>?_)
 have hal:acc.toList.length=vs.length:=by rw[Jj];exact hacc.1
 refine Iv (wpAny_newList ?_ (by rw[hal,<-hlv];exact hz))
 have rI:aU (ns.map V.int) acc.toList:=yU (by rw[Iq,hal];omega) fun i x v e1 e2=>by
  obtain⟨k,y,hx,hks⟩:=hacc.2 i v (by rw[<-Array.getElem?_toList];exact e2)
  have e3:(vs.map (·.1))[i]? = some k:=by rw[Ji,hx];rfl
  rw[<-rel.keys,hk,Ji]at e3;rw[Ji]at e1
  cases en:ns[i]? with
  | none=>rw[en]at e1;cases e1
  | some n =>
   rw[en]at e1 e3;have e1':V.int n=x:=IA e1;subst e1';have e4:(Sum.inl n:ca)=k:=IA e3;subst e4;rcases bI (k:=Sum.inl n) (v:=v) hks with ⟨j,t,ej,ev⟩ | ⟨j,t,ej,_⟩
   ·cases ej;exact⟨t,ev⟩
   ·cases ej
 have hoL:(h'.push (seqObj "list" acc.toList.toArray 0)).get? h'.objs.size=some (seqObj "list" acc.toList.toArray 0):=IV _ rfl;refine Iv (wpAny_holding (wpAny_call_entry slot_list_sort ⟨_,hoL,rfl⟩ entry_list_sort (list_sort_tree hoL (lG rI) (by rw[hal];omega) fun out ns' a1 a2 a3=>⟨_,rfl,?_⟩) (args_list_sort _)));refine IP ⟨_,rfl,?_⟩;have en:ns'=df ns:=wu a2 a3;subst en;obtain⟨e,he⟩:=sortedHeap_at (vs:=acc.toList) (out:=out) hoL;have I1:aA X pins σ H { s with heap:=h',toks:=tk }:=I.kept kp;refine⟨.ref h'.objs.size,_,I1.laid (t':=tk) (a:=h'.objs.size) (o:=.lst ((df ns).map V.int)) (fun b o e=>?_) (Ix _) ⟨?_,out.toList,e,uS a1,by simpa using he⟩,rfl,q _ (I1.hok.fresh (Ix _))⟩
 ·rw[sortedHeap_old (IW (II e)) (by rw[size_push'];exact Nat.lt_succ_of_lt (II e))]
  exact Iw _ e
 ·have:=a2.length_eq
  rw[Iq];omega
end
inductive Dt where
 | at (v:V)
 | sq (tup:Bool) (ds:List Dt)
def jb:V->Bool
 | .non=>true
 | .int _=>true
 | .str _=>true
 | _=>false
theorem kK {v:V}(h:jb v=true):kh v=true:=by cases v<;>first | rfl | cases h
theorem tU {x y:V}(hx:jb x=true)(hy:jb y=true):Az x y=true↔x=y:=by
 cases x<;>cases y<;>first | (cases hx;done) | (cases hy;done) | simp[Az]
def tK (K:PySem.W.Frag)(H:Hp)(t:Bool)(a:Addr)(xs:List V):Prop:=if t=true then c7 K H a xs else bx K H a xs
def RD (K:PySem.W.Frag)(H:Hp):Nat->V->Dt->Prop
 | 0,v,d=>jb v=true/\d=.at v
 | n+1,v,d=>(jb v=true/\d=.at v)\/∃ a t xs ds,v=.ref a/\d=.sq t ds/\tK K H t a xs/\Paired (RD K H n) xs ds
theorem RD.flat {K:PySem.W.Frag}{H:Hp}{v:V}(h:jb v=true):∀ n,RD K H n v (.at v)
 | 0=>⟨h,rfl⟩
 | _+1=>.inl ⟨h,rfl⟩
theorem RD.lst {K:PySem.W.Frag}{H:Hp}{a:Addr}{xs:List V}{ds:List Dt}{n:Nat}(h:bx K H a xs)(r:Paired (RD K H n) xs ds):RD K H (n+1) (.ref a) (.sq false ds) :=
 .inr ⟨a,false,xs,ds,rfl,rfl,by unfold tK;rw[Ir Iz];exact h,r⟩
theorem RD.tup {K:PySem.W.Frag}{H:Hp}{a:Addr}{xs:List V}{ds:List Dt}{n:Nat}(h:c7 K H a xs)(r:Paired (RD K H n) xs ds):RD K H (n+1) (.ref a) (.sq true ds) :=
 .inr ⟨a,true,xs,ds,rfl,rfl,by unfold tK;rw[Iu rfl];exact h,r⟩
section
variable {X:Cx}{pins:List (Addr×Obj)}{σ:St}{H:Hp}{s:Shared}
theorem RD.inj (I:aA X pins σ H s):∀ {n m:Nat}{v:V}{d e:Dt},RD X.K H n v d->RD X.K H m v e->d=e:=by
 intro n
 induction n with
 | zero =>
  intro m v d e h1 h2;obtain⟨f,rfl⟩:=h1
  cases m with
  | zero=>exact h2.2.symm
  | succ m =>
   rcases h2 with h2 | ⟨a,t,xs,ds,rfl,_⟩
   ·exact h2.2.symm
   ·cases f
 | succ n ih =>
  intro m v d e h1 h2;rcases h1 with h1 | ⟨a,t,xs,ds,rfl,rfl,q,r⟩
  ·obtain⟨f,rfl⟩:=h1
   cases m with
   | zero=>exact h2.2.symm
   | succ m =>
    rcases h2 with h2 | ⟨a,t,xs,ds,rfl,_⟩
    ·exact h2.2.symm
    ·cases f
  ·cases m with
   | zero=>cases h2.1
   | succ m =>
    rcases h2 with h2 | ⟨a',t',xs',ds',ea,rfl,q',r'⟩
    ·cases h2.1
    ·cases ea
     have pr:∀ {l:List V}{l1 l2:List Dt},Paired (RD X.K H n) l l1->Paired (RD X.K H m) l l2->l1=l2:=by
      intro l
      induction l with
      | nil=>intro l1 l2 p1 p2;cases p1;cases p2;rfl
      | cons z l ihl =>
       intro l1 l2 p1 p2
       cases p1 with
       | cons r1 t1 =>
        cases p2 with
        | cons r2 t2=>rw[ih r1 r2,ihl t1 t2]
     cases t with
     | false =>
      have q:bx X.K H a xs:=by unfold tK at q;rwa [Ir Iz]at q
      cases t' with
      | false =>
       have q':bx X.K H a xs':=by unfold tK at q';rwa [Ir Iz]at q'
       have:=I.list_inj q q';subst this;rw[pr r r']
      | true =>
       have q':c7 X.K H a xs':=by unfold tK at q';rwa [Iu rfl]at q'
       obtain⟨_,_,p1,_⟩:=I.list q;obtain⟨_,_,p2,_⟩:=I.tuple q';exact absurd rfl (SeqAt.ne_of_list_tuple p1.isList p2)
     | true =>
      have q:c7 X.K H a xs:=by unfold tK at q;rwa [Iu rfl]at q
      cases t' with
      | false =>
       have q':bx X.K H a xs':=by unfold tK at q';rwa [Ir Iz]at q'
       obtain⟨_,_,p1,_⟩:=I.tuple q;obtain⟨_,_,p2,_⟩:=I.list q';exact absurd rfl (SeqAt.ne_of_list_tuple p2.isList p1)
      | true =>
       have q':c7 X.K H a xs':=by unfold tK at q';rwa [Iu rfl]at q'
       have:=I.tuple_inj q q';subst this;rw[pr r r']
theorem Bq (I:aA X pins σ H s):∀ (n:Nat){A:Around}{l b:Addr}{d e:Dt},A.units+n<cLine->RD X.K H (n+1) (.ref l) d->RD X.K H (n+1) (.ref b) e ->
  (∀ {A:Around}{y x:V}{u v:Value}{d e:Dt},A.units+n<cLine+1->RD X.K H n y d->RD X.K H n x e->aP y u->aP x v->∃ k:Bool,(k=true↔d=e)/\SeqAt.EqAt A s u v k) ->
  ∃ k:Bool,(k=true↔d=e)/\SeqAt.RcAt A s (.ref l) (.ref b) k:=by
 intro n A l b d e hu h1 h2 ih;rcases h1 with h1 | ⟨a,t,xs,ds,ea,rfl,q,r⟩
 ·cases h1.1
 cases ea;rcases h2 with h2 | ⟨a',t',xs',ds',ea,rfl,q',r'⟩
 ·cases h2.1
 cases ea
 have pw:∀ {us us':List Value},aU xs us->aU xs' us'->∃ ks:Nat->Bool,(∀ j (h1:j<us.length) (h2:j<us'.length),SeqAt.EqAt A.in1 s us[j] us'[j] (ks j)) /\
   (∀ j d1 d2,ds[j]? = some d1->ds'[j]? = some d2->(ks j=true↔d1=d2)):=by
  intro us us' rv rv'
  have ex:∀ j:Nat,∃ k:Bool,(∀ (h1:j<us.length)(h2:j<us'.length),SeqAt.EqAt A.in1 s us[j] us'[j] k)/\(∀ d1 d2,ds[j]? = some d1->ds'[j]? = some d2->(k=true↔d1=d2)):=by
   intro j
   by_cases hj:j<us.length/\j<us'.length
   ·obtain⟨h1,h2⟩:=hj
    have l1:=rv.length;have l2:=rv'.length;have l3:=IU r;have l4:=IU r';have gx:xs[j]? = some xs[j]:=IM (by omega);have gx':xs'[j]? = some xs'[j]:=IM (by omega);obtain⟨u,eu,ru⟩:=rv.get gx;obtain⟨u',eu',ru'⟩:=rv'.get gx'
    have eu2:us[j]=u:=by rw[IM h1]at eu;exact IA eu
    have eu2':us'[j]=u':=by rw[IM h2]at eu';exact IA eu'
    have pget:∀ {m:Nat}{zs:List V}{es:List Dt}(j:Nat){z:V},Paired (RD X.K H m) zs es->zs[j]? = some z->∃ f,es[j]? = some f/\RD X.K H m z f:=by
     intro m zs
     induction zs with
     | nil=>intro es j z p hz;simp at hz
     | cons z0 zs ihz =>
      intro es j z p hz
      cases p with
      | cons p1 p2 =>
       cases j with
       | zero=>simp at hz;subst hz;exact⟨_,rfl,p1⟩
       | succ j=>obtain⟨f,e1,e2⟩:=ihz j p2 (by simpa using hz);exact⟨f,by simpa using e1,e2⟩
    obtain⟨f,ef,rf⟩:=pget j r gx;obtain⟨f',ef',rf'⟩:=pget j r' gx';obtain⟨k,hk,he⟩:=ih (A:=A.in1) (by show A.units+1+n<cLine+1;omega) rf rf' ru ru';refine⟨k,fun _ _=>by rw[eu2,eu2'];exact he,fun d1 d2 e1 e2=>?_⟩;rw[ef]at e1;rw[ef']at e2;cases e1;cases e2;exact hk
   ·refine⟨false,fun h1 h2=>absurd ⟨h1,h2⟩ hj,fun d1 d2 e1 e2=>?_⟩
    have l1:=rv.length;have l2:=rv'.length;have l3:=IU r;have l4:=IU r';have:=(IG.mp e1).1;have:=(IG.mp e2).1;exact absurd ⟨by omega,by omega⟩ hj
  exact⟨fun j=>Classical.choose (ex j),fun j h1 h2=>(Classical.choose_spec (ex j)).1 h1 h2,fun j=>(Classical.choose_spec (ex j)).2⟩
 have allEq:∀ (ks:Nat->Bool),(∀ j d1 d2,ds[j]? = some d1->ds'[j]? = some d2->(ks j=true↔d1=d2))->ds.length=ds'.length->((List.range ds.length).all ks=true↔ds=ds'):=by
  intro ks hk hl;rw[Ju];constructor
  ·intro h
   apply List.ext_getElem hl
   intro j h1 h2;exact (hk j _ _ (IM h1) (IM h2)).mp (h j (JE.mpr h1))
  ·rintro rfl j hj
   have h1:=JE.mp hj;exact (hk j _ _ (IM h1) (IM h1)).mpr rfl
 have l3:=IU r;have l4:=IU r'
 cases t with
 | false =>
  have q:bx X.K H l xs:=by unfold tK at q;rwa [Ir Iz]at q
  obtain⟨us,rv,p1,_⟩:=I.list q;have l1:=rv.length
  cases t' with
  | true =>
   have q':c7 X.K H b xs':=by unfold tK at q';rwa [Iu rfl]at q'
   obtain⟨us',rv',p2,_⟩:=I.tuple q';exact⟨false,by simp,SeqAt.RcAt.list_tuple p1.isList p2 (by omega)⟩
  | false =>
   have q':bx X.K H b xs':=by unfold tK at q';rwa [Ir Iz]at q'
   obtain⟨us',rv',p2,_⟩:=I.list q';have l2:=rv'.length
   by_cases hl:us.length=us'.length
   ·obtain⟨ks,he,hk⟩:=pw rv rv'
    refine⟨(List.range us.toArray.size).all ks,?_,SeqAt.RcAt.lists p1.isList p2.isList (by simpa using hl) (by omega) fun j h1 h2=>by simpa using he j (by simpa using h1) (by simpa using h2)⟩;rw[IS,show us.length=ds.length by omega,allEq ks hk (by omega)];constructor
    ·rintro rfl;rfl
    ·intro h;injection h
   ·refine⟨false,?_,SeqAt.RcAt.lists_lengths p1.isList p2.isList (by simpa using hl) (by omega)⟩
    constructor
    ·intro h;cases h
    ·intro h
     injection h with _ h;exact absurd (by rw[<-l1,l3,h,<-l4,l2]) hl
 | true =>
  have q:c7 X.K H l xs:=by unfold tK at q;rwa [Iu rfl]at q
  obtain⟨us,rv,p1,_⟩:=I.tuple q;have l1:=rv.length
  cases t' with
  | false =>
   have q':bx X.K H b xs':=by unfold tK at q';rwa [Ir Iz]at q'
   obtain⟨us',rv',p2,_⟩:=I.list q';exact⟨false,by simp,SeqAt.RcAt.tuple_list p1 p2.isList (by omega)⟩
  | true =>
   have q':c7 X.K H b xs':=by unfold tK at q';rwa [Iu rfl]at q'
   obtain⟨us',rv',p2,_⟩:=I.tuple q';have l2:=rv'.length;obtain⟨ks,he,hk⟩:=pw rv rv';refine⟨_,?_,SeqAt.RcAt.tuples (e:=ks) (show s.heap.IsTuple l us.toArray from p1) (show s.heap.IsTuple b us'.toArray from p2) (by omega) fun j h1 h2=>by simpa using he j (by simpa using h1) (by simpa using h2)⟩
   by_cases hl:us.length=us'.length
   ·rw[IS,IS,<-hl,Nat.min_self,beq_self_eq_true,Bool.and_true,show us.length=ds.length by omega,allEq ks hk (by omega)]
    constructor
    ·rintro rfl;rfl
    ·intro h;injection h
   ·have:(us.toArray.size == us'.toArray.size)=false:=by simpa using hl
    rw[this,Bool.and_false];constructor
    ·intro h;cases h
    ·intro h
     injection h with _ h;exact absurd (by rw[<-l1,l3,h,<-l4,l2]) hl
theorem Aw (I:aA X pins σ H s):∀ (n:Nat){A:Around}{y x:V}{u v:Value}{d e:Dt},A.units+n<cLine+1->RD X.K H n y d->RD X.K H n x e->aP y u->aP x v->∃ k:Bool,(k=true↔d=e)/\SeqAt.EqAt A s u v k:=by
 intro n
 have flatCase:∀ {A:Around}{y x:V}{u v:Value},jb y=true->jb x=true->aP y u->aP x v->∃ k:Bool,(k=true↔Dt.at y=Dt.at x)/\SeqAt.EqAt A s u v k:=by
  intro A y x u v fy fx ry rx;refine⟨Az y x,?_,Ax ry rx (kK fy) (kK fx)⟩;rw[tU fy fx];constructor
  ·rintro rfl;rfl
  ·intro h;injection h
 induction n with
 | zero =>
  intro A y x u v d e hu h1 h2 ry rx;obtain⟨f1,rfl⟩:=h1;obtain⟨f2,rfl⟩:=h2;exact flatCase f1 f2 ry rx
 | succ n ih =>
  intro A y x u v d e hu h1 h2 ry rx;rcases id h1 with ⟨f1,rfl⟩ | ⟨a,t,xs,ds,rfl,rfl,q,r⟩
  ·rcases id h2 with ⟨f2,rfl⟩ | ⟨a',t',xs',ds',rfl,rfl,q',r'⟩
   ·exact flatCase f1 f2 ry rx
   ·cases rx
    refine⟨false,by simp,?_⟩
    cases t' with
    | false =>
     have q':bx X.K H a' xs':=by unfold tK at q';rwa [Ir Iz]at q'
     obtain⟨_,_,p,_⟩:=I.list q'
     cases y with
     | non=>cases ry;exact SeqAt.EqAt.none_list p.isList (by omega)
     | int _=>obtain⟨tk,rfl⟩:=ry;exact SeqAt.EqAt.int_list _ _ p.isList (by omega)
     | str _=>obtain⟨tk,rfl⟩:=ry;exact SeqAt.EqAt.str_list _ _ p.isList (by omega)
     | _=>cases f1
    | true =>
     have q':c7 X.K H a' xs':=by unfold tK at q';rwa [Iu rfl]at q'
     obtain⟨_,_,p,_⟩:=I.tuple q'
     cases y with
     | non=>cases ry;exact SeqAt.EqAt.none_tuple p (by omega)
     | int _=>obtain⟨tk,rfl⟩:=ry;exact SeqAt.EqAt.int_tuple _ _ p (by omega)
     | str _=>obtain⟨tk,rfl⟩:=ry;exact SeqAt.EqAt.str_tuple _ _ p (by omega)
     | _=>cases f1
  ·cases ry
   rcases id h2 with ⟨f2,rfl⟩ | ⟨a',t',xs',ds',rfl,rfl,q',r'⟩
   ·refine⟨false,by simp,?_⟩
    cases t with
    | false =>
     have q:bx X.K H a xs:=by unfold tK at q;rwa [Ir Iz]at q
     obtain⟨_,_,p,_⟩:=I.list q
     cases x with
     | non=>cases rx;exact SeqAt.EqAt.list_none p.isList (by omega)
     | int _=>obtain⟨tk,rfl⟩:=rx;exact SeqAt.EqAt.list_int _ _ p.isList (by omega)
     | str _=>obtain⟨tk,rfl⟩:=rx;exact SeqAt.EqAt.list_str _ _ p.isList (by omega)
     | _=>cases f2
    | true =>
     have q:c7 X.K H a xs:=by unfold tK at q;rwa [Iu rfl]at q
     obtain⟨_,_,p,_⟩:=I.tuple q
     cases x with
     | non=>cases rx;exact SeqAt.EqAt.tuple_none p (by omega)
     | int _=>obtain⟨tk,rfl⟩:=rx;exact SeqAt.EqAt.tuple_int _ _ p (by omega)
     | str _=>obtain⟨tk,rfl⟩:=rx;exact SeqAt.EqAt.tuple_str _ _ p (by omega)
     | _=>cases f2
   ·cases rx
    by_cases hab:a=a'
    ·subst hab
     exact⟨true,by rw[RD.inj I h1 h2];simp,SeqAt.EqAt.same _⟩
    ·obtain⟨k,hk,hr⟩:=Bq I n (A:=A) (by omega) h1 h2 (fun hu'=>ih hu')
     exact⟨k,hk,.of_refs hab hr⟩
end
inductive HD (K:PySem.W.Frag) (n:Nat) (neg:Bool) (x y:V) (H:Hp) (Q:VK):Prop
 | mk (a b:Addr) (d e:Dt) (e1:x=.ref a) (e2:y=.ref b) (r1:RD K H (n+1) x d) (r2:RD K H (n+1) y e) (h:∀ k:Bool,(k=true↔d=e)->Q (.bl (if neg then !k else k)) H)
def GY (K:PySem.W.Frag)(n:Nat)(neg:Bool):R2:=fun x y H Q=>HD K n neg x y H Q
section
variable {X:Cx}
theorem EE (n:Nat)(hu:X.A.units+n<cLine):k8 X (compareOp .Eq) (GY X.K n false):=by
 intro pins s σ H x y v u Q I rx ry h;obtain⟨a,b,d,e,rfl,rfl,h1,h2,q⟩:=h;cases rx;cases ry;obtain⟨k,hk,hr⟩:=Bq I n (A:=X.A) hu h1 h2 (fun hu'=>Aw I n hu');exact hr _ _ _ _ ⟨.bl k,H,I,rfl,q k hk⟩
end
end L2
namespace Wz
open PySem L2
def d4 (c:Int):Int:=if c<0 then -c else c
theorem BZ (c:Int):0<=d4 c:=by unfold d4;split<;>omega
def eZ (ns:List Int)(k:Int):Int:=if k<(ns.length:Int) then ns.getD k.toNat 0 else 0
def uW (k c:Int):Int :=
 let left:=d4 c
 let number:=(k*(1+left*1234567891%2147483646)+left/2147483646)%2147483647
 if left%5=4 then number+997852516353 else number
def dk (l:List (Int×Int)):List (ca×V):=l.map fun p=>(Sum.inl p.1,V.int p.2)
def look:List (Int×Int)->Int->Option Int
 | [],_=>none
 | p::r,g=>if p.1=g then some p.2 else look r g
def put (l:List (Int×Int))(g m:Int):List (Int×Int):=if (l.any fun p=>decide (p.1=g))=true then l.map (fun p=>if p.1=g then (p.1,m) else p) else l++[(g,m)]
def wr (l:List (Int×Int))(g:Int):Int:=(look l g).getD g
def av (l:List (Int×Int)):List Int:=l.map (·.1)
def aW (l:List (Int×Int)):List Int:=(df (av l)).filter fun g=>decide (wr l g≠g)
def xm (l:List (Int×Int)):List (Int×Int):=(aW l).map fun g=>(g,wr l g)
theorem db:∀ (l:List (Int×Int))(g:Int),da (dk l) (Sum.inl g:ca)=(look l g).map V.int
 | [],_=>rfl
 | p::r,g=>by
  by_cases h:p.1=g
  ·have e:da (dk (p::r)) (Sum.inl g:ca)=some (V.int p.2):=jA (p:=(Sum.inl p.1,V.int p.2)) (r:=dk r) (by rw[h])
   rw[e];simp[look,h]
  ·have e:da (dk (p::r)) (Sum.inl g:ca)=da (dk r) (Sum.inl g):=jz (p:=(Sum.inl p.1,V.int p.2)) (r:=dk r) (fun z=>h (Sum.inl.inj z))
   rw[e,db r g];simp[look,h]
theorem DT (l:List (Int×Int))(g:Int):((dk l).any fun kv=>decide (kv.1=(Sum.inl g:ca)))=l.any fun p=>decide (p.1=g):=by
 unfold dk;rw[List.any_map]
 congr 1
 funext p
 simp[Function.comp]
theorem lV (l:List (Int×Int))(g m:Int):gj (dk l) (Sum.inl g:ca) (V.int m)=dk (put l g m):=by
 unfold gj put;rw[DT]
 by_cases h:(l.any fun p=>decide (p.1=g))=true
 ·rw[Iu h,Iu h]
  unfold dk;rw[Jo,Jo]
  apply JA
  intro p _;simp only[Function.comp]
  by_cases e:p.1=g
  ·rw[Iu (by rw[e]),Iu e]
  ·rw[Ir (fun z=>e (Sum.inl.inj z)),Ir e]
 ·rw[Ir h,Ir h]
  unfold dk;simp
theorem qm (l:List (Int×Int))(g:Int):(l.any fun p=>decide (p.1=g))=(look l g).isSome:=by
 induction l with
 | nil=>rfl
 | cons p r ih =>
  rw[JL,ih]
  show _=(if p.1=g then some p.2 else look r g).isSome
  by_cases h:p.1=g<;>simp[h]
theorem bN {l:List (Int×Int)}{g:Int}:(look l g).isSome=true↔g∈av l:=by
 rw[<-qm,List.any_eq_true];unfold av;simp
theorem AR (l:List (Int×Int))(g m h:Int):look (l.map (fun p=>if p.1=g then (p.1,m) else p)) h=if h=g then (look l g).map (fun _=>m) else look l h:=by
 induction l with
 | nil=>simp[look]
 | cons p r ih =>
  rw[IR]
  by_cases hp:p.1=g
  ·rw[Iu hp]
   show (if p.1=h then some m else look _ h)=_
   rw[ih]
   by_cases hh:h=g
   ·subst hh;simp[hp,look]
   ·have:¬ p.1=h:=fun z=>hh (z.symm.trans hp)
    simp[hh,this,look]
  ·rw[Ir hp]
   show (if p.1=h then some p.2 else look _ h)=_
   rw[ih]
   by_cases hh:h=g
   ·subst hh;simp[hp,look]
   ·simp[hh,look]
theorem vB (l r:List (Int×Int))(h:Int):look (l++r) h=(look l h).orElse fun _=>look r h:=by
 induction l with
 | nil=>rfl
 | cons p l ih =>
  show (if p.1=h then some p.2 else look (l++r) h)=_
  rw[ih]
  by_cases e:p.1=h<;>simp[look,e]
theorem dO (l:List (Int×Int))(g m h:Int):look (put l g m) h=if h=g then some m else look l h:=by
 unfold put;rw[qm]
 by_cases e:(look l g).isSome=true
 ·rw[Iu e,AR]
  obtain⟨v,hv⟩:=Jn.mp e
  by_cases hh:h=g
  ·simp[hh,hv]
  ·simp[hh]
 ·rw[Ir e,vB]
  have hn:look l g=none:=by simpa using e
  by_cases hh:h=g
  ·subst hh;simp[hn,look]
  ·have:¬ g=h:=fun z=>hh z.symm
   simp[hh,look,this]
theorem vw (l:List (Int×Int))(g m:Int):av (put l g m)=if g∈av l then av l else av l++[g]:=by
 unfold put;rw[qm]
 by_cases e:(look l g).isSome=true
 ·rw[Iu e,Iu (bN.mp e)]
  unfold av;rw[Jo]
  apply JA
  intro p _;simp only[Function.comp];split<;>rfl
 ·rw[Ir e,Ir (fun z=>e (bN.mpr z))]
  simp[av]
theorem uc (l:List (Int×Int))(g m:Int):(put l g m).length<=l.length+1:=by
 unfold put;split<;>simp
theorem fC:∀ {l m:List Int},l.Nodup->(∀ x∈l,x∈m)->l.length<=m.length
 | [],_,_,_=>Jg _
 | a::r,m,h,hs=>by
  obtain⟨h1,h2⟩:=Jk.mp h;have ha:a∈m:=hs a IB;have hl:(m.erase a).length=m.length-1:=List.length_erase_of_mem ha;have hpos:0<m.length:=List.length_pos_of_mem ha;have ih:=fC (l:=r) (m:=m.erase a) h2 fun x hx=>(List.mem_erase_of_ne (show x≠a from fun e=>h1 (by rw[<-e];exact hx))).mpr (hs x (Iy _ hx));rw[IX];omega
theorem sU {l:List Int}{x:Int}:x∈df l↔x∈l:=(List.mergeSort_perm l _).mem_iff
theorem mX (l:List Int):(df l).length=l.length:=(List.mergeSort_perm l _).length_eq
theorem Cp (l:List (Int×Int)):(dk l).map (·.1)=(av l).map Sum.inl:=by
 unfold dk av;rw[Jo,Jo];rfl
theorem xg (l:List (Int×Int)):(dk l).length=l.length:=by unfold dk;simp
def bb (P:Program)(w:World)(K:PySem.W.Frag)(mg:Str->Option Value)(base:Heap)(x:Str)(k:Nat)(ps:List Str)(sp:Sp):Prop :=
 ∃ (f:Addr)(fd:FuncData),aR P w K mg base c0 k f fd ps sp/\mg x=some (.ref f)/\PySem.W.keepIn K (.ref f)=true/\dE K fd ps []
theorem ba {X:Cx}{x:Str}{k:Nat}{ps:List Str}{sp:Sp}{e:Expr}{es:List Expr}{t:TA}{p pos:Pos}(C:bb X.prog X.w X.K X.mg X.base x k ps sp)(hr:bX k X.A)(hg:Gl X x)(ha:PA X (e::es) t)
  (hdb:(x == ("__debug__" : Str))=false:=by decide) (he:starEach (e::es) X.env=(false,eval e X.env)::starEach es X.env:=by rfl) (hpl:(backTo pos (starEach es X.env)).any (·.1)=false:=by rfl) :
  PE X (.Call (.Name x p) (e::es) [] pos) (BJ sp [] E0 t):=by
 obtain⟨f,fd,G,hm,hk,hb⟩:=C;exact yz G hr hg hm hk hb .nil c4 ha hdb he hpl
def oh (H:Hp)(l:Addr)(ps:List (Int×Int)):Prop:=∃ as:List Addr,H l=some (.lst (as.map V.ref))/\Paired (fun a (p:Int×Int)=>H a=some (.tup [.int p.1,.int p.2])) as ps
theorem oh.mono {H H':Hp}{l:Addr}{ps:List (Int×Int)}(r:oh H l ps)(s:ay H H'):oh H' l ps:=by
 obtain⟨as,h,p⟩:=r;exact⟨as,s _ _ h,Paired.mapP p fun a q z=>s _ _ z⟩
theorem ak {H:Hp}{l:Addr}{o:HO}(h:H l=none):ay H (upd H l o):=fun b u e=>by rw[af (ah e h)];exact e
theorem bz {H H':Hp}{l:Addr}{o:HO}(s:ay H H')(h:H l=none):ay H (upd H' l o):=fun b u e=>by rw[af (ah e h)];exact s b u e
theorem bY {α β:Type}{F:α->β->Prop}:∀ {l:List α}{m:List β}{i:Nat}{a:α},Paired F l m->l[i]? = some a->∃ b,m[i]? = some b/\F a b
 | _,_,_,_,.nil,h=>by simp at h
 | _,_,0,_,.cons r _,h=>by simp at h;subst h;exact⟨_,rfl,r⟩
 | _,_,i+1,a,.cons _ t,h=>by
  obtain⟨b,e1,e2⟩:=bY (i:=i) (a:=a) t (by simpa using h);exact⟨b,by simpa using e1,e2⟩
theorem bJ {α β:Type}{F:α->β->Prop}:∀ {l l':List α}{m m':List β},Paired F l m->Paired F l' m'->Paired F (l++l') (m++m')
 | _,_,_,_,.nil,s=>s
 | _,_,_,_,.cons r t,s=>.cons r (bJ t s)
theorem cf {α β:Type}{f:α->β}{l:List α}{i:Nat}{y:β}(h:(l.map f)[i]? = some y):∃ x,l[i]? = some x/\y=f x:=by
 rw[Ji]at h
 cases e:l[i]? with
 | none=>rw[e]at h;cases h
 | some x=>rw[e]at h;exact⟨x,rfl,(IA h).symm⟩
theorem tD {α:Type}{l:List α}{i:Nat}{x:α}(h:l[i]? = some x):l.take (i+1)=l.take i++[x]:=by
 rw[Jr,h];rfl
theorem iJ {te:TE}{a:Addr}{D:kE}{σ:St}{H:Hp}(h:te σ H fun y H2=>∃ ys,H2 a=some (.lst ys)/\ys.length<sizeLine/\D.nx σ (upd H2 a (.lst (ys++[y])))):C9 wF te a D σ H:=by
 unfold C9 wF;dsimp only;rw[Iu rfl];exact h
theorem xY {tt:TT}{te:TE}{a:Addr}{D:kE}{σ:St}{H:Hp}(h:tt σ H fun b H1=>if b=true then te σ H1 fun y H2=>∃ ys,H2 a=some (.lst ys)/\ys.length<sizeLine/\D.nx σ (upd H2 a (.lst (ys++[y]))) else D.nx σ H1):C9 tt te a D σ H:=h
inductive xR (K:PySem.W.Frag) (vs:List V) (H:Hp) (Q:VK) (E_:XK):Prop
 | mk (a:Addr) (ns:List Int) (k:Int) (_:vs=[.ref a,.int k]) (_:bx K H a (ns.map V.int)) (_:0<=k) (_:Q (.int (eZ ns k)) H)
inductive uN (vs:List V) (H:Hp) (Q:VK) (E_:XK):Prop
 | mk (c:Int) (_:vs=[.int c]) (_:Q (.int (d4 c)) H)
inductive yJ (vs:List V) (H:Hp) (Q:VK) (E_:XK):Prop
 | mk (c m b:Int) (_:vs=[.int c,.int m,.int b]) (_:(0<=m/\m<=1000)) (_:(0<b/\b<1073741824)) (_:∀ (l:Addr)(ds:List Int),H l=none->(∀ d∈ds,0<=d/\d<b)->(ds.length:Int)<=m->Q (.ref l) (upd H l (.lst (ds.map V.int))))
inductive Bz (K:PySem.W.Frag) (vs:List V) (H:Hp) (Q:VK) (E_:XK):Prop
 | mk (a:Addr) (ns:List Int) (st m b:Int) (_:vs=[.ref a,.int st,.int m,.int b]) (_:bx K H a (ns.map V.int)) (_:(0<=st/\st<=63)) (_:(0<=m/\m<=1000)) (_:(0<b/\b<1073741824)) (_:∀ (l:Addr)(H':Hp)(ds:List Int),H l=none->ay H H'->H' l=some (.lst (ds.map V.int))->(∀ d∈ds,0<=d/\d<b)->(ds.length:Int)<=m->Q (.ref l) H')
inductive py (vs:List V) (H:Hp) (Q:VK) (E_:XK):Prop
 | mk (k c:Int) (_:vs=[.int k,.int c]) (_:(0<=k/\k<=1000000)) (_:Q (.int (uW k c)) H)
inductive yQ (vs:List V) (H:Hp) (Q:VK) (E_:XK):Prop
 | mk (d:Addr) (w:List (Int×Int)) (_:vs=[.ref d]) (_:H d=some (.dK (dk w))) (_:w.length<64) (_:∀ (l':Addr)(H':Hp),H l'=none->ay H H'->H' l'=some (.lst ((aW w).map V.int))->Q (.ref l') H')
inductive yN (K:PySem.W.Frag) (vs:List V) (H:Hp) (Q:VK) (E_:XK):Prop
 | mk (a:Addr) (ns:List Int) (_:vs=[.ref a]) (_:bx K H a (ns.map V.int)) (_:ns.length<=63) (_:∀ H',Q (.bl true) H')
theorem xy {σ:St}{H:Hp}{Q:Option Int->Hp->Prop}(h:Q none H):yT σ H Q:=h
theorem oA {α β:Type}{F:α->β->Prop}:∀ {l:List α}{m:List β}(n:Nat),Paired F l m->Paired F (l.drop n) (m.drop n)
 | _,_,0,h=>h
 | _,_,_+1,.nil=>.nil
 | _,_,n+1,.cons _ t=>oA n t
theorem zD (w:List (Int×Int)):(xm w).length<=w.length:=by
 unfold xm aW;rw[Iq];refine IY (JO _ _) ?_;rw[mX];unfold av;rw[Iq];exact Ix _
theorem Ad (w:List (Int×Int)):(aW w).length<=w.length:=by have:=zD w;unfold xm at this;rwa [Iq]at this
end Wz
namespace L2
open PySem PySem.Spec PyProof.Rows
def Dg (g B:Heap)(e:Addr)(c:Value)(od:Option Addr)(fl:Value):Prop :=
 ∃ oe us T oT ts,g.get? e=some oe/\(oe.cls=c/\oe.dict=od)/\oe.data=.fields us/\us[1]? = some (.ref T)/\B.get? T=none/\T≠e/\g.get? T=some oT/\oT.data=.fields ts/\ts[3]? = some fl
def lv (B:Heap)(l:List Env)(e:Addr)(c:Value)(od:Option Addr)(g:Heap):Prop:=B.StaysIn g/\B.get? e=none/\g.FunFrames B l/\Dg g B e c od .none
def Dc (B:Heap)(l:List Env)(e:Addr)(c:Value)(od:Option Addr)(L:Addr)(g:Heap):Prop:=B.StaysIn g/\B.get? e=none/\g.FunFrames B l/\Dg g B e c od (rawInt L)
theorem Ca (f:Array Value->Array Value)(o:Obj):(Obj.mapFields f o).dict=o.dict:=by
 unfold Obj.mapFields;split<;>rfl
theorem lv.obj {B g:Heap}{l:List Env}{e:Addr}{c:Value}{od:Option Addr}(x:lv B l e c od g):∃ ob us,g.get? e=some ob/\ob.cls=c/\ob.dict=od/\ob.data=.fields us:=by
 obtain⟨_,_,_,oe,us,_,_,_,he,hc,hd,_⟩:=x;exact⟨oe,us,he,hc.1,hc.2,hd⟩
section
variable {M:Model}{A:Around}{E:Value->Shared->Prop}{s:Shared}{B:Heap}{env:Env}{outer:List Env}{L e:Addr}{od:Option Addr}{c:Value}
def Gi (g g':Heap):Prop:=∀ b o,g.get? b=some o->(∀ us,o.data≠.fields us)->∃ sl,g'.get? b=some { o with slots:=sl }
theorem Av {oe:Obj}{us:Array Value}{head:Value}{hn:Bool}{Q:Unit->Shared->Prop}(fr:A.frames=some (env::outer))(hl:s.heap.FunFrames B (env::outer))(hf:env.frame=some L)
  (he:s.heap.get? e=some oe) (hk:B.StaysIn s.heap) (hb:B.get? e=none) (hd:oe.data=.fields us) (h1:1<us.size)
  (h:∀ g,B.StaysIn g->g.FunFrames B (env::outer)->Dg g B e oe.cls oe.dict (rawInt L)->Gi s.heap g->Q () { s with heap:=g }) :
  wpAny M A (do let a <-frameOf env;let pl <-entryPlaceOf L hn;let b <-EntryCells.newEntry head a .none (rawInt L) .none pl;setField (.ref e) 1 b) Q E s:=by
 have hne:e∉(env::outer).filterMap (·.frame):=fun z=>by
  obtain⟨_,o,ho,nf⟩:=hl.mem z;rw[he]at ho;cases ho;exact nf us hd
 refine Iv (wpAny_frameOf_fun fr hl hf fun g1 sl1=>Iv (wpAny_entryPlaceOf fun pl hpl=>?_));unfold EntryCells.newEntry newFields;refine Iv (JH ?_ (hpl.sizeOk5 _ _ _ _ _));have e1:g1.get? e=some oe:=(sl1.2.1 e hne).trans he;have k1:B.StaysIn g1:=fun b o q=>(sl1.2.1 b fun z=>by rw[(hl.mem z).1]at q;cases q).trans (hk b o q);generalize hob:({ cls:=.type "traceback",dict:=none,data:=.fields ([head,.ref L,.none,rawInt L,.none]++(if pl.isEmpty then List.replicate 6 Value.none else pl)).toArray }:Obj)=ob
 have obd:ob.data=.fields ([head,.ref L,.none,rawInt L,.none]++(if pl.isEmpty then List.replicate 6 Value.none else pl)).toArray:=by rw[<-hob]
 have e2:=Iw (h:=g1) ob e1;refine wpAny_setField e2 hd h1 ?_;have ne:g1.objs.size≠e:=Nat.ne_of_gt (II e1);have d3:=Obj.data_mapFields hd (·.setIfInBounds 1 (Value.ref g1.objs.size));have e3:=Heap.get?_update_self (Obj.mapFields (·.setIfInBounds 1 (Value.ref g1.objs.size))) e2 (Obj.isFreed_of_fields d3)
 have keep:∀ b o,b≠e->g1.get? b=some o->((g1.push ob).update e (Obj.mapFields (·.setIfInBounds 1 (Value.ref g1.objs.size)))).get? b=some o:=fun b o n q=>by
  rw[JJ _ _ (IJ n)];exact Iw _ q
 have nr:∀ b o,s.heap.get? b=some o->(∀ vs,o.data≠.fields vs)->b≠e:=fun b o q nf z=>by
  rw[z,he]at q;cases q;exact nf us hd
 refine h _ (fun b o q=>keep b o (fun z=>by rw[z,hb]at q;cases q) (k1 b o q)) (hl.of_keeps fun b o q nf=>?_) ?_ fun b o q nf=>?_
 ·obtain⟨sl,z⟩:=sl1.2.2 b o q
  exact⟨_,keep b _ (nr b o q nf) z,rfl⟩
 ·refine⟨_,_,g1.objs.size,ob,_,e3,⟨Obj.cls_mapFields _ _,Ca _ _⟩,d3,by simp[h1],k1.fresh,ne,?_,obd,by first | (simp;done) | (rcases hpl with rfl | ⟨_,_,_,_,_,_,_,rfl⟩<;>simp)⟩
  rw[JJ _ _ (IJ ne)];exact IV g1 (by rw[<-hob];rfl)
 ·obtain⟨sl,z⟩:=sl1.2.2 b o q
  exact⟨sl,keep b _ (nr b o q nf) z⟩
theorem vR {oe:Obj}{us:Array Value}{Q:Unit->Shared->Prop}(fr:A.frames=some (env::outer))(hl:s.heap.FunFrames B (env::outer))(hf:env.frame=some L)
  (he:s.heap.get? e=some oe) (hk:B.StaysIn s.heap) (hb:B.get? e=none) (hd:oe.data=.fields us) (h1:us[1]? = some .none)
  (h:∀ g,B.StaysIn g->g.FunFrames B (env::outer)->Dg g B e oe.cls oe.dict (rawInt L)->Gi s.heap g->Q () { s with heap:=g }):wpAny M A (noteFrame (.ref e) env) Q E s:=by
 unfold noteFrame;simp only[hf];refine Iv (Ke he hd h1 ?_);rw[Ir (by decide)];exact Av fr hl hf he hk hb hd (J4.mp h1).1 h
theorem qA {Q:Unit->Shared->Prop}(fr:A.frames=some (env::outer))(hl:s.heap.FunFrames B (env::outer))(hf:env.frame=some L)(ht:Dg s.heap B e c od .none)(hk:B.StaysIn s.heap)(hb:B.get? e=none)
  (h:∀ g,B.StaysIn g->g.FunFrames B (env::outer)->Dg g B e c od (rawInt L)->Gi s.heap g->Q () { s with heap:=g }):wpAny M A (noteFrame (.ref e) env) Q E s:=by
 obtain⟨oe,us,T,oT,ts,he,⟨rfl,rfl⟩,hd,h1,nT,ne,hT,dT,h3⟩:=ht;unfold noteFrame;simp only[hf];refine Iv (Ke he hd h1 ?_);rw[Iu (show (Value.ref T != Value.none)=true by simp)];refine Iv (Ke hT dT h3 ?_);rw[Ir (show ¬((Value.none == rawInt L)=true) by simp[rawInt])];refine Iv (wpAny_setField hT dT (J4.mp h3).1 ?_);have ot:∀ b,b≠T->(s.heap.update T (Obj.mapFields (·.setIfInBounds 3 Value.none))).get? b=s.heap.get? b:=fun b z=>JJ _ _ (IJ z)
 have nr:∀ b o,s.heap.get? b=some o->(∀ vs,o.data≠.fields vs)->b≠T:=fun b o q nf z=>by
  rw[z,hT]at q;cases q;exact nf ts dT
 refine Av fr (hl.of_keeps fun b o q nf=>⟨o,(ot b (nr b o q nf)).trans q,rfl⟩) hf ((ot e (IJ ne)).trans he) (fun b o q=>(ot b fun z=>by rw[z,nT]at q;cases q).trans (hk b o q)) hb hd (J4.mp h1).1 fun g a1 a2 a3 a4=>h g a1 a2 a3 fun b o q nf=>?_;exact a4 b o ((ot b (nr b o q nf)).trans q) nf
theorem pc {l:List Env}{fl:Value}{Q:Unit->Shared->Prop}(hk:B.StaysIn s.heap)(hl:s.heap.FunFrames B l)(ht:Dg s.heap B e c od fl)
  (h:∀ g,B.StaysIn g->g.FunFrames B l->Dg g B e c od .none->s.heap.UpToSlots g->Q () { s with heap:=g }):wpAny M A (setFlight (.ref e) none) Q E s:=by
 obtain⟨oe,us,T,oT,ts,he,hc,hd,h1,nT,ne,hT,dT,h3⟩:=ht;have z3:3<ts.size:=(J4.mp h3).1;have ot:∀ b,b≠T->(s.heap.update T (Obj.mapFields (·.setIfInBounds 3 ((none:Option Addr).elim Value.none fun f=>rawInt f)))).get? b=s.heap.get? b:=fun b z=>JJ _ _ (IJ z)
 have nr:∀ b o,s.heap.get? b=some o->(∀ vs,o.data≠.fields vs)->b≠T:=fun b o q nf z=>by
  rw[z,hT]at q;cases q;exact nf ts dT
 unfold setFlight;refine Iv (Ke he hd h1 ?_);rw[Iu (show (Value.ref T != Value.none)=true by simp)];refine wpAny_setField hT dT z3 (h _ (fun b o q=>(ot b fun z=>by rw[z,nT]at q;cases q).trans (hk b o q)) (hl.of_keeps fun b o q nf=>⟨o,(ot b (nr b o q nf)).trans q,rfl⟩) ?_ fun b o q nf=>⟨o.slots,(ot b (nr b o q nf)).trans q⟩);exact⟨oe,us,T,_,_,(ot e (IJ ne)).trans he,hc,hd,h1,nT,ne,Heap.get?_update_self _ hT (Obj.isFreed_of_fields (Obj.data_mapFields dT _)),Obj.data_mapFields dT _,by simp[z3]⟩
theorem Br {g g' g'':Heap}(a:Gi g g')(b:g'.UpToSlots g''):g.UpToSlots g'':=fun x o q nf=>by
 obtain⟨sl,z⟩:=a x o q nf;obtain⟨sl2,z2⟩:=b x _ z nf;exact⟨sl2,z2⟩
theorem t9 {oe:Obj}{us:Array Value}{Q:Unit->Shared->Prop}(fr:A.frames=some (env::outer))(hf:env.frame=some L)(hk:B.StaysIn s.heap)(hl:s.heap.FunFrames B (env::outer))
  (he:s.heap.get? e=some oe) (hb:B.get? e=none) (hd:oe.data=.fields us) (h1:us[1]? = some .none)
  (hq:∀ g,lv B outer e oe.cls oe.dict g->s.heap.UpToSlots g->Q () { s with heap:=g }):wpAny M A (leaving env (.ref e)) Q E s:=by
 unfold leaving;refine Iv (vR fr hl hf he hk hb hd h1 fun g a1 a2 a3 a4=>?_);exact pc (s:={ s with heap:=g }) a1 a2 a3 fun g2 b1 b2 b3 b4=>hq g2 ⟨b1,hb,b2.2.2,b3⟩ (Br a4 b4)
theorem xf {Q:Unit->Shared->Prop}(fr:A.frames=some (env::outer))(hf:env.frame=some L)(fl:lv B (env::outer) e c od s.heap)
  (hq:∀ g,lv B outer e c od g->s.heap.UpToSlots g->Q () { s with heap:=g }):wpAny M A (leaving env (.ref e)) Q E s:=by
 obtain⟨f1,f2,f3,f4⟩:=fl;unfold leaving;refine Iv (qA fr f3 hf f4 f1 f2 fun g a1 a2 a3 a4=>?_);exact pc (s:={ s with heap:=g }) a1 a2 a3 fun g2 b1 b2 b3 b4=>hq g2 ⟨b1,f2,b2.2.2,b3⟩ (Br a4 b4)
theorem zA {Q:Unit->Shared->Prop}(fr:A.frames=some (env::outer))(hf:env.frame=some L)(fl:lv B (env::outer) e c od s.heap)
  (hq:∀ g,Dc B (env::outer) e c od L g->s.heap.UpToSlots g->Q () { s with heap:=g }):wpAny M A (noteFrame (.ref e) env) Q E s:=by
 obtain⟨f1,f2,f3,f4⟩:=fl;exact qA fr f3 hf f4 f1 f2 fun g a1 a2 a3 a4=>hq g ⟨a1,f2,a2,a3⟩ a4
theorem Em {l:List Env}{Q:Unit->Shared->Prop}(hh:Dc B l e c od L s.heap)(hq:∀ g,lv B l e c od g->s.heap.UpToSlots g->Q () { s with heap:=g }):wpAny M A (setFlight (.ref e) none) Q E s:=by
 obtain⟨f1,f2,f3,f4⟩:=hh;exact pc f1 f3 f4 fun g a1 a2 a3 a4=>hq g ⟨a1,f2,a2,a3⟩ a4
theorem t8 {l:List Env}{Q:Unit->Shared->Prop}(hh:lv B l e c od s.heap)(hq:∀ g,lv B l e c od g->s.heap.UpToSlots g->Q () { s with heap:=g }):wpAny M A (setFlight (.ref e) none) Q E s:=by
 obtain⟨f1,f2,f3,f4⟩:=hh;exact pc f1 f3 f4 fun g a1 a2 a3 a4=>hq g ⟨a1,f2,a2,a3⟩ a4
end
abbrev wH:List Value:=[.type "ValueError",.type "Exception",.type "BaseException",.type "object"]
def exOb (C t:Addr)(od:Option Addr):Obj:={ cls:=.ref C,dict:=od,data:=.fields #[.ref t,.none,.none,.none,.bool false,.none] }
def gy:List Value->Bool
 | .ref _::r=>gy r
 | l=>l == wH
theorem oE (self:Value):∀ {l:List Value},gy l=true->refuseLoop self "__setattr__" l=pure ()
 | .ref c::r,e=>by rw[refuseLoop_ref];exact oE self (l:=r) e
 | [],e=>by cases e
 | .type a::r,e=>by rw[show (.type a::r:List Value)=wH from Ka.mp e];exact PySem.F.store_ValueError.passes self
 | .none::_,e=>by simp[gy,wH]at e
 | .bool _::_,e=>by simp[gy,wH]at e
 | .int _ _::_,e=>by simp[gy,wH]at e
 | .str _ _::_,e=>by simp[gy,wH]at e
 | .bytes _ _::_,e=>by simp[gy,wH]at e
 | .float _ _::_,e=>by simp[gy,wH]at e
 | .builtin _::_,e=>by simp[gy,wH]at e
 | .ellipsis::_,e=>by simp[gy,wH]at e
 | .notImplemented::_,e=>by simp[gy,wH]at e
def gI (K:PySem.W.Frag)(C fI:Addr):Bool:=match K.lookup C with
 | some ⟨.type "type",_,.cls cd,sl⟩=>(match cd.mro,sl.toList with
  | .ref D::bm,[_,_,_,_,some (.builtin n),_]=>D == C&&n == "ValueError.__new__"&&!cd.hasDel&&PySem.W.tailIn K wH bm&&PySem.W.nsOkIn K cd.ns&&PySem.W.nsIn K cd.ns "__init__" == some (some (.ref fI))
  | _,_=>false)
 | _=>false
theorem xz {K:PySem.W.Frag}{h:Heap}{N:Addr}{mg:Str->Option Value}{n:Str}{v:Value}(X:K.In h)(G:h.Ns N mg)(e:PySem.W.nsIn K N n=some (some v)):mg n=some v:=by
 obtain⟨o,es,ep,ho,hd,hk,hf⟩:=G;unfold PySem.W.nsIn at e;split at e
 ·rename_i oc od es2 n2 sl hl
  have:=X _ _ hl;rw[ho]at this;cases this;cases hd;split at e
  ·rename_i en he
   cases e;rw[<-hf n];unfold nsFind findBy;rw[<-Array.find?_toList,he];rfl
  ·split at e<;>cases e
 ·cases e
theorem vk {K:PySem.W.Frag}{h:Heap}{C fI:Addr}(X:K.In h)(q:gI K C fI=true) :
  ∃ bm N nm qn bs hdct sn sub ab col dd k0 k1 k2 k3 k5 mN,h.get? C=some (excClassObj nm qn C N bs bm hdct sn sub ab col dd k0 k1 k2 k3 k5 "ValueError.__new__")/\h.Ns N mN/\mN "__init__" = some (.ref fI)/\OwnTail h wH bm:=by
 unfold gI at q;split at q
 ·rename_i dd cd sl ho
  split at q
  ·rename_i D bm k0 k1 k2 k3 n k5 hm hs
   simp only[JD,Ka,Bool.not_eq_true']at q;obtain⟨⟨⟨⟨⟨rfl,rfl⟩,hdel⟩,ht⟩,hok⟩,hni⟩:=q;obtain⟨nm,bs,mro,ns,qn,hd,sn,sub,ab,col,del⟩:=cd;dsimp only at hm hdel hok hni;subst hm hdel
   have hsl:sl = #[k0,k1,k2,k3,some (.builtin "ValueError.__new__"),k5]:=by
    obtain⟨l⟩:=sl;simp only at hs;rw[hs]
   subst hsl;have G:h.Ns ns _:=.of_isNs (PySem.W.isNs_of_in X hok);exact⟨bm,ns,nm,qn,bs,hd,sn,sub,ab,col,dd,k0,k1,k2,k3,k5,_,X _ _ ho,G,xz X G hni,PySem.W.tail_of_in X ht⟩
  ·cases q
 ·cases q
structure Ge (K:PySem.W.Frag)(C:Addr)(f:Str):Prop where
 ga:PySem.W.findIn K (.ref C) "__getattribute__" = some (some (.builtin "BaseException.__getattribute__"))
 gh:PySem.W.findIn K (.ref C) "__getattr__" = some none
 sa:PySem.W.findIn K (.ref C) "__setattr__" = some (some (.builtin "object.__setattr__"))
 na:PySem.W.findIn K (.ref C) f=some none
 hd:PySem.W.hasDictIn K C=true
 mb:PySem.W.mroIn K C (.type "BaseException")=some true
 mo:PySem.W.mroIn K C (.type "object")=some true
 ov:((PySem.W.clsIn K C).any fun cd=>gy cd.mro)=true
section
variable {prog:Program}{w:World}{A:Around}{E:Value->Shared->Prop}{s:Shared}{K:PySem.W.Frag}{x dx C:Addr}{mA:Str->Option Value}{f:Str}{v:Value}
theorem Ez {t:Addr}{Q:Unit->Shared->Prop}(X:K.In s.heap)(c:Ge K C f)(hx:s.heap.get? x=some (exOb C t none))
  (h:∀ h' tk,h'.get? x=some (exOb C t (some s.heap.objs.size))->h'.Ns1 s.heap.objs.size (fun y=>if y=f then some v else none)->(∀ b o,b≠x->s.heap.get? b=some o->h'.get? b=some o)->Q () { s with heap:=h',toks:=tk }) :
  wpAny (model prog w) A (setAttr (.ref x) f v) Q E s:=by
 have J:PySem.W.InstAt s.heap x (exOb C t none) C none:=⟨hx,rfl,rfl,trivial⟩;have SF:=PySem.F.store_ValueError;obtain⟨cd,hcd,ho⟩:=PySem.W.any_some c.ov;obtain⟨cd',hcd',hd'⟩:=PySem.W.any_some c.hd
 have e0:cd'=cd:=by rw[hcd]at hcd';exact (IA hcd').symm
 subst e0;have L0:=J.type (M:=model prog w);have sub:PySem.W.Looks (model prog w) s.heap (isInstance (.ref x) (.type "object")) true:=L0.andThen (PySem.W.looks_mroIn X c.mo);have hm:PySem.W.Looks (model prog w) s.heap (mroOf (.ref C)) cd'.mro:=(PySem.W.looks_clsIn X hcd).andThen .now;refine PySem.W.set_plain X J c.sa ?_;refine codeAny_call_builtin SF.slot.plain SF.entry (@PySem.W.check_slot (model prog w) _ _ { s with toks:=s.toks+1 } "object.__setattr__" "object" "__setattr__" (.ref x) [.str f s.toks,v] [] _ SF.kind SF.split sub (SF.args (.ref x) (.str f s.toks) v) ?_);rw[PySem.W.osa_eq,refuse_eq];refine Iv (Iv (L0 _ _ _ _ (fun _ _ e=>e) (Iv (hm _ _ _ _ (fun _ _ e=>e) ?_))));rw[oE _ ho];refine IP (Iv (L0 _ _ _ _ (fun _ _ e=>e) (Iv (PySem.W.looks_findIn X c.na _ _ _ _ (fun _ _ e=>e) (Iv (IP ?_))))));refine Iv (IP (Iv (Iv (wpAny_loadPart hx (Iv (PySem.W.Looks.here (s:={ s with toks:=s.toks+1 }) (PySem.W.looks_clsIn X hcd) ?_))))));rw[hd'];rw[Ir (by decide)];have hxs:x≠s.heap.objs.size:=IW (II hx);have hx1:(s.heap.push { cls:=.type "dict",data:=.dict #[] }).get? x=some (exOb C t none):=Iw _ hx
 show wpAny (model prog w) A.in1 (alloc { cls:=.type "dict",data:=.dict #[] } >>= fun dA=>(update x fun o=>{ cls:=o.cls,dict:=some dA,data:=o.data,slots:=o.slots }) >>= fun _=>dictMade (Value.ref C) x dA) _ _ _
 refine Iv (wpAny_alloc' (Iv (wpAny_update' hx1 (IP ?_))));generalize hg:((s.heap.push { cls:=.type "dict",data:=.dict #[] }).update x fun o=>{ cls:=o.cls,dict:=some s.heap.objs.size,data:=o.data,slots:=o.slots })=g1
 have hgd:g1.get? s.heap.objs.size=some { cls:=.type "dict",data:=.dict #[] }:=by
  rw[<-hg,Heap.get?_update_ne _ _ _ _ hxs.symm];exact Heap.get?_push_at rfl rfl
 have hgx:g1.get? x=some (exOb C t (some s.heap.objs.size)):=by rw[<-hg];exact Heap.get?_update_self _ hx1 rfl
 have hgo:∀ b o,b≠x->s.heap.get? b=some o->g1.get? b=some o:=fun b o n q=>by rw[<-hg,Heap.get?_update_ne _ _ _ _ n];exact Iw _ q
 have hnd:g1.Ns s.heap.objs.size (fun _=>none):=⟨_,#[],_,hgd,rfl,fun e he=>absurd he (by simp),fun _=>rfl⟩
 show wpAny _ _ (Builtin.ObjectAttr.storeInDict s.heap.objs.size (.str f s.toks) f v) _ _ _
 unfold Builtin.ObjectAttr.storeInDict Builtin.ObjectAttr.newKeyGuard;refine Iv (IP (Iv (wpAny_nsSet1 (Heap.Ns1.of_empty hnd) fun h' hn2 hs2=>?_)));obtain⟨oD,esD,epD,hoD,hdD,hcD⟩:=hn2.count (PySem.Within.cons f v PySem.Within.nil);refine Iv (wpAny_lookBehind hoD (by rw[hdD];exact pastItsLine_dict (IY hcD (by rw[IX,List.length_nil,JQ];omega))) ?_);refine IP (h h' _ ((hs2.2 x hxs).trans hgx) hn2 fun b o n q=>?_);exact (hs2.2 b (IW (II q))).trans (hgo b o n q)
theorem AW {t fI:Addr}{u:Value}{Q:Value->Shared->Prop}(X:K.In s.heap)(c:gI K C fI=true)(hx:s.heap.get? x=some (exOb C t none))
  (h:∀ h' t',h'.get? x=some (exOb C t' none)->(∀ b o,b≠x->s.heap.get? b=some o->h'.get? b=some o)->Q .none { s with heap:=h' }) :
  wpAny (model prog w) A (call (.builtin "ValueError.__init__") [.ref x,u]) Q E s:=by
 have F:=J5;obtain⟨bm,N,nm,qn,bs,hdct,sn,sub,ab,col,dd,k0,k1,k2,k3,k5,mN,hC,hN,hni,T⟩:=vk X c;obtain⟨hp,g,d,tk,os⟩:=s;refine wpAny_call (codeAny_call_builtin F.init.plain F.initEntry (wpAny_check_init_subT F T hC hx rfl ?_));unfold Builtin.«BaseException.__init__»;dsimp only;rw[Ir (by simp)];unfold newTuple Builtin.BaseException.bexcPut;have hx1:=Iw (h:=hp) { cls:=.type "tuple",data:=.seq #[u] } hx;refine Iv (JH (Iv (Iv (Ke hx1 rfl rfl (Iv (wpAny_setField hx1 rfl (by show 0<6;decide) ?_))))) (by size_fits));refine wpAny_letGo (IP (h _ hp.objs.size ?_ fun b o n q=>?_))
 ·exact Heap.get?_update_self _ hx1 rfl
 ·rw[JJ _ _ (IJ n)];exact Iw _ q
end
end L2
namespace PySem
open Sem (wp)
section
variable {prog:Program}{w:World}{A:Around}{E:Value->Shared->Prop}{h:Heap}{g:Array GenState}{d:Drawn}{t:Nat}{os:OsState}
variable {nm q:Str}{C N:Addr}{bs bm bmB:List Value}{hdct:Bool}{sn:List Str}{sub:List Value}{ab:Bool}{col:Option Bool}{dd:Option Addr}{k0 k1 k2 k3 k5:Option Value}{B newId initId:String}
theorem mj (F:ExcBaseFacts B newId initId bmB)(T:OwnTail h bmB bm){mN:Str->Option Value}{rest:List Value}{fI:Addr}{oI:Obj}{Q:Fin->Shared->Prop}
  (hC:h.get? C=some (excClassObj nm q C N bs bm hdct sn sub ab col dd k0 k1 k2 k3 k5 newId)) (hn:h.Ns N mN) (hi:mN "__init__" = some (.ref fI)) (hfI:h.get? fI=some oI) (hfc:oI.cls=.type "function")
  (hq:∀ h' e,Heap.MadeExcOf h h' e (.ref C) rest->wpAny (model prog w) A (call (.ref fI) (.ref e::rest)) (fun r s'=>r=.none/\Q (.done (.ret (.ref e))) s') E ⟨h',g,d,t,os⟩) (hrest:rest.length<=sizeLine) :
  wpAny (model prog w) A (Builtin.«type.__call__» ⟨.ref C::rest,[]⟩) Q E ⟨h,g,d,t,os⟩:=by
 repeat (first | with_reducible refine Kf hC ?_ | with_reducible refine wpAny_madeBy_exc hC ?_ | wp_step)
 refine codeAny_call_builtin_code (Code.quiet_builtin _ F.quiet) (wpAny_check_new_subT F T hC ?_);refine codeAny_exc_new_subT F T hC ?_ hrest
 show wpAny _ _ _ _ _ _
 have keep:∀ b o,h.get? b=some o->((h.push { cls:=.type "tuple",data:=.seq rest.toArray }).push { cls:=.ref C,data:=.fields #[.ref h.objs.size,.none,.none,.none,.bool false,.none] }).get? b=some o:=fun b o e=>Iw _ (Iw _ e);have hC1:=keep _ _ hC;have hn1:=hn.keeps keep
 have hget:((h.push { cls:=.type "tuple",data:=.seq rest.toArray }).push { cls:=.ref C,data:=.fields #[.ref h.objs.size,.none,.none,.none,.bool false,.none] }).get? (h.objs.size+1)=some { cls:=.ref C,data:=.fields #[.ref h.objs.size,.none,.none,.none,.bool false,.none] }:=by heap_get
 have hcC:(Value.ref C::bm).contains (.ref C)=true:=by simp
 have T1:=T.keeps keep;unfold isInstance
 repeat (first | with_reducible refine Kf hget ?_ | (with_reducible refine wpAny_isSubtype_exc hC1 ?_;rw[hcC]) | wp_step)
 show wpAny _ _ (typeLookup (.ref C) _) _ _ _
 refine wpAny_typeLookup_tail hC1 hn1 T1 F.mroIs F.init.lookup ?_;rw[hi];refine wpAny_holding (Iv ?_);unfold bindSpecial;refine Iv (wpAny_typeOf (T:="function") ⟨_,keep _ _ hfI,hfc⟩ ?_);rw[Iu (by decide)];refine IP (Iv (Jv (hq _ (h.objs.size+1) ⟨keep,Heap.get?_none_of_le (Nat.le_succ _),h.objs.size,hget,Heap.get?_none_of_le (Ix _),Iw _ (Heap.get?_push_at rfl rfl)⟩) (fun r s' hr=>?_) fun _ _ x=>x));obtain⟨rfl,hQ⟩:=hr
 wp_walk
 exact hQ
theorem uT (F:ExcBaseFacts B newId initId bmB)(T:OwnTail h bmB bm){mN:Str->Option Value}{rest:List Value}{fI:Addr}{oI:Obj}{Q:Value->Shared->Prop}
  (hC:h.get? C=some (excClassObj nm q C N bs bm hdct sn sub ab col dd k0 k1 k2 k3 k5 newId)) (hn:h.Ns N mN) (hi:mN "__init__" = some (.ref fI)) (hfI:h.get? fI=some oI) (hfc:oI.cls=.type "function")
  (hq:∀ h' e,Heap.MadeExcOf h h' e (.ref C) rest->wpAny (model prog w) (A.under (.builtin "type.__call__" ⟨.ref C::rest,[]⟩)) (call (.ref fI) (.ref e::rest)) (fun r s'=>r=.none/\Q (.ref e) s') E ⟨h',g,d,t,os⟩) (hrest:rest.length<=sizeLine) :
  wpAny (model prog w) A (call (.ref C) rest) Q E ⟨h,g,d,t,os⟩:=by
 have f1:=tc_lookup;have f2:=tc_bind (.ref C);have hT:(⟨h,g,d,t,os⟩:Shared).TypeIs (.ref C) "type":=⟨_,hC,rfl⟩;refine wpAny_call (codeAny_of_tree ?_)
 show wpAny _ _ (callAny (.ref C) _) _ _ _
 repeat (any_goals (first | assumption | with_reducible refine Kf hC ?_ | wp_step))
 refine⟨rfl,?_⟩;refine codeAny_call_builtin_at (Code.quiet_builtin _ (by decide +kernel)) entry_typeCall (wpAny_check_type_call_sub hC (mj F T hC hn hi hfI hfc (fun h' e hm=>?_) hrest));exact hq h' e hm
theorem BP {x:Sem Value}{s:Shared}{env:Env}{Q:Flow->Shared->Prop}(hbase:bm.contains (.type "BaseException")=true)(hh:A.handled=none)
  (h:wpAny (model prog w) A x (fun v s1=>∃ e t od,v=.ref e/\s1.heap.get? C=some (excClassObj nm q C N bs bm hdct sn sub ab col dd k0 k1 k2 k3 k5 newId)/\s1.heap.get? e=some (L2.exOb C t od)/\E (.ref e) s1) E s) :
  wpAny (model prog w) A (raiseStmt env (some x) none) Q E s:=by
 have hcB:(Value.ref C::bm).contains (.type "BaseException")=true:=by rw[List.contains_cons,hbase,Bool.or_true]
 unfold raiseStmt;refine Iv (Jv h (fun v s1 h1=>?_) fun _ _ x=>x);obtain⟨e,t,od,rfl,hC,he,hE⟩:=h1;obtain⟨hp,g,d,tk,os⟩:=s1;unfold L2.exOb at he
 repeat (first | with_reducible refine Kf he ?_ | with_reducible refine Kf hC ?_ | (with_reducible refine wpAny_isSubtype_exc hC ?_;rw[hcB]) | wp_step)
 exact wpAny_raiseNew_none hh hE
end
end PySem
namespace L2
open PySem PySem.Spec PyProof.Rows
abbrev eY (K:PySem.W.Frag)(C:Addr):Prop:=PySem.W.excIn K C wH "ValueError.__new__" = true
theorem Cc {K:PySem.W.Frag}{h:Heap}{C:Addr}(X:K.In h)(q:eY K C) :
  ∃ bm N nm qn bs hdct sn sub ab col dd k0 k1 k2 k3 k5 mN,h.get? C=some (excClassObj nm qn C N bs bm hdct sn sub ab col dd k0 k1 k2 k3 k5 "ValueError.__new__")/\h.Ns N mN/\mN "__init__" = none/\OwnTail h wH bm:=by
 have q:PySem.W.excIn K C wH "ValueError.__new__" = true:=q;unfold PySem.W.excIn at q;split at q
 ·rename_i dd cd sl ho
  split at q
  ·rename_i C' bm k0 k1 k2 k3 n k5 hm hs
   simp only[JD,Ka,Bool.not_eq_true']at q;obtain⟨⟨⟨⟨⟨rfl,rfl⟩,hdel⟩,ht⟩,hok⟩,hni⟩:=q;obtain⟨nm,bs,mro,ns,qn,hd,sn,sub,ab,col,del⟩:=cd;dsimp only at hm hdel hok hni;subst hm hdel
   have hsl:sl = #[k0,k1,k2,k3,some (.builtin "ValueError.__new__"),k5]:=by
    obtain⟨l⟩:=sl;simp only at hs;rw[hs]
   subst hsl;exact⟨bm,ns,nm,qn,bs,hd,sn,sub,ab,col,dd,k0,k1,k2,k3,k5,_,X _ _ ho,.of_isNs (PySem.W.isNs_of_in X hok),PySem.W.nsMap_none_of_in X hok hni,PySem.W.tail_of_in X ht⟩
  ·cases q
 ·cases q
def vj (e C:Addr)(od:Option Addr):HO:=.ext fun h=>∃ t,h.get? e=some (exOb C t od)
theorem wW {P:Program}{w:World}{H:Hp}{h:Heap}{e C t:Addr}{od:Option Addr}(q:h.get? e=some (exOb C t od)):bu P w H h e (vj e C od):=⟨⟨t,q⟩,⟨_,q⟩,fun h1 h2 ⟨t,q⟩ k=>⟨t,k _ q⟩⟩
def sj (H:Hp)(a:Addr):Hp:=fun b=>if b=a then none else H b
theorem jS {H:Hp}{a b:Addr}(h:b≠a):sj H a b=H b:=by unfold sj;rw[Ir h]
theorem Aa {H:Hp}{a:Addr}:sj H a a=none:=by unfold sj;rw[Iu rfl]
theorem aA.untrack {X:Cx}{pins:List (Addr×Obj)}{σ:St}{H:Hp}{s:Shared}{a:Addr}{φ:Heap->Prop}(I:aA X pins σ H s)(e:H a=some (.ext φ)):aA X pins σ (sj H a) s:=by
 have ne:∀ b o,H b=some o->(∀ ψ,o≠.ext ψ)->b≠a:=fun b o q n z=>by rw[z,e]at q;cases q;exact n _ rfl
 have u:Un X.fs [] H (sj H a) s.heap s.heap :=
  ⟨fun b o q _ _ _=>q,fun b o q _ _ _=>⟨o.slots,q⟩,fun b o q n _=>by unfold sj;split<;>first | rfl | exact n,fun b o q _=>⟨o,q⟩,fun b xs q=>by rw[jS (ne b _ q fun ψ z=>nomatch z)];exact q,fun b o u q=>by rw[jS (ne b _ q fun ψ z=>nomatch z)];exact q,fun b ps q=>⟨#[],by rw[jS (ne b _ q fun ψ z=>nomatch z),q];simp⟩⟩
 have hk:iQ X.prog X.w (sj H a) s.heap:=fun b o q=>by
  by_cases hb:b=a
  ·rw[hb,Aa]at q;cases q
  ·rw[jS hb]at q
   exact (I.hok b o q).stay (fun c v _ r=>r) (fun c r=>by rw[jS (ne c _ r fun ψ z=>nomatch z)];exact r) fun c xs r=>by rw[jS (ne c _ r fun ψ z=>nomatch z)];exact r
 exact I.un (t':=s.toks) u hk
theorem bu.has {P:Program}{w:World}{H:Hp}{h:Heap}{a:Addr}{o:HO}(x:bu P w H h a o):∃ u,h.get? a=some u:=by
 cases o with
 | lst xs=>obtain⟨_,_,_,_,e⟩:=x;exact⟨_,e⟩
 | tup xs=>obtain⟨_,_,_,u,e,_⟩:=x;exact⟨u,e⟩
 | dK kvs=>obtain⟨_,_,_,_,o,_,_,e,_⟩:=x;exact⟨o,e⟩
 | dT kvs=>obtain⟨_,_,_,_,o,_,_,e,_⟩:=x;exact⟨o,e⟩
 | set S n=>obtain⟨o,_,_,_,e,_⟩:=x;exact⟨o,e⟩
 | ins C dx fs=>obtain⟨_,_,_,e,_⟩:=x;exact⟨_,e⟩
 | own y=>exact x
 | xd fs=>obtain⟨_,⟨o,_,_,e,_⟩,_⟩:=x;exact⟨o,e⟩
 | rng lo hi=>obtain⟨_,_,_,e⟩:=x;exact⟨_,e⟩
 | frz ob u=>obtain⟨e,_⟩:=x;exact⟨ob,e⟩
 | tbl ps=>exact⟨_,(show h.get? a=some _ from x)⟩
 | met f y=>exact⟨_,(show h.get? a=some _ from x)⟩
 | ext φ=>obtain⟨_,e,_⟩:=x;exact e
def h9 (P:Program)(w:World):wK:=fun outer H s E e s'=>∃ (ea C:Addr)(od:Option Addr)(H':Hp)(B:Heap),e=.ref ea/\lv B outer ea (.ref C) od s'.heap/\Un (jU outer) [] H H' s.heap s'.heap/\iQ P w H' s'.heap/\s'.os=s.os/\AllBare s'.gens /\
 (∀ b o,s.heap.get? b=some o->b∉jU outer->∃ o',B.get? b=some o')/\(∀ b o,H' b=some o->∃ o',B.get? b=some o')/\E (.ref C) od H'
theorem BM {fs:List Addr}{H H':Hp}{h h1 h2 B:Heap}(u:Un fs [] H H' h h1)(b1:B.StaysIn h1)(b2:B.StaysIn h2)(hb:∀ b o,h.get? b=some o->b∉fs->∃ o',B.get? b=some o')(sl:∀ b o,b∈fs->h.get? b=some o->H b=none->∃ sl,h2.get? b=some { o with slots:=sl })(th:∀ b o,b∈fs->h.get? b=some o->∃ o',h2.get? b=some o'):Un fs [] H H' h h2:=by
 have eq:∀ b o,h.get? b=some o->b∉fs->h2.get? b=h1.get? b:=fun b o e hf=>by
  obtain⟨o',e'⟩:=hb b o e hf;rw[b1 b o' e',b2 b o' e']
 refine⟨fun b o e n hf hx=>(eq b o e hf).trans (u.keep b o e n hf hx),fun b o e n hf hx=>sl b o hf e n,u.free,fun b o e hx=>?_,u.tups,u.frzs,u.tbls⟩
 by_cases hf:b∈fs
 ·exact th b o hf e
 ·rw[eq b o e hf];exact u.there b o e hx
theorem w5 {P:Program}{w:World}{H:Hp}{h1 h2 B:Heap}(x:iQ P w H h1)(b1:B.StaysIn h1)(b2:B.StaysIn h2)(hb:∀ b o,H b=some o->∃ o',B.get? b=some o'):iQ P w H h2:=fun a o e =>
 (x a o e).stay (fun b u hc q=>by
  have:∃ o',B.get? b=some o':=by
   rcases hc with z | z
   ·rw[z];exact hb a o e
   ·exact hb b _ z
  obtain⟨o',e'⟩:=this;rw[b1 b o' e']at q;rw[<-q]
  exact b2 b o' e') (fun _ q=>q) fun _ _ q=>q
def u6 (X:Cx)(E:XK):Prop:=∀ (pins:List (Addr×Obj))(σ:St)(H:Hp)(s:Shared)(ea C t:Addr)(od:Option Addr),aA X pins σ H s->s.heap.get? ea=some (exOb C t od)->H ea=none->X.s₀.heap.get? ea=none->E (.ref C) od H->X.xe (.ref ea) s
section
variable {P:Program}{w:World}{K:PySem.W.Frag}{mg:Str->Option Value}{base:Heap}{N:List Str}{qual:Str}{sc:Scope}{f:Addr}{cd:Value}{A:Around}{outer:List Env}{s0:Shared}{H0:Hp}{E:XK}
theorem fF:u6 (pT (h9 P w) P w K mg base N qual sc f cd A outer s0 H0 E) E:=by
 intro pins σ H s ea C t od I hx hn hs hE
 let X:Cx:=pT (h9 P w) P w K mg base N qual sc f cd A outer s0 H0 E
 show wpAny _ _ (leaving _ _) _ _ _
 have hstk:(X.A.frames:Option (List Env))=some (X.env::outer):=I.ok.frames
 have frS:jU X.stack=X.env.locals::jU outer:=by unfold jU;rfl
 let B:Heap:=PySem.W.hideAll s.heap (ea::jU X.stack)
 have hkb:B.StaysIn s.heap:=fun b o q=>PySem.W.of_hideAll _ q;have inB:∀ b o,s.heap.get? b=some o->b≠ea->b∉jU X.stack->B.get? b=some o:=fun b o e ne hf=>PySem.W.hideAll_get _ e (fun z=>(IC.mp z).elim ne hf);have hl:s.heap.FunFrames B (X.env::outer):=PySem.W.funFrames_hide I.stack fun env he a hf=>Iy _ (List.mem_filterMap.mpr ⟨env,he,hf⟩);refine t9 (s:=s) hstk rfl hkb hl hx (PySem.W.hideAll_none _ IB) rfl rfl fun h2 fl ups=>?_;have ltl:∀ b o,s0.heap.get? b=some o->b≠X.env.locals:=fun b o e=>IW (IT (II e) I.ok.above)
 have h0B:∀ b o,s0.heap.get? b=some o->b∉jU outer->∃ o',B.get? b=some o':=fun b o e hf=>by
  obtain⟨o',e'⟩:=I.base.there b o e (by intro z;exact absurd (show b∈([]:List Addr) from z) (by simp));refine⟨o',inB b o' e' (fun z=>?_) ?_⟩
  ·have hs':s0.heap.get? ea=none:=hs
   rw[z,hs']at e;cases e
  ·rw[frS]
   intro z;rcases IC.mp z with z | z
   ·exact ltl b o e z
   ·exact hf z
 have trB:∀ b o,H b=some o->∃ o',B.get? b=some o':=fun b o e=>by
  obtain⟨u,q⟩:=(I.hok b o e).has;exact⟨u,inB b u q (fun z=>by rw[z,hn]at e;cases e) fun z=>by rw[I.stkFree b z]at e;cases e⟩
 have noEx:∀ b,b∉X.ex:=fun b z=>absurd (show b∈([]:List Addr) from z) (by simp)
 have slot2:∀ b o,b∈jU outer->s0.heap.get? b=some o->H0 b=none->∃ sl,h2.get? b=some { o with slots:=sl }:=fun b o hf e n=>by
  obtain⟨sl,e1⟩:=I.base.slot b o e n hf (noEx b);obtain⟨_,o2,ho2,hnf⟩:=I.ok.funs.mem hf
  have e2:o2=o:=by
   have:s0.heap.get? b=some o2:=ho2;rw[e]at this;exact (IA this).symm
  subst e2;obtain⟨sl2,e3⟩:=ups b _ e1 hnf;exact⟨sl2,e3⟩
 refine⟨ea,C,od,H,B,rfl,fl,?_,w5 I.hok hkb fl.1 trB,I.os,I.bare,h0B,trB,hE⟩;refine BM (h1:=s.heap) I.base hkb fl.1 h0B (fun b o hf e n=>?_) fun b o hf e=>?_
 ·exact slot2 b o hf e n
 ·obtain⟨sl,q⟩:=slot2 b o hf e (I.ok.frf b hf)
  exact⟨_,q⟩
theorem bU:dJ (h9 P w) (pT (h9 P w) P w K mg base N qual sc f cd A outer s0 H0 E) E:=by
 intro pins σ H s e s' I hc;obtain⟨ea,C,od,H',B,rfl,fl,un,hok,os,bare,hsB,trB,hE⟩:=hc
 let X:Cx:=pT (h9 P w) P w K mg base N qual sc f cd A outer s0 H0 E
 show wpAny _ _ (leaving _ _) _ _ _
 have hstk:(X.A.frames:Option (List Env))=some (X.env::outer):=I.ok.frames
 have frS:jU X.stack=X.env.locals::jU outer:=by unfold jU;rfl
 refine xf hstk rfl fl fun h2 fl2 ups=>?_;have ltl:∀ b o,s0.heap.get? b=some o->b≠X.env.locals:=fun b o e=>IW (IT (II e) I.ok.above);have noEx:∀ b,b∉X.ex:=fun b z=>absurd (show b∈([]:List Addr) from z) (by simp)
 have h0B:∀ b o,s0.heap.get? b=some o->b∉jU outer->∃ o',B.get? b=some o':=fun b o e hf=>by
  obtain⟨o',e'⟩:=I.base.there b o e (noEx b);refine hsB b o' e' ?_;rw[frS];intro z;rcases IC.mp z with z | z
  ·exact ltl b o e z
  ·exact hf z
 have unS:Un (jU outer) [] H0 H' s0.heap s'.heap:=by
  have u1:Un (jU outer) [] H0 H s0.heap s.heap:=I.base;refine⟨fun b o e n hf hx=>?_,fun b o e n hf hx=>?_,fun b o e n hx=>?_,fun b o e hx=>?_,fun b xs q=>un.tups b xs (u1.tups b xs q),fun b o u q=>un.frzs b o u (u1.frzs b o u q),fun b ps q=>?_⟩
  ·refine un.keep b o (u1.keep b o e n hf hx) (u1.free b o e n hx) ?_ hx
   rw[frS];intro z;rcases IC.mp z with z | z
   ·exact ltl b o e z
   ·exact hf z
  ·obtain⟨sl,e1⟩:=u1.slot b o e n hf hx
   obtain⟨sl2,e2⟩:=un.slot b _ e1 (u1.free b o e n hx) (by rw[frS];exact Iy _ hf) hx;exact⟨sl2,e2⟩
  ·obtain⟨o',e'⟩:=u1.there b o e hx
   exact un.free b o' e' (u1.free b o e n hx) hx
  ·obtain⟨o',e'⟩:=u1.there b o e hx
   exact un.there b o' e' hx
  ·obtain⟨m1,e1⟩:=u1.tbls b ps q
   obtain⟨m2,e2⟩:=un.tbls b _ e1;exact⟨m1++m2,by rw[e2,Array.append_assoc]⟩
 have slot2:∀ b o,b∈jU outer->s0.heap.get? b=some o->H0 b=none->∃ sl,h2.get? b=some { o with slots:=sl }:=fun b o hf e n=>by
  obtain⟨sl,e1⟩:=unS.slot b o e n hf (by simp);obtain⟨_,o2,ho2,hnf⟩:=I.ok.funs.mem hf
  have e2:o2=o:=by
   have:s0.heap.get? b=some o2:=ho2;rw[e]at this;exact (IA this).symm
  subst e2;obtain⟨sl2,e3⟩:=ups b _ e1 hnf;exact⟨sl2,e3⟩
 refine⟨ea,C,od,H',B,rfl,fl2,?_,w5 hok fl.1 fl2.1 trB,os.trans I.os,bare,h0B,trB,hE⟩;refine BM (h1:=s'.heap) unS fl.1 fl2.1 h0B (fun b o hf e n=>slot2 b o hf e n) fun b o hf e=>?_;obtain⟨sl,q⟩:=slot2 b o hf e (I.ok.frf b hf);exact⟨_,q⟩
end
theorem aA.fresh0 {X:Cx}{pins:List (Addr×Obj)}{σ:St}{H:Hp}{s:Shared}{a:Addr}(I:aA X pins σ H s)(hx:a∉X.ex)(h:s.heap.get? a=none):X.s₀.heap.get? a=none:=by
 cases e:X.s₀.heap.get? a with
 | none=>rfl
 | some o =>
  obtain⟨o',q⟩:=I.base.there a o e hx;rw[h]at q;cases q
theorem aA.unheld {X:Cx}{pins:List (Addr×Obj)}{σ:St}{H:Hp}{s:Shared}{a:Addr}(I:aA X pins σ H s)(h:s.heap.get? a=none):H a=none:=by
 cases e:H a with
 | none=>rfl
 | some o =>
  obtain⟨u,q⟩:=(I.hok a o e).has;rw[h]at q;cases q
def E3 (te:TE)(C:Addr)(E:XK):TS:=fun _ σ H=>te σ H fun _ H1=>E (.ref C) none H1
theorem jm {X:Cx}{C:Addr}{E:XK}{x:Str}{e:Expr}{te:TE}{np cpos pos:Pos}(q:eY X.K C)(hfl:u6 X E)(hex:X.ex=[])(hh:X.A.handled=none)(hg:Gl X x)(hm:X.mg x=some (.ref C))(he:PE X e te)
  (hdb:(x == ("__debug__" : Str))=false:=by decide) (hs:starEach [e] X.env=[(false,eval e X.env)]:=by rfl) :
  PS X (.Raise (some (.Call (.Name x np) [e] [] cpos)) none pos) (E3 te C E):=by
 intro pins s σ H D I h;obtain⟨bm,N,nm,qn,bs,hdct,sn,sub,ab,col,dd,k0,k1,k2,k3,k5,mN,hC,hN,hni,T⟩:=Cc I.ok.mod.kin q
 refine wpAny_Raise_call_subT (C:=C) (nm:=nm) (q:=qn) (N:=N) (bs:=bs) (bm:=bm) (hdct:=hdct) (sn:=sn) (sub:=sub) (ab:=ab) (col:=col) (dd:=dd) (k0:=k0) (k1:=k1) (k2:=k2) (k3:=k3) (k5:=k5)
  J5 (mN:=mN) (T.hasType J5.hasBase) hh (by rw[hs];rfl) hni (fj I hg hm ⟨rfl,?_⟩ hdb)
 rw[hs];refine JF (Jz (bq (he pins s σ H _ I h) fun u s1 ⟨v,H1,I1,rv,q1⟩=>JR ?_));refine⟨rfl,(show 1<=sizeLine by decide),I1.bk _ _ hC,hN.keeps I1.bk,T.keeps I1.bk,fun h' ea hx=>?_⟩;obtain⟨t,hea,_,_⟩:=hx.there;exact hfl pins σ H1 { s1 with heap:=h' } ea C t none (I1.kept (t':=s1.toks) hx.keeps) hea (I1.unheld hx.new) (I1.fresh0 (by rw[hex];simp) hx.new) q1
section
variable {X:Cx}{pins:List (Addr×Obj)}{σ:St}{H:Hp}{s:Shared}
theorem aA.laidN {a:Addr}{o:HO}{h':Heap}{t':Nat}(I:aA X pins σ H s)(k:∀ b u,s.heap.get? b=some u->h'.get? b=some u)(hp:s.heap.get? a=none)(new:bu X.prog X.w (upd H a o) h' a o) :
  aA X pins σ (upd H a o) { s with heap:=h',toks:=t' }:=by
 have hn:=I.unheld hp
 have ne:∀ b u,s.heap.get? b=some u->b≠a:=fun b u q z=>by rw[z,hp]at q;cases q
 refine I.un ⟨fun b u q _ _ _=>k b u q,fun b u q _ _ _=>⟨u.slots,k b u q⟩,fun b u q n _=>by rw[af (ne b u q)];exact n,fun b u q _=>⟨u,k b u q⟩,fun b xs q=>by rw[af (ah q hn)];exact q,fun b u xs q=>by rw[af (ah q hn)];exact q,fun b ps q=>⟨#[],by rw[af (ah q hn),q];simp⟩⟩ fun b u e=>?_
 by_cases hb:b=a
 ·subst hb;rw[ac]at e;cases e;exact new
 ·rw[af hb]at e
  exact (I.hok b u e).stay (fun c v _ q=>k c v q) (fun c q=>by rw[af (ah q hn)];exact q) fun c xs q=>by rw[af (ah q hn)];exact q
end
inductive BD (C:Addr) (f:Str) (vs:List V) (H:Hp) (Q:VK) (E_:XK):Prop
 | mk (ea:Addr) (g:Int) (_:vs=[.ref ea,.int g]) (_:g.natAbs<10 ^ 100) (_:H ea=some (vj ea C none)) (_:∀ dx,H dx=none->Q .non (upd (upd H ea (vj ea C (some dx))) dx (.xd [(f,.int g)])))
theorem v2 {X:Cx}{pl:Sem Bool}{W fI:Addr}{x:Str}{e:Expr}{es:List Expr}{t:TA}{np apos pos:Pos}(hg:Gl X x)(hm:X.mg x=some (.ref W))(hsp:PySem.W.specialIn X.K (.ref W) "__getattribute__" = some (some (.builtin "type.__getattribute__")))
  (hrd:PySem.W.readsIn X.K W (.type "type")=true) (hfc:PySem.W.findCls X.K (.ref W) (.type "type") "__init__" = some (.val (.builtin "ValueError.__init__"))) (ha:PA X (e::es) t)
  (hdb:(x == ("__debug__" : Str))=false:=by decide) (he:starEach (e::es) X.env=(false,eval e X.env)::starEach es X.env:=by rfl) (hpl:(backTo pos (starEach es X.env)).any (·.1)=false:=by rfl)
  (ht:eval (.Call (.Attribute (.Name x np) "__init__" apos) (e::es) [] pos) X.env=(do
   let ov <-eval (.Name x np) X.env
   standAt apos.atName
   let (f,first) <-holding [ov] (getMethod ov "__init__" pl)
   callWith pos f first (backTo pos (starEach (e::es) X.env)) (backToKw pos (keywordEach [] X.env))):=by rfl) :
  PE X (.Call (.Attribute (.Name x np) "__init__" apos) (e::es) [] pos) (fun σ H Q=>t σ H fun vs H1=>∃ ea C u,vs=[.ref ea,u]/\H1 ea=some (vj ea C none)/\gI X.K C fI=true/\Q .non H1):=by
 intro pins s σ H Q I h;refine PySem.W.methodCall_KW (pl:=pl) (fj I hg hm ?_ hdb) ht;refine PySem.W.method_cls I.kIn hsp (PySem.W.cls_value I.kIn hrd hfc rfl ?_);refine PyProof.Rows.callWith_builtin1 (bq (ha pos pins _ σ H _ (I.tok _) h) fun us s1 ⟨vs,H1,I1,r1,ea,C,v,ev,hx,c,q1⟩=>?_) he hpl;subst ev;obtain⟨u1,u2,rfl,ru1,ru2⟩:=r1.two;cases ru1;obtain⟨⟨t0,hx0⟩,_,_⟩:=(show bu X.prog X.w H1 s1.heap ea (vj ea C none) from I1.hok ea _ hx);refine AW I1.kIn c hx0 fun h' t' q k=>?_
 have e:upd H1 ea (vj ea C none)=H1:=by funext b;unfold upd;split<;>rename_i z<;>first | (rw[z,hx]) | rfl
 refine⟨.non,H1,?_,rfl,q1⟩;have:=I1.write (x:=ea) (e:=ea) (o:=vj ea C none) (h':=h') (t':=s1.toks) (by rw[hx];exact True.intro) (.inl rfl) (fun b o n z=>k b o n z) ⟨_,q⟩ (wW q)
 rwa [e]at this
theorem wg {X:Cx}{o value:Expr}{f:Str}{pos pos':Pos}{ta tv:TE}(ha:PE X o ta)(hv:PE X value tv)(hs:swapsWith value (some (.Attribute o f pos')) pos.line X.env=pure false) :
  PS X (.Assign [.Attribute o f pos'] value pos) (fun D σ H=>tv σ H fun y H1=>ta σ H1 fun x H2=>∃ ea C,x=.ref ea/\H2 ea=some (vj ea C none)/\Ge X.K C f/\∀ dx,H2 dx=none->D.nx σ (upd (upd H2 ea (vj ea C (some dx))) dx (.xd [(f,y)]))):=by
 intro pins s σ H D I h;refine plainObj_wpAny_Assign_Attribute (bq (hv pins s σ H _ I h) fun u s1 ⟨y,H1,I1,ry,q⟩=>bq (ha pins s1 σ H1 _ I1 q) fun ov s2 ⟨x,H2,I2,rx,ea,C,ex,hx,c,q2⟩=>?_) hs;subst ex;obtain rfl:ov=Value.ref ea:=rx;obtain⟨⟨t0,hx0⟩,_,_⟩:=(show bu X.prog X.w H2 s2.heap ea (vj ea C none) from I2.hok ea _ hx);refine Ez I2.kIn c hx0 fun h' tk hx1 hns k=>⟨σ,_,?_,q2 s2.heap.objs.size I2.fresh⟩;have hd:=I2.fresh
 have ned:s2.heap.objs.size≠ea:=fun z=>by rw[z,hx]at hd;cases hd
 have ne1:∀ b u,H2 b=some u->(∀ ψ,u≠.ext ψ)->b≠ea:=fun b u q n z=>by rw[z,hx]at q;cases q;exact n _ rfl
 have ned2:∀ b u,s2.heap.get? b=some u->b≠s2.heap.objs.size:=fun b u q=>IW (II q)
 have up:∀ b u,H2 b=some u->(∀ ψ,u≠.ext ψ)->upd (upd H2 ea (vj ea C (some s2.heap.objs.size))) s2.heap.objs.size (.xd [(f,y)]) b=some u:=fun b u q n=>by
  rw[af (ah q hd),af (ne1 b u q n)];exact q
 refine I2.un ⟨fun b u q n _ _=>k b u (fun z=>by rw[z,hx]at n;cases n) q,fun b u q n _ _=>⟨u.slots,k b u (fun z=>by rw[z,hx]at n;cases n) q⟩,fun b u q n _=>?_,fun b u q _=>?_,fun b xs q=>up b _ q (fun ψ z=>nomatch z),fun b u xs q=>up b _ q (fun ψ z=>nomatch z),fun b ps q=>⟨#[],by rw[up b _ q (fun ψ z=>nomatch z)];simp⟩⟩ fun b u q=>?_
 ·rw[af (ned2 b u q),af (fun z=>by rw[z,hx]at n;cases n)];exact n
 ·by_cases hb:b=ea
  ·exact⟨_,by rw[hb];exact hx1⟩
  ·exact⟨u,k b u hb q⟩
 ·by_cases hb:b=s2.heap.objs.size
  ·rw[hb,ac]at q
   cases q;rw[hb];refine⟨_,hns,fun g=>?_⟩
   show gV (List.lookup g [(f,y)]) (if g=f then some _ else none)
   by_cases hgf:g=f
   ·rw[Iu hgf,hgf];simp only[List.lookup,beq_self_eq_true];exact ry
   ·have hb:(g == f)=false:=JI.mpr hgf
    rw[Ir hgf];simp only[List.lookup,hb];trivial
  ·rw[af hb]at q
   by_cases hb2:b=ea
   ·rw[hb2,ac]at q
    cases q;rw[hb2];exact wW hx1
   ·rw[af hb2]at q
    refine (I2.hok b u q).stay (fun c v hc r=>k c v ?_ r) (fun c r=>up c _ r fun ψ z=>nomatch z) fun c xs r=>up c _ r fun ψ z=>nomatch z
    rcases hc with z | z
    ·rw[z];exact hb2
    ·exact ne1 c _ z fun ψ z=>nomatch z
def uQ (te:TE)(C:Addr)(f:Str)(E:XK):TS:=fun _ σ H=>te σ H fun v H1=>∃ g:Int,v=.int g/\g.natAbs<10 ^ 100/\∀ dx,H1 dx=none->E (.ref C) (some dx) (upd H1 dx (.xd [(f,.int g)]))
theorem tf {X:Cx}{C fI:Addr}{k:Nat}{fd:FuncData}{E:XK}{x f sl gp:Str}{e:Expr}{te:TE}{np cpos pos:Pos}(c:gI X.K C fI=true)(hfn:PySem.W.typeIn X.K (.ref fI)=some (.type "function"))
  (G:aR X.prog X.w X.K X.mg X.base c0 k fI fd [sl,gp] (BD C f)) (hr:bX (k+1) X.A) (hb:dE X.K fd [sl,gp] [])
  (hfl:u6 X E) (hex:X.ex=[]) (hh:X.A.handled=none) (hg:Gl X x) (hm:X.mg x=some (.ref C)) (he:PE X e te)
  (hdb:(x == ("__debug__" : Str))=false:=by decide) (hs:starEach [e] X.env=[(false,eval e X.env)]:=by rfl) :
  PS X (.Raise (some (.Call (.Name x np) [e] [] cpos)) none pos) (uQ te C f E):=by
 intro pins s σ H D I h;obtain⟨bm,N,nm,qn,bs,hdct,sn,sub,ab,col,dd,k0,k1,k2,k3,k5,mN,hC,hN,hni,T⟩:=vk I.ok.mod.kin c;have F:=J5;have hbase:=T.hasType F.hasBase;rw[arm_exec_Raise];refine Iv (wpAny_standAt (BP (C:=C) (nm:=nm) (q:=qn) (N:=N) (bs:=bs) (bm:=bm) (hdct:=hdct) (sn:=sn) (sub:=sub) (ab:=ab) (col:=col) (dd:=dd) (k0:=k0) (k1:=k1) (k2:=k2) (k3:=k3) (k5:=k5) (newId:="ValueError.__new__") hbase hh (Iv (Jv (wpAny_Call_ofName (fj I hg hm ?_ hdb)) (fun v s3 h3=>Iv (wpAny_standAt (IP h3))) fun _ _ x=>x))));rw[hs];unfold callWith;refine Iv (wpAny_holding (JF (Jz (bq (he pins s σ H _ I h) fun u s1 ⟨v,H1,I1,rv,g,ev,hgb,q1⟩=>JR (Iv (wpAny_standAt ?_))))));subst ev;dsimp only;have hC1:=I1.bk _ _ hC;have hN1:=hN.keeps I1.bk;have T1:=T.keeps I1.bk
 have hf1:∃ oI,s1.heap.get? fI=some oI/\oI.cls=.type "function":=by
  unfold PySem.W.typeIn at hfn;obtain⟨o,ho,hc⟩:=Option.map_eq_some_iff.mp hfn;exact⟨o,I1.kIn _ _ ho,hc⟩
 obtain⟨oI,hfI,hfc⟩:=hf1;obtain⟨hp,gs,d,tk,os⟩:=s1;refine Iv (wpAny_keeperOf_exc hC1 ?_);refine Iv (uT (rest:=[u]) F T1 hC1 hN1 hni hfI hfc (fun h' ea hx=>?_) (show 1<=sizeLine by decide));obtain⟨t0,hea,_,_⟩:=hx.there;have hfr:=I1.fresh0 (by rw[hex];simp) hx.new;have FC:=I1.unheld hx.new;have I2:aA X pins σ (upd H1 ea (vj ea C none)) ⟨h',gs,d,tk,os⟩:=I1.laidN (a:=ea) (o:=vj ea C none) (h':=h') (t':=tk) hx.keeps hx.new (wW hea);have r2:aU [V.ref ea,V.int g] [Value.ref ea,u]:=.cons rfl (.cons rv .nil)
 refine wpAny_call (codeAny_mono (G.run _ X.stack _ _ ⟨[Value.ref ea,u],[]⟩ [Value.ref ea,u] [V.ref ea,V.int g] (fun v H3=>v=.non/\∃ dx,H1 dx=none/\dx≠ea/\H3=upd (upd (upd H1 ea (vj ea C none)) ea (vj ea C (some dx))) dx (.xd [(f,.int g)])) E0 (hr.make C [u] [])
  (I2.env0.make C [u] []) (hb _ [Value.ref ea,u] I2.kIn rfl) r2 ⟨ea,g,rfl,hgb,ac,fun dx hdx=>⟨rfl,dx,?_,?_,rfl⟩⟩) fun r s' hq'=>?_)
 ·by_cases z:dx=ea
  ·rw[z,ac]at hdx;cases hdx
  ·rwa [af z]at hdx
 ·intro z;rw[z,ac]at hdx;cases hdx
 cases r with
 | error e=>exact hq'.elim
 | ok fl =>
  cases fl with
  | ret u2 =>
   obtain⟨v,H3,I3,rv3,ev,dx,hdx,hne,eH⟩:=I2.after hq';subst ev;refine⟨rv3,Iv (wpAny_holding (wpAny_point (IP ?_)))⟩
   have h3:H3 ea=some (vj ea C (some dx)):=by rw[eH,af (IJ hne),ac]
   obtain⟨⟨t3,hx3⟩,_,_⟩:=(show bu X.prog X.w H3 s'.heap ea (vj ea C (some dx)) from I3.hok ea _ h3);have I4:=I3.untrack (φ:=fun h=>∃ t,h.get? ea=some (exOb C t (some dx))) h3
   have e4:sj H3 ea=upd H1 dx (.xd [(f,.int g)]):=by
    funext b
    unfold sj
    by_cases hb:b=ea
    ·rw[Iu hb,hb,af (IJ hne),FC]
    ·rw[Ir hb,eH]
     by_cases hd:b=dx
     ·rw[hd,ac,ac]
     ·rw[af hd,af hb,af hb,af hd]
   rw[e4]at I4;exact⟨ea,t3,some dx,rfl,I4.bk _ _ hC,hx3,hfl pins σ _ s' ea C t3 (some dx) I4 hx3 (by rw[af (IJ hne)];exact FC) hfr (q1 dx hdx)⟩
  | next=>exact hq'.elim
  | brk=>exact hq'.elim
  | cont=>exact hq'.elim
def DO (X:Cx)(pins:List (Addr×Obj))(σ:St)(H:Hp)(ea C:Addr)(od:Option Addr)(B:Heap)(s':Shared):Prop:=H ea=none/\∀ h2,lv B X.stack ea (.ref C) od h2->s'.heap.UpToSlots h2->aA X pins σ H { s' with heap:=h2 }
theorem Cq {X:Cx}{pins:List (Addr×Obj)}{σ:St}{H H':Hp}{s s':Shared}{ea C:Addr}{od:Option Addr}{B:Heap}(I:aA X pins σ H s)(fl:lv B X.stack ea (.ref C) od s'.heap)(un:Un (jU X.stack) [] H H' s.heap s'.heap)(hok:iQ X.prog X.w H' s'.heap)(os:s'.os=s.os)(bare:AllBare s'.gens)
  (hsB:∀ b o,s.heap.get? b=some o->b∉jU X.stack->∃ o',B.get? b=some o') (trB:∀ b o,H' b=some o->∃ o',B.get? b=some o'):DO X pins σ H' ea C od B s':=by
 refine⟨?_,fun h2 fl2 ups=>?_⟩
 ·cases e:H' ea with
  | none=>rfl
  | some o =>
   obtain⟨o',q⟩:=trB ea o e;rw[fl.2.1]at q;cases q
 have slot2:∀ b o,b∈jU X.stack->s.heap.get? b=some o->H b=none->∃ sl,h2.get? b=some { o with slots:=sl }:=fun b o hf e n=>by
  obtain⟨sl,e1⟩:=un.slot b o e n hf (by simp);obtain⟨_,o2,ho2,hnf⟩:=I.stack.mem hf
  have e2:o2=o:=by
   have:s.heap.get? b=some o2:=ho2;rw[e]at this;exact (IA this).symm
  subst e2;obtain⟨sl2,e3⟩:=ups b _ e1 hnf;exact⟨sl2,e3⟩
 refine I.call' (ch:=[]) (s':={ s' with heap:=h2 }) os ?_ (w5 hok fl.1 fl2.1 trB) bare fun b z=>absurd z (by simp);refine BM (h1:=s'.heap) un fl.1 fl2.1 hsB (fun b o hf e n=>slot2 b o hf e n) fun b o hf e=>?_;obtain⟨sl,q⟩:=slot2 b o hf e (I.stkFree b hf);exact⟨_,q⟩
def Cx.marked (X:Cx)(ea:Addr)(oe:Obj):Cx:={ X with A:=X.A.mark (some (.ref ea)),calm:=false,xe:=fun _ _=>False,pn:=(ea,oe)::X.pn }
theorem aA.marked {X:Cx}{pins:List (Addr×Obj)}{σ:St}{H:Hp}{s:Shared}{ea:Addr}{oe:Obj}{us:Array Value}(I:aA X pins σ H s)(he:s.heap.get? ea=some oe)(hd:oe.data=.fields us)(hn:H ea=none):aA (X.marked ea oe) pins σ H s:=by
 refine⟨⟨I.ok.mod,I.ok.kind,I.ok.glob,I.ok.blt,I.ok.above,I.ok.inj,I.ok.has,I.ok.cab,fun z=>(by cases z),I.ok.frames,I.ok.stk,I.ok.exf,I.ok.bs,I.ok.bsz,I.ok.noex,I.ok.exfs,I.ok.funs,I.ok.frf⟩,I.os,I.bare,I.base,I.loc,I.cell,I.free,I.freeC,fun p hp=>?_,I.hok,I.len⟩;rcases IC.mp (show p∈(ea,oe)::(X.pn++pins) from hp) with z | z
 ·subst z
  refine⟨he,hn,fun z=>?_,fun z=>?_,fun v z=>?_⟩
  ·obtain⟨m,⟨o,es,ep,ho,hdd,_⟩,_⟩:=I.loc
   have z:ea=X.env.locals:=z;rw[<-z,he]at ho;cases ho;rw[hd]at hdd;cases hdd
  ·obtain⟨_,o,ho,nf⟩:=I.funs.mem z
   rw[he]at ho;cases ho;exact nf us hd
  ·have z:oe.data=.cell v:=z
   rw[hd]at z;cases z
 ·exact I.pin p z
theorem aA.unmarked {X:Cx}{pins:List (Addr×Obj)}{σ:St}{H:Hp}{s:Shared}{ea:Addr}{oe:Obj}(ok:X.Ok)(I:aA (X.marked ea oe) pins σ H s):aA X pins σ H s :=
 ⟨ok,I.os,I.bare,I.base,I.loc,I.cell,I.free,I.freeC,fun p hp=>I.pin p (show p∈(ea,oe)::(X.pn++pins) from Iy _ hp),I.hok,I.len⟩
theorem SP.unmarked {X:Cx}{pins:List (Addr×Obj)}{D:kE}{f:Flow}{s':Shared}{ea:Addr}{oe:Obj}(ok:X.Ok)(h:SP (X.marked ea oe) pins D f s'):SP X pins D f s':=by
 cases f with
 | next=>obtain⟨σ',H',I,q⟩:=h;exact⟨σ',H',I.unmarked ok,q⟩
 | brk=>obtain⟨σ',H',I,q⟩:=h;exact⟨σ',H',I.unmarked ok,q⟩
 | cont=>obtain⟨σ',H',I,q⟩:=h;exact⟨σ',H',I.unmarked ok,q⟩
 | ret u=>obtain⟨v,σ',H',I,r,q⟩:=h;exact⟨v,σ',H',I.unmarked ok,r,q⟩
def Gg (X:Cx)(hdl:List ExceptHandler)(th:Value->Option Addr->TS):Prop:=∀ (pins:List (Addr×Obj))(σ:St)(H:Hp)(D:kE)(ea C:Addr)(od:Option Addr)(B:Heap)(s':Shared)(h:Heap),DO X pins σ H ea C od B s'->lv B X.stack ea (.ref C) od h->s'.heap.UpToSlots h->th (.ref C) od D σ H ->
 wpAny (model X.prog X.w) X.A (handleBy (.ref ea) X.env hdl) (SP X pins D) X.xe { s' with heap:=h }
theorem cP {X:Cx}{y:Str}{C1:Addr}{b0:Stmt}{suite:List Stmt}{t1:TS}{th:Value->Option Addr->TS}{np pos:Pos}{rest:List ExceptHandler}(hg:Gl X y)(hm:X.mg y=some (.ref C1))(hs:∀ ea oe,uV (X.marked ea oe) (b0::suite) t1)(hr:Gg X rest th)
  (hdb:(y == ("__debug__" : Str))=false:=by decide):Gg X (.ExceptHandler (some (.Name y np)) none (b0::suite) pos::rest) (fun cls od D σ H=>∃ b,PySem.W.exmOne X.K cls (.ref C1)=some b/\if b=true then t1 D σ H else th cls od D σ H):=by
 intro pins σ H D ea C od B s' h ld fl ups ht;obtain⟨b,hb,ht⟩:=ht;have I:=ld.2 h fl ups;obtain⟨ob,us,hob,hobc,hobd,hobf⟩:=fl.obj;have Im:=I.marked (ea:=ea) hob hobf ld.1
 have LT:PySem.W.Looks (model X.prog X.w) h (typeOf (.ref ea)) (.ref C):=by
  rw[<-hobc];exact (PySem.W.Looks.ld hob).andThen .now
 refine wpAny_handleBy_cons (codeAny_handlers_test (fj (X:=X.marked ea ob) Im hg hm ?_ hdb)) (by intro z;cases z);refine (PySem.W.exm_one (K:=X.K) I.kIn LT hb).here ?_
 cases b with
 | true =>
  rw[Iu rfl]at ht;refine codeAny_handlers_suite ?_;refine t8 fl fun h6 fl6 ups6=>?_;obtain⟨oe,us6,hoe,hoec,hoed,hoef⟩:=fl6.obj;have I6:=(ld.2 h6 fl6 (ups.trans ups6)).marked (ea:=ea) hoe hoef ld.1;exact Jv (hs ea oe pins _ σ H D I6 ht) (fun f s2 hq=>hq.unmarked I.ok) fun _ _ z=>z.elim
 | false =>
  rw[Ir Iz]at ht;exact hr pins σ H D ea C od B s' h ld fl ups ht
theorem EO {X:Cx}:Gg X [] (fun _ _ _ _ _=>False):=fun _ _ _ _ _ _ _ _ _ _ _ _ _ h=>h.elim
theorem dt.okX {P:Program}{w:World}{K:PySem.W.Frag}{mg:Str->Option Value}{base:Heap}{x qual:Str}{st:Stmt}{f:Addr}{fd:FuncData}{N ps:List Str}{k:Nat}{sp:Sp}(F:dt K x qual st f fd)(S:au N ps (ai st))(len:∀ vs H Q E,sp vs H Q E->vs.length=ps.length)
  (hbody:∀ (cdv:Value)(A:Around)(outer:List Env)(s:Shared)(H:Hp)(vs:List V)(Q:VK)(E:XK),bX k (A.deeper (envOfC qual (ai st) s.heap.objs.size f cdv))->sp vs H Q E ->
   ∃ t,uV (pT (h9 P w) P w K mg base N qual (ai st) f cdv A outer s H E) (dN st) t/\t { nx:=fun _ H'=>Q .non H',rt:=Q } (lZ N vs) H):aR P w K mg base (h9 P w) (k+1) f fd ps sp:=by
 obtain⟨oc,od,kV,doc,pm,an,cdv,ct,osl,rfl,lk,hcd⟩:=F.ex;exact Dj lk hcd S len fun A outer s H vs Q E hr hsp=>hbody cdv A outer s H vs Q E hr hsp
def PJ (X:Cx)(es:List Expr)(t:TA):Prop:=∀ (out:Str)(m:Nat)(pins:List (Addr×Obj))(s:Shared)(σ:St)(H:Hp)(Q:VK),out.length<=1000*m->m+es.length<=100->aA X pins σ H s->t σ H (fun _ H'=>∀ x:Str,Q (.str x) H')->wpAny (model X.prog X.w) X.A (joinParts out (evalEach es X.env)) (EP X pins σ Q) X.xe s
theorem kP {X:Cx}:PJ X [] iP:=by
 intro out m pins s σ H Q ho hm I h;refine joinParts_nil ⟨.str out,H,I.tok _,⟨_,rfl⟩,h out⟩ ?_;exact IY ho (IY (Nat.mul_le_mul_left 1000 (show m<=100 by simpa using hm)) (by decide))
def tJ (te:TE)(t:TA):TA:=fun σ H Q=>te σ H fun x H1=>∃ y:Str,x=.str y/\y.length<=1000/\t σ H1 Q
theorem bC {X:Cx}{e:Expr}{es:List Expr}{te:TE}{t:TA}(he:PE X e te)(h:PJ X es t):PJ X (e::es) (tJ te t):=by
 intro out m pins s σ H Q ho hm I hq
 show wpAny _ _ (joinParts out (eval e X.env::evalEach es X.env)) _ _ s
 refine joinParts_cons (bq (he pins s σ H _ I hq) fun u s1 ⟨x,H1,I1,rx,y,ex,hy,q1⟩=>?_);subst ex;obtain⟨tk,rfl⟩:=rx
 have hl:(out++y).length<=1000*(m+1):=by rw[strLen_append];omega
 rw[IX]at hm;refine⟨IY hl (IY (Nat.mul_le_mul_left 1000 (show m+1<=100 by omega)) (by decide)),?_⟩;exact h (out++y) (m+1) pins s1 σ H1 Q hl (by omega) I1 q1
def Ie (t:TA):TE:=fun σ H Q=>t σ H fun _ H'=>∀ x:Str,Q (.str x) H'
theorem ir {X:Cx}{e1 e2:Expr}{es:List Expr}{t:TA}{pos:Pos}(h:PJ X (e1::e2::es) t)(hn:(e1::e2::es).length<=100:=by decide):PE X (.JoinedStr (e1::e2::es) pos) (Ie t):=by
 intro pins s σ H Q I hq;refine JoinedStr_many ?_;exact h Str.empty 0 pins s σ H Q (by show 0<=_;exact Jg _) (by simpa using hn) I hq
def Ic (te:TE):TE:=fun σ H Q=>te σ H fun x H1=>∃ i:Int,x=.int i/\i.natAbs<10 ^ 100/\∀ y:Str,y.length<=1000->Q (.str y) H1
theorem eF {X:Cx}{e:Expr}{te:TE}{pos:Pos}(he:PE X e te):PE X (.FormattedValue e (-1) none pos) (Ic te):=by
 intro pins s σ H Q I h;refine FormattedValue_plain (bq (he pins s σ H _ I h) fun u s1 ⟨x,H1,I1,rx,i,ex,hi,q⟩=>?_);subst ex;obtain⟨tk,rfl⟩:=rx
 have hd:i.natAbs.log2<1920:=by
  by_cases h0:i.natAbs=0
  ·rw[h0];decide
  ·exact (Nat.log2_lt h0).mpr (IT hi (by decide +kernel))
 refine wpAny_formatField_int hd ⟨.str (toString i),H1,I1.tok _,⟨_,rfl⟩,q _ ?_⟩;have:=PySem.int_text_length_le10 (a:=i) (k:=100) (by decide) hi
 show (Str.ofString (toString i)).length<=1000
 rw[PySem.ofString_length];omega
end L2
namespace Wz
open PySem L2
def aM (P:Program)(w:World)(K:PySem.W.Frag)(mg:Str->Option Value)(base:Heap)(CX:wK)(C:Addr)(m:Str)(k:Nat)(ps:List Str)(sp:Sp):Prop :=
 ∃ (f:Addr)(fd:FuncData),aR P w K mg base CX k f fd ps sp/\BW K C m f/\dE K fd ps []
def o8 (P:Program)(w:World)(K:PySem.W.Frag)(mg:Str->Option Value)(base:Heap)(x:Str)(k:Nat)(ps:List Str)(sp:Sp):Prop :=
 ∃ (f:Addr)(fd:FuncData),aR P w K mg base (h9 P w) k f fd ps sp/\mg x=some (.ref f)/\PySem.W.keepIn K (.ref f)=true/\dE K fd ps []
section
variable {X:Cx}{CX:wK}{k:Nat}{C:Addr}{ps:List Str}{sp:Sp}{E:XK}{m x:Str}{p pos apos:Pos}{e o:Expr}{es:List Expr}{ta:TE}{t:TA}
theorem cU {pl:Sem Bool}(M:aM X.prog X.w X.K X.mg X.base CX C m k ps sp)(he:PE X o ta)(c:uZ X.K C)(hr:bX k X.A)(hx:dJ CX X E)(ha:PA X (e::es) t)
  (hst:starEach (e::es) X.env=(false,eval e X.env)::starEach es X.env:=by rfl) (hpl:(backTo pos (starEach es X.env)).any (·.1)=false:=by rfl)
  (ht:eval (.Call (.Attribute o m apos) (e::es) [] pos) X.env=(do
   let ov <-eval o X.env
   standAt apos.atName
   let (f,first) <-holding [ov] (getMethod ov m pl)
   callWith pos f first (backTo pos (starEach (e::es) X.env)) (backToKw pos (keywordEach [] X.env))):=by rfl) :
  PE X (.Call (.Attribute o m apos) (e::es) [] pos) (yS C m sp [] E ta t):=by
 obtain⟨f,fd,G,hm,hb⟩:=M;exact CT he c hm G hr hb .nil hx ha hst hpl ht
theorem e7 {pl:Sem Bool}(M:aM X.prog X.w X.K X.mg X.base CX C m k ps sp)(he:PE X o ta)(c:uZ X.K C)(hr:bX k X.A)(hx:dJ CX X E)
  (ht:eval (.Call (.Attribute o m apos) [] [] pos) X.env=(do
   let ov <-eval o X.env
   standAt apos.atName
   let (f,first) <-holding [ov] (getMethod ov m pl)
   callWith pos f first (backTo pos (starEach [] X.env)) (backToKw pos (keywordEach [] X.env))):=by rfl) :
  PE X (.Call (.Attribute o m apos) [] [] pos) (yS C m sp [] E ta iP):=by
 obtain⟨f,fd,G,hm,hb⟩:=M;exact Ba he c hm G hr hb .nil hx ht
theorem Bi (M:o8 X.prog X.w X.K X.mg X.base x k ps sp)(hr:bX k X.A)(hg:Gl X x)(hx:dJ (h9 X.prog X.w) X E)(ha:PA X (e::es) t)
  (hdb:(x == ("__debug__" : Str))=false:=by decide) (he:starEach (e::es) X.env=(false,eval e X.env)::starEach es X.env:=by rfl) (hpl:(backTo pos (starEach es X.env)).any (·.1)=false:=by rfl) :
  PE X (.Call (.Name x p) (e::es) [] pos) (BJ sp [] E t):=by
 obtain⟨f,fd,G,hm,hk,hb⟩:=M;exact yz G hr hg hm hk hb .nil hx ha hdb he hpl
end
inductive aB where
 | come (g:Int) | go (g:Int) | exch (a b:Int)
 deriving DecidableEq
def cj:aB->HO
 | .come g=>.tup [.str "come",.int g]
 | .go g=>.tup [.str "go",.int g]
 | .exch a b=>.tup [.str "exchange",.int a,.int b]
structure bP where
 worn:List (Int×Int)
 hold:List (Int×Int)
 circ:List (Int×List Int)
 deeds:List aB
def dL:List Addr->List (Int×List Int)->List (ca×V)
 | a::as,x::xs=>(Sum.inl x.1,V.ref a)::dL as xs
 | _,_=>[]
def mq (ks:List Int):List (ca×V):=ks.map fun k=>(Sum.inl k,V.bl true)
structure HA where
 dx:Addr
 w:Addr
 h:Addr
 c:Addr
 d:Addr
 cs:List Addr
def HA.fp (A:HA):List Addr:=A.w::A.h::A.c::A.d::A.cs
def bB (A:HA):List (Str×V):=aV "deeds" (.ref A.d) (aV "circles" (.ref A.c) (aV "holders" (.ref A.h) (aV "worn" (.ref A.w) [])))
theorem s1:¬ (("worn" : Str)="holders"):=by decide +kernel
theorem s2:¬ (("worn" : Str)="circles"):=by decide +kernel
theorem s3:¬ (("worn" : Str)="deeds"):=by decide +kernel
theorem s4:¬ (("holders" : Str)="circles"):=by decide +kernel
theorem s5:¬ (("holders" : Str)="deeds"):=by decide +kernel
theorem s6:¬ (("circles" : Str)="deeds"):=by decide +kernel
theorem zq (A:HA):(bB A).lookup ("worn" : Str)=some (.ref A.w):=by
 unfold bB;rw[ao,Ir s3,ao,Ir s2,ao,Ir s1,ao,Iu rfl]
theorem FB (A:HA):(bB A).lookup ("holders" : Str)=some (.ref A.h):=by
 unfold bB;rw[ao,Ir s5,ao,Ir s4,ao,Iu rfl]
theorem FA (A:HA):(bB A).lookup ("circles" : Str)=some (.ref A.c):=by
 unfold bB;rw[ao,Ir s6,ao,Iu rfl]
theorem Ci (A:HA):(bB A).lookup ("deeds" : Str)=some (.ref A.d):=by
 unfold bB;rw[ao,Iu rfl]
theorem AF (A:HA){m:Str}(h1:¬ m="worn")(h2:¬ m="holders")(h3:¬ m="circles")(h4:¬ m="deeds"):(bB A).lookup m=none:=by
 unfold bB;rw[ao,Ir h4,ao,Ir h3,ao,Ir h2,ao,Ir h1];rfl
theorem tY (A:HA) {m:Str} (h:¬ m="worn"/\¬ m="holders"/\¬ m="circles"/\¬ m="deeds"):(bB A).lookup m=none:=AF A h.1 h.2.1 h.2.2.1 h.2.2.2
def dv (H:Hp)(d:Addr)(ds:List aB):Prop:=∃ as:List Addr,H d=some (.lst (as.map V.ref))/\Paired (fun a x=>H a=some (cj x)) as ds
structure aF (C:Addr)(H:Hp)(p:Addr)(A:HA)(st:bP):Prop where
 ob:H p=some (.ins C A.dx (bB A))
 nd:A.fp.Nodup
 w:H A.w=some (.dK (dk st.worn))
 h:H A.h=some (.dK (dk st.hold))
 c:H A.c=some (.dK (dL A.cs st.circ))
 cs:Paired (fun a (x:Int×List Int)=>H a=some (.dK (mq x.2))) A.cs st.circ
 d:dv H A.d st.deeds
def Kp (fp:List Addr)(H H':Hp):Prop:=∀ b o,H b=some o->b∉fp->H' b=some o
theorem Kp.of_same {fp:List Addr}{H H':Hp}(s:ay H H'):Kp fp H H':=fun b o e _=>s b o e
theorem Kp.trans {fp fp':List Addr}{H H1 H2:Hp}(a:Kp fp H H1)(b:Kp fp' H1 H2)(h:∀ x∈fp',x∈fp\/H x=none):Kp fp H H2:=fun x o e n =>
 b x o (a x o e n) fun z=>(h x z).elim n fun y=>by rw[e]at y;cases y
theorem d7 {H H':Hp}{d:Addr}{ds:List aB}(r:dv H d ds)(s:ay H H'):dv H' d ds:=by
 obtain⟨as,h,p⟩:=r;exact⟨as,s _ _ h,Paired.mapP p fun a q z=>s _ _ z⟩
theorem aF.mono {C:Addr}{H H':Hp}{p:Addr}{A:HA}{st:bP}(x:aF C H p A st)(s:ay H H'):aF C H' p A st :=
 ⟨s _ _ x.ob,x.nd,s _ _ x.w,s _ _ x.h,s _ _ x.c,Paired.mapP x.cs fun a q z=>s _ _ z,d7 x.d s⟩
theorem aF.kept {C:Addr}{H H':Hp}{p:Addr}{A:HA}{st:bP}{fp:List Addr}(x:aF C H p A st)(k:Kp fp H H')(hp:p∉fp)(hd:∀ b∈A.fp,b∉fp)(ht:∀ b xs,H b=some (.tup xs)->b∉fp):aF C H' p A st:=by
 have m:∀ b∈A.fp,∀ o,H b=some o->H' b=some o:=fun b hb o e=>k b o e (hd b hb);refine⟨k _ _ x.ob hp,x.nd,m _ (by simp[HA.fp]) _ x.w,m _ (by simp[HA.fp]) _ x.h,m _ (by simp[HA.fp]) _ x.c,?_,?_⟩
 ·have:∀ (cs:List Addr)(ci:List (Int×List Int)),(∀ b∈cs,b∈A.fp)->Paired (fun a (x:Int×List Int)=>H a=some (.dK (mq x.2))) cs ci->Paired (fun a (x:Int×List Int)=>H' a=some (.dK (mq x.2))) cs ci:=by
   intro cs ci hc hp
   induction hp with
   | nil=>exact .nil
   | cons e _ ih=>exact .cons (m _ (hc _ IB) _ e) (ih fun b hb=>hc b (Iy _ hb))
  exact this _ _ (fun b hb=>by simp[HA.fp,hb]) x.cs
 ·obtain⟨as,h,hp⟩:=x.d
  refine⟨as,m _ (by simp[HA.fp]) _ h,Paired.mapP hp fun a q z=>?_⟩
  cases q with
  | come g=>exact k _ _ z (ht _ _ z)
  | go g=>exact k _ _ z (ht _ _ z)
  | exch a b=>exact k _ _ z (ht _ _ z)
def cv (l:List (Int×Int))(g:Int):List (Int×Int):=l.filter fun p=>decide (p.1≠g)
theorem pX (l:List (Int×Int))(g:Int):pW (dk l) (Sum.inl g:ca)=dk (cv l g):=by
 unfold pW dk cv;rw[List.filter_map]
 congr 1
 apply List.filter_congr
 intro p _;simp[Function.comp]
theorem gY (l:List (Int×Int))(g h:Int):look (cv l g) h=if h=g then none else look l h:=by
 induction l with
 | nil=>simp[cv,look]
 | cons p r ih =>
  unfold cv at ih ⊢;rw[JM]
  by_cases e:p.1=g
  ·rw[Ir (by simp[e]),ih]
   by_cases hh:h=g
   ·simp[hh]
   ·have:¬ p.1=h:=fun z=>hh (z.symm.trans e)
    simp[hh,look,this]
  ·rw[Iu (by simp[e])]
   show (if p.1=h then some p.2 else look _ h)=_
   rw[ih]
   by_cases hh:h=g
   ·subst hh;simp[e]
   ·simp[hh,look]
theorem mZ {l:List (Int×Int)}{g h:Int}:h∈av (cv l g)↔h∈av l/\h≠g:=by
 rw[<-bN,gY,<-bN]
 by_cases e:h=g<;>simp[e]
inductive y7 where
 | done | already | masked | same | met | noguest (g:Int)
 deriving DecidableEq
def mz:List (Int×List Int)->Int->List Int
 | [],_=>[]
 | x::r,g=>if x.1=g then x.2 else mz r g
def jf (c:List (Int×List Int))(a b:Int):Bool:=decide (b∈mz c a)
def iN (ks:List Int)(b:Int):List Int:=if b∈ks then ks else ks++[b]
def bM:List (Int×List Int)->Int->Int->List (Int×List Int)
 | [],a,b=>[(a,[b])]
 | x::r,a,b=>if x.1=a then (x.1,iN x.2 b)::r else x::bM r a b
def aE (st:bP):aB->y7
 | .come g=>if (look st.worn g).isSome then .already else .done
 | .go g=>match look st.worn g with | none=>.noguest g | some m=>if m=g then .done else .masked
 | .exch a b=>match look st.worn a with
  | none=>.noguest a
  | some _=>match look st.worn b with
   | none=>.noguest b
   | some _=>if a=b then .same else if jf st.circ a b then .met else .done
def after (st:bP):aB->bP
 | .come g=>{ worn:=put st.worn g g,hold:=put st.hold g g,circ:=st.circ,deeds:=st.deeds++[.come g] }
 | .go g=>{ worn:=cv st.worn g,hold:=cv st.hold g,circ:=st.circ,deeds:=st.deeds++[.go g] }
 | .exch a b=>{ worn:=put (put st.worn a (wr st.worn b)) b (wr st.worn a),hold:=put (put st.hold (wr st.worn b) a) (wr st.worn a) b,circ:=bM (bM st.circ a b) b a,deeds:=st.deeds++[.exch a b] }
def names:aB->List Int
 | .come g=>[g]
 | .go g=>[g]
 | .exch a b=>[a,b]
def aJ (g:Int):Prop:=g.natAbs<10 ^ 100
structure pI (st:bP):Prop where
 w:st.worn.length<1000
 h:st.hold.length<1000
 c:st.circ.length<1000
 k:∀ x∈st.circ,x.2.length<1000
 d:st.deeds.length<1000
structure HX where
 C:Addr
 cW:Addr
 cA:Addr
 cM:Addr
 cS:Addr
 cT:Addr
 cN:Addr
 fN:Addr
def gH (c:HX)(E:XK)(H:Hp):y7->Prop
 | .done=>False
 | .already=>∀ H',ay H H'->E (.ref c.cA) none H'
 | .masked=>∀ H',ay H H'->E (.ref c.cM) none H'
 | .same=>∀ H',ay H H'->E (.ref c.cS) none H'
 | .met=>∀ H',ay H H'->E (.ref c.cT) none H'
 | .noguest g=>∀ dx H',ay H H'->H' dx=some (.xd [("guest",.int g)])->E (.ref c.cN) (some dx) H'
def Tr (H H':Hp):Prop:=∀ b o,H b=some o->∃ o',H' b=some o'
theorem Tr.refl {H:Hp}:Tr H H:=fun _ o e=>⟨o,e⟩
theorem Tr.trans {H H1 H2:Hp}(a:Tr H H1)(b:Tr H1 H2):Tr H H2:=fun x o e=>let ⟨o',e'⟩:=a x o e;b x o' e'
theorem Tr.of_same {H H':Hp}(s:ay H H'):Tr H H':=fun b o e=>⟨o,s b o e⟩
theorem Tr.upd {H H1:Hp}(a:Tr H H1)(x:Addr)(u:HO):Tr H (upd H1 x u):=fun b o e=>by
 by_cases h:b=x
 ·exact⟨u,by rw[h,ac]⟩
 ·obtain⟨o',e'⟩:=a b o e
  exact⟨o',by rw[af h];exact e'⟩
theorem Tr.free {H H':Hp}(a:Tr H H'){b:Addr}(h:H' b=none):H b=none:=by
 cases e:H b with
 | none=>rfl
 | some o=>obtain⟨o',e'⟩:=a b o e;rw[h]at e';cases e'
def Ah (C:Addr)(H:Hp)(p:Addr)(A:HA)(st':bP)(H':Hp):Prop:=∃ A':HA,aF C H' p A' st'/\Kp A.fp H H'/\(∀ b∈A'.fp,b∈A.fp\/H b=none)/\Tr H H'
def rG (c:HX)(H:Hp)(p:Addr)(A:HA)(st:bP)(d:aB)(Q:VK)(E:XK):Prop :=
 if aE st d=.done then ∀ H',Ah c.C H p A (after st d) H'->Q .non H' else gH c E H (aE st d)
inductive BE (C:Addr) (vs:List V) (H:Hp) (Q:VK) (E_:XK):Prop
 | mk (p dx:Addr) (_:vs=[.ref p]) (_:H p=some (.ins C dx [])) (_:∀ (A:HA)(H':Hp),aF C H' p A ⟨[],[],[],[]⟩->(∀ b o,H b=some o->b≠p->H' b=some o)->(∀ b∈A.fp,H b=none)->Q .non H')
inductive Bw (c:HX) (vs:List V) (H:Hp) (Q:VK) (E:XK):Prop
 | mk (p:Addr) (A:HA) (st:bP) (g:Int) (_:vs=[.ref p,.int g]) (_:aF c.C H p A st) (_:pI st) (_:aJ g) (_:rG c H p A st (.come g) Q E)
inductive FY (c:HX) (vs:List V) (H:Hp) (Q:VK) (E:XK):Prop
 | mk (p:Addr) (A:HA) (st:bP) (g:Int) (_:vs=[.ref p,.int g]) (_:aF c.C H p A st) (_:pI st) (_:aJ g) (_:(∀ m,look st.worn g=some m->aJ m/\(m=g->(look st.hold g).isSome))) (_:rG c H p A st (.go g) Q E)
inductive By (c:HX) (vs:List V) (H:Hp) (Q:VK) (E:XK):Prop
 | mk (p:Addr) (A:HA) (st:bP) (a b:Int) (_:vs=[.ref p,.int a,.int b]) (_:aF c.C H p A st) (_:pI st) (_:aJ a) (_:aJ b) (_:rG c H p A st (.exch a b) Q E)
inductive uK (C:Addr) (vs:List V) (H:Hp) (Q:VK) (E_:XK):Prop
 | mk (p:Addr) (A:HA) (st:bP) (g m:Int) (_:vs=[.ref p,.int g,.int m]) (_:aF C H p A st) (_:st.worn.length<2000) (_:st.hold.length<2000) (_:Q .non (upd (upd H A.w (.dK (dk (put st.worn g m)))) A.h (.dK (dk (put st.hold m g)))))
inductive iz (c:HX) (vs:List V) (H:Hp) (Q:VK) (E:XK):Prop
 | mk (p:Addr) (A:HA) (st:bP) (g:Int) (h_0:vs=[.ref p,.int g]) (h_1:aF c.C H p A st) (h_2:aJ g) (h_3:match look st.worn g with
 | some m=>Q (.int m) H
 | none=>gH c E H (.noguest g)):iz c vs H Q E
inductive ww (C:Addr) (vs:List V) (H:Hp) (Q:VK) (E_:XK):Prop
 | mk (p:Addr) (A:HA) (st:bP) (_:vs=[.ref p]) (_:aF C H p A st) (_:st.worn.length<64) (_:∀ l,H l=none->Q (.ref l) (upd H l (.lst ((df (av st.worn)).map V.int))))
inductive Dy (C:Addr) (vs:List V) (H:Hp) (Q:VK) (E_:XK):Prop
 | mk (p:Addr) (A:HA) (st:bP) (a b:Int) (_:vs=[.ref p,.int a,.int b]) (_:aF C H p A st) (_:∀ H',ay H H'->Q (.bl (jf st.circ a b)) H')
inductive Dv (C:Addr) (vs:List V) (H:Hp) (Q:VK) (E_:XK):Prop
 | mk (p:Addr) (A:HA) (st:bP) (a b:Int) (_:vs=[.ref p,.int a,.int b]) (_:aF C H p A st) (_:st.circ.length<2000) (_:(∀ x∈st.circ,x.2.length<2000)) (_:∀ H',Ah C H p A { st with circ:=bM st.circ a b } H'->Q .non H')
inductive rA (C:Addr) (vs:List V) (H:Hp) (Q:VK) (E_:XK):Prop
 | mk (p:Addr) (A:HA) (st:bP) (_:vs=[.ref p]) (_:aF C H p A st) (_:Q (.int st.deeds.length) H)
structure HT (K:PySem.W.Frag)(mg:Str->Option Value)(c:HX):Prop where
 cl:uZ K c.C
 nW:bW K c.C "worn"
 nH:bW K c.C "holders"
 nC:bW K c.C "circles"
 nD:bW K c.C "deeds"
 mC:mg "Hall" = some (.ref c.C)
 eA:eY K c.cA
 eM:eY K c.cM
 eS:eY K c.cS
 eT:eY K c.cT
 mA:mg "AlreadyIn" = some (.ref c.cA)
 mM:mg "Masked" = some (.ref c.cM)
 mS:mg "Same" = some (.ref c.cS)
 mT:mg "Met" = some (.ref c.cT)
 mN:mg "NoGuest" = some (.ref c.cN)
 mW:mg "WaltzError" = some (.ref c.cW)
 eN:gI K c.cN c.fN=true
 gN:Ge K c.cN "guest"
 tN:PySem.W.typeIn K (.ref c.fN)=some (.type "function")
 wS:PySem.W.specialIn K (.ref c.cW) "__getattribute__" = some (some (.builtin "type.__getattribute__"))
 wR:PySem.W.readsIn K c.cW (.type "type")=true
 wI:PySem.W.findCls K (.ref c.cW) (.type "type") "__init__" = some (.val (.builtin "ValueError.__init__"))
structure HM (K:PySem.W.Frag)(c:HX):Prop where
 aa:PySem.W.exmOne K (.ref c.cA) (.ref c.cA)=some true
 ma:PySem.W.exmOne K (.ref c.cM) (.ref c.cA)=some false
 mm:PySem.W.exmOne K (.ref c.cM) (.ref c.cM)=some true
 sa:PySem.W.exmOne K (.ref c.cS) (.ref c.cA)=some false
 sm:PySem.W.exmOne K (.ref c.cS) (.ref c.cM)=some false
 ss:PySem.W.exmOne K (.ref c.cS) (.ref c.cS)=some true
 ta:PySem.W.exmOne K (.ref c.cT) (.ref c.cA)=some false
 tm:PySem.W.exmOne K (.ref c.cT) (.ref c.cM)=some false
 ts:PySem.W.exmOne K (.ref c.cT) (.ref c.cS)=some false
 tt:PySem.W.exmOne K (.ref c.cT) (.ref c.cT)=some true
 na:PySem.W.exmOne K (.ref c.cN) (.ref c.cA)=some false
 nm:PySem.W.exmOne K (.ref c.cN) (.ref c.cM)=some false
 ns:PySem.W.exmOne K (.ref c.cN) (.ref c.cS)=some false
 nt:PySem.W.exmOne K (.ref c.cN) (.ref c.cT)=some false
 nn:PySem.W.exmOne K (.ref c.cN) (.ref c.cN)=some true
def pJ (P:Program)(w:World)(K:PySem.W.Frag)(mg:Str->Option Value)(base:Heap)(c:HX):Prop:=∃ fd:FuncData,aR P w K mg base c0 1 c.fN fd ["self","guest"] (BD c.cN "guest")/\dE K fd ["self","guest"] []
theorem A4 {X:Cx}{c:HX}{E:XK}{e:Expr}{te:TE}{np cpos pos:Pos}(N:pJ X.prog X.w X.K X.mg X.base c)(U:HT X.K X.mg c)(hr:bX 2 X.A)(hfl:u6 X E)(hex:X.ex=[])(hh:X.A.handled=none)(hg:Gl X "NoGuest")(he:PE X e te)
  (hs:starEach [e] X.env=[(false,eval e X.env)]:=by rfl):PS X (.Raise (some (.Call (.Name "NoGuest" np) [e] [] cpos)) none pos) (uQ te c.cN "guest" E):=by
 obtain⟨fd,G,hb⟩:=N;exact tf U.eN U.tN G hr hb hfl hex hh hg U.mN he (by decide) hs
section
variable {C:Addr}{H:Hp}{p t:Addr}{A:HA}{st:bP}
structure x2 (A:HA):Prop where
 wh:A.w≠A.h
 wc:A.w≠A.c
 wd:A.w≠A.d
 hc:A.h≠A.c
 hd:A.h≠A.d
 cd:A.c≠A.d
 w:A.w∉A.cs
 h:A.h∉A.cs
 c:A.c∉A.cs
 d:A.d∉A.cs
 cs:A.cs.Nodup
theorem aF.apart (S:aF C H p A st):x2 A:=by
 have:=S.nd;simp only[HA.fp,Jk,IC,not_or]at this;obtain⟨⟨a1,a2,a3,a4⟩,⟨b1,b2,b3⟩,⟨c1,c2⟩,d1,e⟩:=this;exact⟨a1,a2,a3,b1,b2,c1,a4,b3,c2,d1,e⟩
theorem aF.pne (S:aF C H p A st):p∉A.fp:=by
 have n1:p≠A.w:=bQ S.ob S.w (by intro z;cases z);have n2:p≠A.h:=bQ S.ob S.h (by intro z;cases z);have n3:p≠A.c:=bQ S.ob S.c (by intro z;cases z);obtain⟨as,hd,_⟩:=S.d;have n4:p≠A.d:=bQ S.ob hd (by intro z;cases z)
 have n5:p∉A.cs:=fun z=>by
  obtain⟨i,hi,e⟩:=J9 z;obtain⟨b,_,q⟩:=bY S.cs (IM hi);rw[e,S.ob]at q;cases q
 simp[HA.fp,n1,n2,n3,n4,n5]
theorem lA {H H':Hp}:∀ {cs:List Addr}{ci:List (Int×List Int)},Paired (fun a (x:Int×List Int)=>H a=some (.dK (mq x.2))) cs ci->(∀ b∈cs,∀ o,H b=some o->H' b=some o)->Paired (fun a (x:Int×List Int)=>H' a=some (.dK (mq x.2))) cs ci:=by
 intro cs ci hp k
 induction hp with
 | nil=>exact .nil
 | cons e _ ih=>exact .cons (k _ IB _ e) (ih fun b hb=>k b (Iy _ hb))
theorem dM (x:aB):∃ xs,cj x=.tup xs:=by cases x<;>exact⟨_,rfl⟩
theorem aF.tup (S:aF C H p A st){b:Addr}{xs:List V}(e:H b=some (.tup xs)):b∉A.fp:=by
 have n1:b≠A.w:=bQ e S.w (by intro z;cases z);have n2:b≠A.h:=bQ e S.h (by intro z;cases z);have n3:b≠A.c:=bQ e S.c (by intro z;cases z);obtain⟨as,hd,_⟩:=S.d;have n4:b≠A.d:=bQ e hd (by intro z;cases z)
 have n5:b∉A.cs:=fun z=>by
  obtain⟨i,hi,e'⟩:=J9 z;obtain⟨y,_,q⟩:=bY S.cs (IM hi);rw[e',e]at q;cases q
 simp[HA.fp,n1,n2,n3,n4,n5]
theorem aF.tracked (S:aF C H p A st){b:Addr}(h:b∈A.fp):∃ o,H b=some o:=by
 simp only[HA.fp,IC]at h;rcases h with rfl | rfl | rfl | rfl | h
 ·exact⟨_,S.w⟩
 ·exact⟨_,S.h⟩
 ·exact⟨_,S.c⟩
 ·obtain⟨as,hd,_⟩:=S.d;exact⟨_,hd⟩
 ·obtain⟨i,hi,rfl⟩:=J9 h
  obtain⟨y,_,q⟩:=bY S.cs (IM hi);exact⟨_,q⟩
theorem x2.fp {A:HA}(a:x2 A):A.fp.Nodup:=by
 simp only[HA.fp,Jk,IC,not_or];exact⟨⟨a.wh,a.wc,a.wd,a.w⟩,⟨a.hc,a.hd,a.h⟩,⟨a.cd,a.c⟩,a.d,a.cs⟩
theorem fG {fp:List Addr}{a:Addr}{o:HO}(h:a∈fp):Kp fp H (upd H a o):=fun b u e n=>by
 rw[af (fun z:b=a=>n (by rw[z];exact h))];exact e
theorem xc {fp:List Addr}{a:Addr}{o:HO}(h:H a=none):Kp fp H (upd H a o):=fun b u e n=>by
 rw[af (ah e h)];exact e
theorem Kp.on {fp:List Addr}{H1 H2:Hp}(a:Kp fp H H1)(b:Kp fp H1 H2):Kp fp H H2:=fun x o e n=>b x o (a x o e n) n
theorem tX (S:aF C H p A st)(w':List (Int×Int)):aF C (upd H A.w (.dK (dk w'))) p A { st with worn:=w' }:=by
 have a:=S.apart;have np:=S.pne;simp only[HA.fp,IC,not_or]at np;refine⟨by rw[af np.1];exact S.ob,S.nd,ac,by rw[af (IJ a.wh)];exact S.h,by rw[af (IJ a.wc)];exact S.c,lA S.cs fun b hb o e=>by rw[af (fun z:b=A.w=>a.w (by rw[<-z];exact hb))];exact e,?_⟩;obtain⟨as,hd,hp⟩:=S.d;refine⟨as,by rw[af (IJ a.wd)];exact hd,Paired.mapP hp fun b x e=>?_⟩;obtain⟨xs,ex⟩:=dM x;rw[af (fun z=>S.tup (xs:=xs) (by rw[<-ex];exact e) (by rw[z];simp[HA.fp]))];exact e
theorem tW (S:aF C H p A st)(w':List (Int×Int)):aF C (upd H A.h (.dK (dk w'))) p A { st with hold:=w' }:=by
 have a:=S.apart;have np:=S.pne;simp only[HA.fp,IC,not_or]at np;refine⟨by rw[af np.2.1];exact S.ob,S.nd,by rw[af a.wh];exact S.w,ac,by rw[af (IJ a.hc)];exact S.c,lA S.cs fun b hb o e=>by rw[af (fun z:b=A.h=>a.h (by rw[<-z];exact hb))];exact e,?_⟩;obtain⟨as,hd,hp⟩:=S.d;refine⟨as,by rw[af (IJ a.hd)];exact hd,Paired.mapP hp fun b x e=>?_⟩;obtain⟨xs,ex⟩:=dM x;rw[af (fun z=>S.tup (xs:=xs) (by rw[<-ex];exact e) (by rw[z];simp[HA.fp]))];exact e
theorem mJ (S:aF C H p A st){as:List Addr}(hd:H A.d=some (.lst (as.map V.ref)))(hp:Paired (fun a x=>H a=some (cj x)) as st.deeds)(x:aB)(ht:H t=none) :
  aF C (upd (upd H t (cj x)) A.d (.lst (as.map V.ref++[.ref t]))) p A { st with deeds:=st.deeds++[x] }:=by
 have a:=S.apart;have np:=S.pne;simp only[HA.fp,IC,not_or]at np;have n:∀ b o,H b=some o->b≠t:=fun b o e=>ah e ht
 have e1:∀ b o,H b=some o->b≠A.d->(upd (upd H t (cj x)) A.d (.lst (as.map V.ref++[.ref t]))) b=some o:=fun b o e h=>by rw[af h,af (n b o e)];exact e
 have td:t≠A.d:=fun z=>by rw[z,hd]at ht;cases ht
 refine⟨e1 _ _ S.ob np.2.2.2.1,S.nd,e1 _ _ S.w a.wd,e1 _ _ S.h a.hd,e1 _ _ S.c a.cd,lA S.cs fun b hb o e=>e1 b o e (fun z=>a.d (by rw[<-z];exact hb)),as++[t],by rw[ac,IQ];rfl,?_⟩;refine bJ (Paired.mapP hp fun b y e=>?_) (.cons (by rw[af td,ac]) .nil);obtain⟨xs,ex⟩:=dM y;exact e1 b _ e (fun z=>S.tup (xs:=xs) (by rw[<-ex];exact e) (by rw[z];simp[HA.fp]))
theorem yo:A.w∈A.fp:=by simp[HA.fp]
theorem yn:A.h∈A.fp:=by simp[HA.fp]
theorem Dl:A.c∈A.fp:=by simp[HA.fp]
theorem AU:A.d∈A.fp:=by simp[HA.fp]
end
theorem mG {c:HX}{H:Hp}{p:Addr}{A:HA}{st:bP}{d:aB}{Q:VK}{E:XK}(k:rG c H p A st d Q E)(h:aE st d=.done):∀ H',Ah c.C H p A (after st d) H'->Q .non H':=by
 unfold rG at k;rwa [Iu h]at k
theorem fE {c:HX}{H:Hp}{p:Addr}{A:HA}{st:bP}{d:aB}{Q:VK}{E:XK}{o:y7}(k:rG c H p A st d Q E)(h:aE st d=o)(ho:o≠.done):gH c E H o:=by
 unfold rG at k;rwa [h,Ir ho]at k
theorem lL:∀ (ci:List (Int×List Int))(a b:Int),(bM ci a b).length<=ci.length+1
 | [],_,_=>by simp[bM]
 | x::r,a,b=>by
  unfold bM;split
  ·simp
  ·have:=lL r a b;simp;omega
theorem AM (ks:List Int)(b:Int):(iN ks b).length<=ks.length+1:=by unfold iN;split<;>simp
theorem pN {ci:List (Int×List Int)}{a b:Int}{n:Nat}(h:∀ x∈ci,x.2.length<=n)(hn:0<n+1):∀ x∈bM ci a b,x.2.length<=n+1:=by
 induction ci with
 | nil=>intro x hx;simp[bM]at hx;subst hx;simp
 | cons y r ih =>
  intro x hx;unfold bM at hx;split at hx
  ·rcases IC.mp hx with z | z
   ·subst z;have:=AM y.2 b;have:=h y IB;simp only;omega
   ·have:=h x (Iy _ z);omega
  ·rcases IC.mp hx with z | z
   ·subst z;have:=h x IB;omega
   ·exact ih (fun x hx=>h x (Iy _ hx)) x z
theorem yA (ks:List Int)(b:Int):gj (mq ks) (Sum.inl b:ca) (V.bl true)=mq (iN ks b):=by
 unfold gj iN mq
 have e:((ks.map fun k=>((Sum.inl k:ca),V.bl true)).any fun kv=>decide (kv.1=(Sum.inl b:ca)))=decide (b∈ks):=by
  rw[List.any_map]
  induction ks with
  | nil=>rfl
  | cons x r ih=>rw[JL,ih];by_cases h:x=b<;>simp[h,eq_comm]
 rw[e]
 by_cases h:b∈ks
 ·rw[Iu (ID h),Iu h,Jo]
  apply JA
  intro k _;simp only[Function.comp];split<;>rfl
 ·rw[Ir (by simp[h]),Ir h,IQ]
  rfl
theorem uR (ks:List Int)(b:Int):(da (mq ks) (Sum.inl b:ca)).isSome=decide (b∈ks):=by
 rw[<-jy];unfold mq;rw[List.any_map]
 induction ks with
 | nil=>rfl
 | cons x r ih=>rw[JL,ih];by_cases h:x=b<;>simp[h,eq_comm]
section
variable {H:Hp}
abbrev Gs (H:Hp)(cs:List Addr)(ci:List (Int×List Int)):Prop:=Paired (fun a (x:Int×List Int)=>H a=some (.dK (mq x.2))) cs ci
theorem jD:∀ {cs:List Addr}{ci:List (Int×List Int)}(a:Int),Gs H cs ci ->
  (da (dL cs ci) (Sum.inl a:ca)=none/\mz ci a=[]/\∀ b,bM ci a b=ci++[(a,[b])]) \/
  ∃ ad,ad∈cs/\da (dL cs ci) (Sum.inl a:ca)=some (.ref ad)/\H ad=some (.dK (mq (mz ci a))) /\
   ∀ b (H':Hp),cs.Nodup->(∀ x∈cs,x≠ad->∀ o,H x=some o->H' x=some o)->H' ad=some (.dK (mq (iN (mz ci a) b)))->Gs H' cs (bM ci a b)/\dL cs (bM ci a b)=dL cs ci
 | _,_,a,.nil=>.inl ⟨rfl,rfl,fun b=>rfl⟩
 | c::cs,x::ci,a,.cons e r=>by
  by_cases h:x.1=a
  ·refine .inr ⟨c,IB,jA (p:=((Sum.inl x.1:ca),V.ref c)) (by rw[h]),by simp only[mz,Iu h];exact e,fun b H' nd k k'=>?_⟩
   simp only[mz,Iu h]at k';simp only[bM,Iu h];refine⟨.cons k' (lA r fun y hy o z=>k y (Iy _ hy) (fun q=>(Jk.mp nd).1 (by rw[<-q];exact hy)) o z),rfl⟩
  ·have hk:da (dL (c::cs) (x::ci)) (Sum.inl a:ca)=da (dL cs ci) (Sum.inl a:ca):=jz (p:=((Sum.inl x.1:ca),V.ref c)) (fun z=>h (Sum.inl.inj z))
   have hc:mz (x::ci) a=mz ci a:=by simp only[mz,Ir h]
   rcases jD a r with ⟨h1,h2,h3⟩ | ⟨ad,h1,h2,h3,h4⟩
   ·exact .inl ⟨by rw[hk];exact h1,by rw[hc];exact h2,fun b=>by simp only[bM,Ir h,h3 b,List.cons_append]⟩
   ·refine .inr ⟨ad,Iy _ h1,by rw[hk];exact h2,by rw[hc];exact h3,fun b H' nd k k'=>?_⟩
    rw[hc]at k';obtain⟨n1,n2⟩:=Jk.mp nd;obtain⟨q1,q2⟩:=h4 b H' n2 (fun y hy=>k y (Iy _ hy)) k';simp only[bM,Ir h];refine⟨.cons (k c IB (fun z=>n1 (by rw[z];exact h1)) _ e) q1,?_⟩
    show _::dL cs (bM ci a b)=_::dL cs ci
    rw[q2]
theorem pQ:∀ {cs:List Addr}{ci:List (Int×List Int)}(a:Int)(ks:List Int)(l:Addr),cs.length=ci.length->dL (cs++[l]) (ci++[(a,ks)])=dL cs ci++[(Sum.inl a,V.ref l)]
 | [],[],_,_,_,_=>rfl
 | c::cs,x::ci,a,ks,l,h=>by
  show _::dL (cs++[l]) (ci++[(a,ks)])=_
  rw[pQ a ks l (by simpa using h)];rfl
theorem sQ:∀ {cs:List Addr}{ci:List (Int×List Int)},cs.length=ci.length->(dL cs ci).length=ci.length
 | [],[],_=>rfl
 | c::cs,x::ci,h=>by show (dL cs ci).length+1=_;rw[sQ (by simpa using h)];rfl
end
end Wz
namespace L2
open PySem PySem.Spec PyProof.Rows
def EZ (td ty tx:TE):TE:=fun σ H Q=>td σ H fun x H1=>∃ a,x=.ref a/\Gb H1 a/\ty σ H1 fun y H2=>tx σ H2 fun z H3=>∃ kvs k,H3 a=some (.dK kvs)/\y=kV k/\kvs.length<sizeLine /\
 (∀ v,da kvs k=some v->Q v H3)/\(da kvs k=none->Q z (upd H3 a (.dK (gj kvs k z))))
theorem A9 {X:Cx}{o e f:Expr}{apos cpos:Pos}{td ty tx:TE}(ho:PE X o td)(he:PE X e ty)(hf:PE X f tx)(m:M2 X o "setdefault" apos e f cpos):PE X (.Call (.Attribute o "setdefault" apos) [e,f] [] cpos) (EZ td ty tx):=by
 intro pins s σ H Q I h;refine wpAny_Call_method m.base m.few m.line PySem.F.plainAttrs_dict PySem.F.slot_dict_setdefault PySem.F.type_dict_setdefault (bq (ho pins s σ H _ I h) fun u s1 ⟨x,H1,I1,rx,a,ex,d,q1⟩=>?_);subst ex;obtain rfl:u=Value.ref a:=rx;obtain⟨t1,t2,_⟩:=w9 I1 d;refine⟨t1,t2,?_⟩;rw[m.trees]
 refine JV rfl (JF (Jz (bq (he pins s1 σ H1 _ I1 q1) fun iv s2 ⟨y,H2,I2,ry,q2⟩ =>
  Jz (bq (hf pins s2 σ H2 _ I2 q2) fun fv s3 ⟨z,H3,I3,rz,kvs,k,ea,ey,hlt,q3,q4⟩=>JR ?_))))
 subst ey;obtain⟨hz,hd,vs,rel,dd⟩:=Ar I3.hok ea
 refine call_meetsIn PySem.F.slot_dict_setdefault dd.typeIs PySem.F.entry_dict_setdefault (PySem.F.args_dict_setdefault_3 _ _ _) (kt_meets_setdefault (bt X.prog X.w) a (oo ry) hd fv)
  ⟨vs,dd,by rw[<-rel.length];exact hz,fun v' hv'=>?_,fun hn h' dd' hs=>?_⟩
 ·cases l:da kvs k with
  | none=>have:=rel.val k;rw[l,hv']at this;exact this.elim
  | some v =>
   have:=rel.val k;rw[l,hv']at this;exact⟨v,H3,I3.tok _,this,q3 v l⟩
 ·cases l:da kvs k with
  | some v=>have:=rel.val k;rw[l,hn]at this;exact this.elim
  | none =>
   have he:∃ q,h'.get? a=some q:=let ⟨q,_,_,hq,_⟩:=dd';⟨q,hq⟩;exact⟨z,_,pb I3 (by rw[ea];exact True.intro) hs he (wV (by have:=je kvs k z;omega) hd (rel.put k rz) dd'),rz,q4 l⟩
section
variable {X:Cx}
theorem zh:gR X (.type "set") (fun xs H Q=>xs=[]/\∀ p,H p=none->Q (.ref p) (upd H p (.set (fun _=>false) 0))):=by
 intro pins s σ H xs us Q I r h;obtain⟨rfl,q⟩:=h;cases r;refine call_set_0 fun led=>?_;refine⟨.ref s.heap.objs.size,_,I.laid (t':=s.toks) (fun b u e=>Iw _ e) (Ix _) ?_,rfl,q _ (I.hok.fresh (Ix _))⟩
 show Heap.SetOf (intKind X.prog X.w) _ _ _ _
 exact ((intSetOf_fresh led).kind X.prog X.w).setOf (IV _ rfl) (by decide)
inductive G0 (neg:Bool) (x:V) (y:V) (H:Hp) (Q:VK):Prop
 | mk (p:Addr) (S:Int->Bool) (n:Nat) (i:Int) (_:x=.int i) (_:y=.ref p) (_:H p=some (.set S n)) (_:Q (.bl (if neg then !S i else S i)) H)
theorem zP:k8 X (compareOp .NotIn) (G0 true):=by
 intro pins s σ H x y v u Q I rx ry h;obtain⟨p,S,n,i,rfl,rfl,hp,q⟩:=h;obtain⟨t,rfl⟩:=rx;cases ry;have hS:s.heap.SetOf (intKind X.prog X.w) p S n:=I.hok p _ hp;exact wpAny_notInSet_of (k:=i) (by show Value.isInt i (.int i t)=true;simp[Value.isInt]) rfl hS ⟨.bl (!S i),H,I.tok _,rfl,q⟩
inductive FS (x:V) (vs:List V) (H:Hp) (Q:VK):Prop
 | mk (p:Addr) (S:Int->Bool) (n:Nat) (i:Int) (_:x=.ref p) (_:vs=[.int i]) (_:H p=some (.set S n)) (_:n+1<4096) (_:Q .non (upd H p (.set (fun k=>S k||decide (k=i)) (if S i then n else n+1))))
theorem CA:Hl X "set.add" FS:=by
 intro pins s σ H x vs v us Q I rx rv h;obtain⟨p,S,n,i,rfl,rfl,hp,hn,q⟩:=h;cases rx;obtain⟨u,rfl,ru⟩:=rv.one;obtain⟨t,rfl⟩:=ru;have hS:s.heap.SetOf (intKind X.prog X.w) p S n:=I.hok p _ hp;refine call_set_add (k:=i) (by show Value.isInt i (.int i t)=true;simp[Value.isInt]) rfl hS hn fun h' hsb hS'=>?_;obtain⟨o,_,_,_,ho,_⟩:=id hS';exact⟨.non,_,I.write (t':=s.toks+1) (o:=.set (fun k=>S k||decide (k=i)) (if S i then n else n+1)) (by rw[hp];trivial) (.inl rfl) (fun b u hb e=>(hsb.2 b hb).trans e) ⟨o,ho⟩ hS',rfl,q⟩
end
end L2
namespace Wz
open PySem L2
theorem FC {A:Around}{k n:Nat}(hr:bX k A)(h:n<=200):A.units+n<cLine:=by have:=hr.un;omega
theorem cc:decide (V.str "come" = V.str "come")=true:=by decide +kernel
theorem cg:decide (V.str "come" = V.str "go")=false:=by decide +kernel
theorem ce:decide (V.str "come" = V.str "exchange")=false:=by decide +kernel
theorem gc:decide (V.str "go" = V.str "come")=false:=by decide +kernel
theorem gg:decide (V.str "go" = V.str "go")=true:=by decide +kernel
theorem ge:decide (V.str "go" = V.str "exchange")=false:=by decide +kernel
theorem ec:decide (V.str "exchange" = V.str "come")=false:=by decide +kernel
theorem eg:decide (V.str "exchange" = V.str "go")=false:=by decide +kernel
theorem ee:decide (V.str "exchange" = V.str "exchange")=true:=by decide +kernel
def word:aB->Str
 | .come _=>"come"
 | .go _=>"go"
 | .exch _ _=>"exchange"
def de (d:aB):List V:=V.str (word d)::(names d).map V.int
theorem il (d:aB):cj d=.tup (de d):=by cases d<;>rfl
theorem vc (d:aB):ij (de d) (some 1) none=(names d).map V.int:=by cases d<;>rfl
theorem x9 (d:aB):¬ (HT.sIx (de d).length 0 (some 1)=0/\HT.sIx (de d).length (de d).length none=(de d).length):=by cases d<;>(intro h;have h1:=h.1;simp[de,names,HT.sIx]at h1)
def bF (w:List (Int×Int))(m:Int->Int->Bool):aB->y7
 | .come g=>if (look w g).isSome then .already else .done
 | .go g=>match look w g with | none=>.noguest g | some x=>if x=g then .done else .masked
 | .exch a b=>match look w a with
  | none=>.noguest a
  | some _=>match look w b with
   | none=>.noguest b
   | some _=>if a=b then .same else if m a b then .met else .done
theorem Cm (st:bP)(d:aB):aE st d=bF st.worn (jf st.circ) d:=by cases d<;>rfl
theorem t7 {w:List (Int×Int)}{m m':Int->Int->Bool}(h:∀ a b,m a b=m' a b)(d:aB):bF w m d=bF w m' d:=by cases d<;>simp only[bF,h]
def gJ (a b:Int):Int×Int:=if b<a then (b,a) else (a,b)
def oR (ml:List (Int×Int))(a b:Int):Bool:=decide (gJ a b∈ml)
def zE (ml:List (Int×Int)):List (List ca×V):=ml.map fun p=>([Sum.inl p.1,Sum.inl p.2],V.bl true)
def pO (ml:List (Int×Int))(p:Int×Int):List (Int×Int):=if p∈ml then ml else ml++[p]
def CM:y7->List V
 | .done=>[.str "done",.non]
 | .already=>[.str "AlreadyIn",.non]
 | .masked=>[.str "Masked",.non]
 | .same=>[.str "Same",.non]
 | .met=>[.str "Met",.non]
 | .noguest g=>[.str "NoGuest",.int g]
def tO (w:List (Int×Int)):aB->List (Int×Int)
 | .come g=>put w g g
 | .go g=>cv w g
 | .exch a b=>put (put w a (wr w b)) b (wr w a)
def pP (ml:List (Int×Int)):aB->List (Int×Int)
 | .come _=>ml
 | .go _=>ml
 | .exch a b=>pO ml (gJ a b)
theorem wP (st:bP)(d:aB):(after st d).worn=tO st.worn d:=by cases d<;>rfl
theorem yq (ml:List (Int×Int))(p:Int×Int):((zE ml).any fun kv=>decide (kv.1=([Sum.inl p.1,Sum.inl p.2]:List ca)))=decide (p∈ml):=by
 unfold zE;rw[List.any_map]
 induction ml with
 | nil=>rfl
 | cons x r ih =>
  rw[JL,ih]
  have:(decide ((([Sum.inl x.1,Sum.inl x.2]:List ca))=[Sum.inl p.1,Sum.inl p.2]))=decide (p=x):=by
   by_cases h:p=x
   ·subst h;simp
   ·rw[IE h,IE]
    intro z;simp only[List.cons.injEq,Sum.inl.injEq,and_true]at z;exact h (Prod.ext z.1.symm z.2.symm)
  simp only[Function.comp];rw[this]
  by_cases h:p=x<;>simp[h]
theorem Cz (ml:List (Int×Int))(p:Int×Int):(da (zE ml) ([Sum.inl p.1,Sum.inl p.2]:List ca)).isSome=decide (p∈ml):=by rw[<-jy,yq]
theorem Cy (ml:List (Int×Int))(p:Int×Int):gj (zE ml) ([Sum.inl p.1,Sum.inl p.2]:List ca) (V.bl true)=zE (pO ml p):=by
 unfold gj pO;rw[yq]
 by_cases h:p∈ml
 ·rw[Iu (ID h),Iu h]
  unfold zE;rw[Jo]
  apply JA
  intro x _;simp only[Function.comp];split<;>rfl
 ·rw[Ir (by simp[h]),Ir h]
  unfold zE;rw[IQ];rfl
theorem AK {w:List (Int×Int)}{m:Int->Int->Bool}{d:aB}{i:Nat}{x:Int}(hc:word d≠"come")(hp:∀ y∈(names d).take i,(look w y).isSome=true)(hi:(names d)[i]? = some x)(hx:look w x=none):bF w m d=.noguest x:=by
 cases d with
 | come g=>exact absurd rfl hc
 | go g =>
  cases i with
  | zero=>simp[names]at hi;subst hi;simp[bF,hx]
  | succ i=>simp[names]at hi
 | exch a b =>
  cases i with
  | zero=>simp[names]at hi;subst hi;simp[bF,hx]
  | succ i =>
   cases i with
   | zero =>
    simp[names]at hi;subst hi;have:=hp a (by simp[names]);obtain⟨v,hv⟩:=Jn.mp this;simp[bF,hv,hx]
   | succ i=>simp[names]at hi
inductive BB (vs:List V) (H:Hp) (Q:VK) (E_:XK):Prop
 | mk (a b:Int) (_:vs=[.int a,.int b]) (_:∀ t,H t=none->Q (.ref t) (upd H t (.tup [.int (gJ a b).1,.int (gJ a b).2])))
inductive Dw (vs:List V) (H:Hp) (Q:VK) (E_:XK):Prop
 | mk (w m t:Addr) (wl ml:List (Int×Int)) (d:aB) (_:vs=[.ref w,.ref m,.ref t]) (_:H w=some (.dK (dk wl))) (_:H m=some (.dT (zE ml))) (_:H t=some (cj d)) (_:∀ (r:Addr)(H':Hp),H r=none->ay H H'->H' r=some (.tup (CM (bF wl (oR ml) d)))->Q (.ref r) H')
inductive yF (vs:List V) (H:Hp) (Q:VK) (E_:XK):Prop
 | mk (w m t:Addr) (wl ml:List (Int×Int)) (d:aB) (_:vs=[.ref w,.ref m,.ref t]) (_:H w=some (.dK (dk wl))) (_:H m=some (.dT (zE ml))) (_:H t=some (cj d)) (_:wl.length<=1000) (_:ml.length<=4000) (_:bF wl (oR ml) d=.done) (_:∀ H',H' w=some (.dK (dk (tO wl d)))->H' m=some (.dT (zE (pP ml d)))->(∀ b o,H b=some o->b≠w->b≠m->H' b=some o)->Q .non H')
structure ff (st:bP):Prop where
 wn:(av st.worn).Nodup
 wh:∀ g m,look st.worn g=some m↔look st.hold m=some g
 ow:∀ g m,look st.worn g=some m->m∈av st.worn
 sm:∀ g m,look st.worn g=some m->aJ m
 cy:∀ a b,jf st.circ a b=jf st.circ b a
def dF (st:bP)(d:aB):bP:=if aE st d=.done then after st d else st
def bv (m c:Int):List Int:=(List.range m.toNat).map fun (k:Nat)=>uW (k:Int) c
theorem zo (k c:Int):aJ (uW k c):=by
 unfold aJ uW;have h:∀ x:Int,0<=x%2147483647/\x%2147483647<2147483647:=fun x=>⟨JB _ (by decide),Jw _ (by decide)⟩;dsimp only;generalize hx:(k*(1+d4 c*1234567891%2147483646)+d4 c/2147483646)%2147483647=x;have:=h (k*(1+d4 c*1234567891%2147483646)+d4 c/2147483646);rw[hx]at this
 have e:(10:Nat) ^ 100=10 ^ 15*10 ^ 85:=by rw[<-Nat.pow_add]
 have e2:(0:Nat)<10 ^ 85:=Nat.pow_pos (by decide)
 have:x.natAbs<10 ^ 15/\(x+997852516353).natAbs<10 ^ 15:=by constructor<;>omega
 split
 ·calc _<10 ^ 15:=this.2
   _<=10 ^ 15*10 ^ 85:=Nat.le_mul_of_pos_right _ e2
   _=10 ^ 100:=e.symm
 ·calc _<10 ^ 15:=this.1
   _<=10 ^ 15*10 ^ 85:=Nat.le_mul_of_pos_right _ e2
   _=10 ^ 100:=e.symm
theorem tS (x:Int):∀ (c:List (Int×List Int))(a b:Int),mz (bM c a b) x=if x=a then iN (mz c a) b else mz c x
 | [],a,b=>by
  by_cases h:x=a
  ·subst h;simp[bM,mz,iN]
  ·simp[bM,mz,h,IJ h]
 | y::r,a,b=>by
  unfold bM
  by_cases h:y.1=a
  ·rw[Iu h]
   by_cases hx:x=a
   ·subst hx;simp[mz,h]
   ·have:¬ y.1=x:=fun z=>hx (z.symm.trans h)
    simp[mz,hx,this]
  ·rw[Ir h]
   by_cases hx:x=a
   ·subst hx
    simp only[mz,Ir h,if_true];rw[tS x r x b,Iu rfl]
   ·simp only[mz,tS x r a b,Ir hx]
theorem vC {ks:List Int}{b y:Int}:y∈iN ks b↔y∈ks\/y=b:=by
 unfold iN;split
 ·rename_i h
  constructor
  ·exact .inl
  ·rintro (z | z)
   ·exact z
   ·rw[z];exact h
 ·simp
theorem yp (c:List (Int×List Int))(a b x y:Int):jf (bM c a b) x y=(jf c x y||(decide (x=a)&&decide (y=b))):=by
 unfold jf;rw[tS]
 by_cases h:x=a
 ·subst h
  rw[Iu rfl]
  by_cases hy:y=b
  ·have:y∈iN (mz c x) b:=vC.mpr (.inr hy)
   simp[hy,this];rw[hy]at this;exact this
  ·have:(y∈iN (mz c x) b)↔y∈mz c x:=by rw[vC];simp[hy]
   simp[hy,this]
 ·rw[Ir h];simp[h]
theorem ud (c:List (Int×List Int))(a b x y:Int):jf (bM (bM c a b) b a) x y=(jf c x y||(decide (x=a)&&decide (y=b))||(decide (x=b)&&decide (y=a))):=by rw[yp,yp]
theorem m7 {l:List (Int×Int)}(h:(av l).Nodup)(g m:Int):(av (put l g m)).Nodup:=by
 rw[vw];split
 ·exact h
 ·rename_i n
  exact pj h n
theorem yt {l:List (Int×Int)}(h:(av l).Nodup)(g:Int):(av (cv l g)).Nodup:=by
 unfold av cv at *;exact (List.filter_sublist.map _).nodup h
theorem wY:ff ⟨[],[],[],[]⟩:=by
 refine⟨Kh,fun g m=>?_,fun g m h=>?_,fun g m h=>?_,fun a b=>rfl⟩
 ·simp[look]
 ·simp[look]at h
 ·simp[look]at h
theorem zn {st:bP}{d:aB}(G:ff st)(sm:∀ g∈names d,aJ g):ff (dF st d):=by
 unfold dF
 by_cases hd:aE st d=.done
 ·rw[Iu hd]
  have kw:∀ g m,look st.worn g=some m->g∈av st.worn:=fun g m h=>bN.mp (by rw[h];rfl)
  cases d with
  | come g =>
   have hn:look st.worn g=none:=by
    cases e:look st.worn g with
    | none=>rfl
    | some m=>simp[aE,e]at hd
   have hh:look st.hold g=none:=by
    cases e:look st.hold g with
    | none=>rfl
    | some m =>
     have:=G.ow m g ((G.wh m g).mpr e);rw[<-bN,hn]at this;cases this
   refine⟨m7 G.wn g g,fun x m=>?_,fun x m h=>?_,fun x m h=>?_,G.cy⟩
   ·show look (put st.worn g g) x=some m↔look (put st.hold g g) m=some x
    rw[dO,dO]
    by_cases hx:x=g
    ·subst hx
     by_cases hm:m=x
     ·subst hm;simp
     ·rw[Iu rfl,Ir hm]
      constructor
      ·intro z;exact absurd (IA z).symm hm
      ·intro z
       have:=(G.wh x m).mpr z;rw[hn]at this;cases this
    ·rw[Ir hx]
     by_cases hm:m=g
     ·subst hm
      rw[Iu rfl];constructor
      ·intro z
       have:=(G.wh x m).mp z;rw[hh]at this;cases this
      ·intro z;exact absurd (IA z).symm hx
     ·rw[Ir hm];exact G.wh x m
   ·have h:look (put st.worn g g) x=some m:=h
    show m∈av (put st.worn g g)
    rw[dO]at h;rw[<-bN,dO]
    by_cases hx:x=g
    ·rw[Iu hx]at h;cases h;rw[Iu rfl];rfl
    ·rw[Ir hx]at h
     have:=G.ow x m h;rw[<-bN]at this;split
     ·rfl
     ·exact this
   ·have h:look (put st.worn g g) x=some m:=h
    rw[dO]at h
    by_cases hx:x=g
    ·rw[Iu hx]at h;cases h;exact sm g (by simp[names])
    ·rw[Ir hx]at h;exact G.sm x m h
  | go g =>
   have hg:look st.worn g=some g:=by
    cases e:look st.worn g with
    | none=>simp[aE,e]at hd
    | some m =>
     by_cases z:m=g
     ·rw[z]
     ·simp[aE,e,z]at hd
   have hh:look st.hold g=some g:=(G.wh g g).mp hg;refine⟨yt G.wn g,fun x m=>?_,fun x m h=>?_,fun x m h=>?_,G.cy⟩
   ·show look (cv st.worn g) x=some m↔look (cv st.hold g) m=some x
    rw[gY,gY]
    by_cases hx:x=g
    ·subst hx
     rw[Iu rfl]
     by_cases hm:m=x
     ·rw[Iu hm];simp
     ·rw[Ir hm]
      constructor
      ·intro z;cases z
      ·intro z
       have:=(G.wh x m).mpr z;rw[hg]at this;exact absurd (IA this).symm hm
    ·rw[Ir hx]
     by_cases hm:m=g
     ·subst hm
      rw[Iu rfl];constructor
      ·intro z
       have:=(G.wh x m).mp z;rw[hh]at this;exact absurd (IA this).symm hx
      ·intro z;cases z
     ·rw[Ir hm];exact G.wh x m
   ·have h:look (cv st.worn g) x=some m:=h
    show m∈av (cv st.worn g)
    rw[gY]at h
    by_cases hx:x=g
    ·rw[Iu hx]at h;cases h
    ·rw[Ir hx]at h
     refine mZ.mpr ⟨G.ow x m h,fun z=>?_⟩;rw[z]at h;have:=(G.wh x g).mp h;rw[hh]at this;exact hx (IA this).symm
   ·have h:look (cv st.worn g) x=some m:=h
    rw[gY]at h
    by_cases hx:x=g
    ·rw[Iu hx]at h;cases h
    ·rw[Ir hx]at h;exact G.sm x m h
  | exch a b =>
   obtain⟨ma,ea⟩:∃ m,look st.worn a=some m:=by
    cases e:look st.worn a with
    | none=>simp[aE,e]at hd
    | some m=>exact⟨m,rfl⟩
   obtain⟨mb,eb⟩:∃ m,look st.worn b=some m:=by
    cases e:look st.worn b with
    | none=>simp[aE,ea,e]at hd
    | some m=>exact⟨m,rfl⟩
   have hab:a≠b:=fun z=>by simp[aE,ea,eb,z]at hd
   have wa:wr st.worn a=ma:=by unfold wr;rw[ea];rfl
   have wb:wr st.worn b=mb:=by unfold wr;rw[eb];rfl
   have ha:=(G.wh a ma).mp ea;have hb:=(G.wh b mb).mp eb
   have hmm:ma≠mb:=fun z=>by rw[z,hb]at ha;exact hab (IA ha).symm
   have lw:∀ x,look (put (put st.worn a mb) b ma) x=if x=b then some ma else if x=a then some mb else look st.worn x:=fun x=>by rw[dO,dO]
   have lh:∀ x,look (put (put st.hold mb a) ma b) x=if x=ma then some b else if x=mb then some a else look st.hold x:=fun x=>by rw[dO,dO]
   show ff { worn:=put (put st.worn a (wr st.worn b)) b (wr st.worn a),hold:=put (put st.hold (wr st.worn b) a) (wr st.worn a) b,circ:=bM (bM st.circ a b) b a,deeds:=st.deeds++[.exch a b] }
   rw[wa,wb];refine⟨m7 (m7 G.wn a mb) b ma,fun x m=>?_,fun x m h=>?_,fun x m h=>?_,fun x y=>?_⟩
   ·show look (put (put st.worn a mb) b ma) x=some m↔look (put (put st.hold mb a) ma b) m=some x
    rw[lw,lh]
    by_cases hxb:x=b
    ·subst hxb
     rw[Iu rfl]
     by_cases hm:m=ma
     ·rw[Iu hm,hm];simp
     ·rw[Ir hm]
      constructor
      ·intro z;exact absurd (IA z).symm hm
      ·intro z
       by_cases hm2:m=mb
       ·rw[Iu hm2]at z;exact absurd (IA z) hab
       ·rw[Ir hm2]at z
        have:=(G.wh x m).mpr z;rw[eb]at this;exact absurd (IA this).symm hm2
    ·rw[Ir hxb]
     by_cases hxa:x=a
     ·subst hxa
      rw[Iu rfl]
      by_cases hm:m=ma
      ·rw[Iu hm]
       constructor
       ·intro z;exact absurd ((IA z).trans hm).symm hmm
       ·intro z;exact absurd (IA z).symm hab
      ·rw[Ir hm]
       by_cases hm2:m=mb
       ·rw[Iu hm2,hm2];simp
       ·rw[Ir hm2]
        constructor
        ·intro z;exact absurd (IA z).symm hm2
        ·intro z
         have:=(G.wh x m).mpr z;rw[ea]at this;exact absurd (IA this).symm hm
     ·rw[Ir hxa]
      by_cases hm:m=ma
      ·rw[Iu hm]
       constructor
       ·intro z
        have:=(G.wh x m).mp z;rw[hm,ha]at this;exact absurd (IA this).symm hxa
       ·intro z;exact absurd (IA z).symm hxb
      ·rw[Ir hm]
       by_cases hm2:m=mb
       ·rw[Iu hm2]
        constructor
        ·intro z
         have:=(G.wh x m).mp z;rw[hm2,hb]at this;exact absurd (IA this).symm hxb
        ·intro z;exact absurd (IA z).symm hxa
       ·rw[Ir hm2];exact G.wh x m
   ·have h:look (put (put st.worn a mb) b ma) x=some m:=h
    show m∈av (put (put st.worn a mb) b ma)
    have key:∀ y,y∈av st.worn->y∈av (put (put st.worn a mb) b ma):=fun y hy=>by
     rw[<-bN]at hy ⊢;rw[lw];split
     ·rfl
     ·split
      ·rfl
      ·exact hy
    rw[lw]at h;split at h
    ·cases h;exact key _ (G.ow a _ ea)
    ·split at h
     ·cases h;exact key _ (G.ow b _ eb)
     ·exact key _ (G.ow x m h)
   ·have h:look (put (put st.worn a mb) b ma) x=some m:=h
    rw[lw]at h;split at h
    ·cases h;exact G.sm a _ ea
    ·split at h
     ·cases h;exact G.sm b _ eb
     ·exact G.sm x m h
   ·show jf (bM (bM st.circ a b) b a) x y=jf (bM (bM st.circ a b) b a) y x
    rw[ud,ud,G.cy x y];cases decide (x=a)<;>cases decide (x=b)<;>cases decide (y=a)<;>cases decide (y=b)<;>simp
 ·rw[Ir hd];exact G
def si (xs:List V):Dt:=.sq true (xs.map fun v=>.at v)
theorem qU {K:PySem.W.Frag}{H:Hp}{l:Addr}{xs:List V}(h:H l=some (.tup xs))(hf:∀ x∈xs,jb x=true):RD K H 2 (.ref l) (si xs):=by
 refine RD.tup (c7.of h) ?_;clear h
 induction xs with
 | nil=>exact .nil
 | cons n r ih=>exact .cons (RD.flat (hf n IB) 1) (ih fun x hx=>hf x (Iy _ hx))
theorem BK {xs ys:List V}:si xs=si ys↔xs=ys:=by
 constructor
 ·intro h
  unfold si at h;injection h with _ h;revert ys
  induction xs with
  | nil=>intro ns h;cases ns with | nil=>rfl | cons _ _=>cases h
  | cons m ms ih =>
   intro ns h
   cases ns with
   | nil=>cases h
   | cons n ns =>
    rw[IR,IR]at h;injection h with h1 h2;injection h1 with h1;rw[h1,ih h2]
 ·intro h;rw[h]
def Gw (P:Program)(w:World)(K:PySem.W.Frag)(mg:Str->Option Value)(base:Heap)(c:HX):Prop:=∃ (fI:Addr)(fd:FuncData),Mk K c.C fI/\aR P w K mg base c0 1 fI fd ["self"] (BE c.C)/\dE K fd ["self"] []
theorem FP {X:Cx}{c:HX}{p pos:Pos}(M:Gw X.prog X.w X.K X.mg X.base c)(U:HT X.K X.mg c)(hr:bX 2 X.A)(hg:Gl X "Hall"):PE X (.Call (.Name "Hall" p) [] [] pos) (tz c.C (BE c.C) [] E0 iP):=by
 obtain⟨fI,fd,M,G,hb⟩:=M;exact qT M G hr hg U.mC hb .nil c4
structure Ev (c:HX)(H0 H:Hp)(x:Addr)(B:HA)(st:bP):Prop where
 same:ay H0 H
 hall:aF c.C H x B st
 good:ff st
 nfp:∀ b∈B.fp,H0 b=none
theorem Ev.fits {st:bP}(h1:st.worn.length<=100)(h2:st.hold.length<=100)(h3:st.circ.length<=900)(h4:∀ x∈st.circ,x.2.length<=900)(h5:st.deeds.length<=900):pI st:=⟨by omega,by omega,by omega,fun x hx=>by have:=h4 x hx;omega,by omega⟩
def Of (L:List Int)(st:bP):Prop:=(∀ g∈av st.worn,g∈L)/\(∀ g∈av st.hold,g∈L)/\(av st.hold).Nodup
theorem of_empty {L:List Int}:Of L ⟨[],[],[],[]⟩:=⟨fun g h=>by simp[av]at h,fun g h=>by simp[av]at h,Kh⟩
theorem gZ {l:List (Int×Int)}{g m x:Int}:x∈av (put l g m)↔x∈av l\/x=g:=by
 rw[vw];split
 ·rename_i h
  constructor
  ·exact .inl
  ·rintro (z | z)
   ·exact z
   ·rw[z];exact h
 ·simp
theorem CJ {L:List Int}{st:bP}{d:aB}(G:ff st)(o:Of L st)(hn:∀ g∈names d,g∈L):Of L (dF st d):=by
 unfold dF
 by_cases hd:aE st d=.done
 ·rw[Iu hd]
  obtain⟨o1,o2,o3⟩:=o
  cases d with
  | come g =>
   refine⟨fun x hx=>?_,fun x hx=>?_,m7 o3 g g⟩
   ·rcases gZ.mp (show x∈av (put st.worn g g) from hx) with z | z
    ·exact o1 x z
    ·rw[z];exact hn g (by simp[names])
   ·rcases gZ.mp (show x∈av (put st.hold g g) from hx) with z | z
    ·exact o2 x z
    ·rw[z];exact hn g (by simp[names])
  | go g =>
   exact⟨fun x hx=>o1 x (mZ.mp (show x∈av (cv st.worn g) from hx)).1,fun x hx=>o2 x (mZ.mp (show x∈av (cv st.hold g) from hx)).1,yt o3 g⟩
  | exch a b =>
   obtain⟨ma,ea⟩:∃ m,look st.worn a=some m:=by
    cases e:look st.worn a with
    | none=>simp[aE,e]at hd
    | some m=>exact⟨m,rfl⟩
   obtain⟨mb,eb⟩:∃ m,look st.worn b=some m:=by
    cases e:look st.worn b with
    | none=>simp[aE,ea,e]at hd
    | some m=>exact⟨m,rfl⟩
   have wa:wr st.worn a=ma:=by unfold wr;rw[ea];rfl
   have wb:wr st.worn b=mb:=by unfold wr;rw[eb];rfl
   refine⟨fun x hx=>?_,fun x hx=>?_,m7 (m7 o3 _ _) _ _⟩
   ·rcases gZ.mp (show x∈av (put (put st.worn a (wr st.worn b)) b (wr st.worn a)) from hx) with z | z
    ·rcases gZ.mp z with z | z
     ·exact o1 x z
     ·rw[z];exact hn a (by simp[names])
    ·rw[z];exact hn b (by simp[names])
   ·rcases gZ.mp (show x∈av (put (put st.hold (wr st.worn b) a) (wr st.worn a) b) from hx) with z | z
    ·rcases gZ.mp z with z | z
     ·exact o2 x z
     ·rw[z,wb];exact o1 _ (G.ow b mb eb)
    ·rw[z,wa];exact o1 _ (G.ow a ma ea)
 ·rw[Ir hd];exact o
theorem uh {L:List Int}{st:bP}(G:ff st)(o:Of L st):st.worn.length<=L.length/\st.hold.length<=L.length:=by
 have e1:st.worn.length=(av st.worn).length:=by simp[av]
 have e2:st.hold.length=(av st.hold).length:=by simp[av]
 exact⟨by rw[e1];exact fC G.wn o.1,by rw[e2];exact fC o.2.2 o.2.1⟩
theorem xx (st:bP)(d:aB):(dF st d).deeds.length<=st.deeds.length+1:=by
 unfold dF;split
 ·cases d<;>simp[after]
 ·omega
theorem zK (st:bP)(d:aB):(dF st d).worn=if aE st d=.done then tO st.worn d else st.worn:=by
 unfold dF;split
 ·exact wP st d
 ·rfl
def zQ:y7->Str
 | .done=>"done"
 | .already=>"AlreadyIn"
 | .masked=>"Masked"
 | .same=>"Same"
 | .met=>"Met"
 | .noguest _=>"NoGuest"
theorem GV (o:y7):(CM o)[0]? = some (V.str (zQ o)):=by cases o<;>rfl
theorem zR (o:y7):decide (V.str (zQ o)=V.str "done")=decide (o=.done):=by
 cases o with
 | done=>exact (show decide (V.str "done" = V.str "done")=true by decide +kernel)
 | already=>exact (show decide (V.str "AlreadyIn" = V.str "done")=false by decide +kernel)
 | masked=>exact (show decide (V.str "Masked" = V.str "done")=false by decide +kernel)
 | same=>exact (show decide (V.str "Same" = V.str "done")=false by decide +kernel)
 | met=>exact (show decide (V.str "Met" = V.str "done")=false by decide +kernel)
 | noguest g =>
  rw[IE (show ¬ y7.noguest g=.done by simp)];exact (show decide (V.str "NoGuest" = V.str "done")=false by decide +kernel)
inductive yI (vs:List V) (H:Hp) (Q:VK) (E_:XK):Prop
 | mk (dr m c:Int) (_:vs=[.int dr,.int m,.int c]) (_:(0<=dr/\dr<=100000)) (_:(2<=m/\m<=40)) (_:∀ (t:Addr)(d:aB),H t=none->(∀ g∈names d,g∈bv 40 c)->Q (.ref t) (upd H t (cj d)))
inductive yH (vs:List V) (H:Hp) (Q:VK) (E_:XK):Prop
 | mk (c:Int) (_:vs=[.int c]) (_:∀ m:Int,2<=m/\m<=40->Q (.int m) H)
theorem wZ {k c:Int}(h:0<=k/\k<40):uW k c∈bv 40 c:=by
 unfold bv;rw[Jf];exact⟨k.toNat,JE.mpr (by omega),by rw[Int.toNat_of_nonneg h.1]⟩
theorem pU {H:Hp}{l t:Addr}{as:List Addr}{ds:List aB}(hl:H l=some (.lst (as.map V.ref)))(hp:Paired (fun a x=>H a=some (cj x)) as ds)(ht:H t=none)(d:aB):dv (upd (upd H t (cj d)) l (.lst (as.map V.ref++[.ref t]))) l (ds++[d]):=by
 have tl:t≠l:=fun z=>by rw[z,hl]at ht;cases ht
 refine⟨as++[t],by rw[ac,IQ];rfl,bJ (Paired.mapP hp fun b y e=>?_) (.cons (by rw[af tl,ac]) .nil)⟩;obtain⟨xs,ex⟩:=dM y;rw[af (fun z=>by rw[z,hl,ex]at e;cases e),af (ah e ht)];exact e
theorem Co {a b x y:Int}:gJ x y=gJ a b↔(x=a/\y=b)\/(x=b/\y=a):=by
 unfold gJ
 by_cases h1:y<x<;>by_cases h2:b<a
 ·rw[Iu h1,Iu h2,Prod.mk.injEq];omega
 ·rw[Iu h1,Ir h2,Prod.mk.injEq];omega
 ·rw[Ir h1,Iu h2,Prod.mk.injEq];omega
 ·rw[Ir h1,Ir h2,Prod.mk.injEq];omega
theorem AT {ml:List (Int×Int)}{p q:Int×Int}:q∈pO ml p↔q∈ml\/q=p:=by
 unfold pO;split
 ·rename_i h
  constructor
  ·exact .inl
  ·rintro (z | z)
   ·exact z
   ·rw[z];exact h
 ·simp
def uX (st:bP)(ml:List (Int×Int)):Prop:=∀ a b,jf st.circ a b=oR ml a b
theorem va:uX ⟨[],[],[],[]⟩ []:=fun a b=>by unfold jf oR;simp[mz]
def ko (st:bP)(ml:List (Int×Int))(d:aB):List (Int×Int):=if aE st d=.done then pP ml d else ml
theorem wQ {st:bP}{ml:List (Int×Int)}{d:aB}(h:uX st ml):uX (dF st d) (ko st ml d):=by
 unfold dF ko
 by_cases hd:aE st d=.done
 ·rw[Iu hd,Iu hd]
  cases d with
  | come g=>exact h
  | go g=>exact h
  | exch a b =>
   intro x y
   show jf (bM (bM st.circ a b) b a) x y=oR (pO ml (gJ a b)) x y
   rw[ud,h x y];unfold oR
   have e:decide (gJ x y∈pO ml (gJ a b))=(decide (gJ x y∈ml)||decide ((x=a/\y=b)\/(x=b/\y=a))):=by
    rw[<-Bool.decide_or]
    congr 1
    rw[AT,Co]
   rw[e,Bool.decide_or,Bool.decide_and,Bool.decide_and,Bool.or_assoc]
 ·rw[Ir hd,Ir hd];exact h
theorem vt {st:bP}{ml:List (Int×Int)}(h:uX st ml)(d:aB):bF st.worn (oR ml) d=aE st d:=by rw[Cm];exact t7 (fun a b=>(h a b).symm) d
structure Sz (n:Nat)(st:bP):Prop where
 c:st.circ.length<=2*n
 k:∀ x∈st.circ,x.2.length<=2*n
 d:st.deeds.length<=n
theorem Ib:Sz 0 ⟨[],[],[],[]⟩:=⟨Ix _,(fun x hx=>nomatch hx),Ix _⟩
theorem C6 {n:Nat}{st:bP}(h:Sz n st)(d:aB):Sz (n+1) (dF st d):=by
 have keep:Sz (n+1) st:=⟨by have:=h.c;omega,fun x hx=>by have:=h.k x hx;omega,by have:=h.d;omega⟩;refine⟨?_,?_,by have:=xx st d;have:=h.d;omega⟩
 ·unfold dF
  split
  ·cases d with
   | come g=>exact keep.c
   | go g=>exact keep.c
   | exch a b =>
    show (bM (bM st.circ a b) b a).length<=_
    have:=lL (bM st.circ a b) b a;have:=lL st.circ a b;have:=h.c;omega
  ·exact keep.c
 ·unfold dF
  split
  ·cases d with
   | come g=>exact keep.k
   | go g=>exact keep.k
   | exch a b =>
    intro x hx;have:=pN (n:=2*n+1) (pN (n:=2*n) (a:=a) (b:=b) h.k (by omega)) (by omega) x hx;omega
  ·exact keep.k
theorem Cd {L:List Int}{n:Nat}{st:bP}(G:ff st)(o:Of L st)(hL:L.length<=100)(z:Sz n st)(hn:n<=400):pI st:=by
 have:=uh G o;exact Ev.fits (by omega) (by omega) (by have:=z.c;omega) (fun x hx=>by have:=z.k x hx;omega) (by have:=z.d;omega)
theorem zk {H:Hp}{l t:Addr}{as:List Addr}{ds:List aB}{d:aB}(hl:H l=some (.lst (as.map V.ref)))(hp:Paired (fun a x=>H a=some (cj x)) as ds)(ht:H t=some (cj d)):dv (upd H l (.lst (as.map V.ref++[.ref t]))) l (ds++[d]):=by
 have nt:∀ b y,H b=some (cj y)->b≠l:=fun b y e z=>by obtain⟨xs,ex⟩:=dM y;rw[z,hl,ex]at e;cases e
 refine⟨as++[t],by rw[ac,IQ];rfl,bJ (Paired.mapP hp fun b y e=>?_) (.cons (by rw[af (nt t d ht)];exact ht) .nil)⟩;rw[af (nt b y e)];exact e
theorem CD (st:bP)(d:aB):(dF st d).deeds=if aE st d=.done then st.deeds++[d] else st.deeds:=by
 unfold dF;split
 ·cases d<;>rfl
 ·rfl
theorem vO {m c g:Int}(h:g∈bv m c):aJ g:=by
 unfold bv at h;obtain⟨k,_,rfl⟩:=Jf.mp h;exact zo _ _
end Wz
namespace L2
open PySem PySem.Spec PyProof.Rows
theorem Dq {X:Cx}{P:Program}{w:World}:dJ (h9 P w) X (fun _ _ _=>False):=by
 intro pins σ H s e s' I hc;obtain⟨ea,C,od,H',B,rfl,fl,un,hok,os,bare,hsB,trB,hE⟩:=hc;exact hE.elim
def Cx.tried (X:Cx)(pins:List (Addr×Obj))(E:Value->Shared->Prop):Cx:={ X with xe:=E,pn:=X.pn++pins }
theorem aA.tried {X:Cx}{pins:List (Addr×Obj)}{σ:St}{H:Hp}{s:Shared}{E:Value->Shared->Prop}(I:aA X pins σ H s):aA (X.tried pins E) [] σ H s :=
 ⟨⟨I.ok.mod,I.ok.kind,I.ok.glob,I.ok.blt,I.ok.above,I.ok.inj,I.ok.has,I.ok.cab,I.ok.hd,I.ok.frames,I.ok.stk,I.ok.exf,I.ok.bs,I.ok.bsz,I.ok.noex,I.ok.exfs,I.ok.funs,I.ok.frf⟩,I.os,I.bare,I.base,I.loc,I.cell,I.free,I.freeC,fun p hp=>I.pin p (by
  have hp:p∈(X.pn++pins)++[]:=hp
  rwa [Kb]at hp),I.hok,I.len⟩
theorem aA.untried {X:Cx}{pins qins:List (Addr×Obj)}{σ:St}{H:Hp}{s:Shared}{E:Value->Shared->Prop}(I:aA (X.tried pins E) qins σ H s):aA X pins σ H s :=
 ⟨⟨I.ok.mod,I.ok.kind,I.ok.glob,I.ok.blt,I.ok.above,I.ok.inj,I.ok.has,I.ok.cab,I.ok.hd,I.ok.frames,I.ok.stk,I.ok.exf,I.ok.bs,I.ok.bsz,I.ok.noex,I.ok.exfs,I.ok.funs,I.ok.frf⟩,I.os,I.bare,I.base,I.loc,I.cell,I.free,I.freeC,fun p hp=>I.pin p (by
  show p∈(X.pn++pins)++qins
  exact List.mem_append_left _ hp),I.hok,I.len⟩
def Xe (X:Cx)(pins:List (Addr×Obj))(E:XK)(e:Value)(s':Shared):Prop:=∃ (σ:St)(H:Hp)(ea C:Addr)(od:Option Addr)(B:Heap),e=.ref ea/\DO X pins σ H ea C od B s'/\lv B X.stack ea (.ref C) od s'.heap/\σ.length=X.N.length/\E (.ref C) od H
theorem FQ {X:Cx}{pins:List (Addr×Obj)}{E:XK}:dJ (h9 X.prog X.w) (X.tried pins (Xe X pins E)) E:=by
 intro qins σ H s e s' I hc;obtain⟨ea,C,od,H',B,rfl,fl,un,hok,os,bare,hsB,trB,hE⟩:=hc;exact⟨σ,H',ea,C,od,B,rfl,Cq I.untried fl un hok os bare hsB trB,fl,I.len,hE⟩
theorem CW {X:Cx}{b0:Stmt}{bs:List Stmt}{hd0:ExceptHandler}{hdl:List ExceptHandler}{tb:XK->TS}{th:Value->Option Addr->TS}{pos:Pos}
  (hst:X.stack=X.env::X.outer) (hfr:X.env.frame=some X.env.locals) (hb:∀ pins E,uV (X.tried pins (Xe X pins E)) (b0::bs) (tb E)) (hh:Gg X (hd0::hdl) th) :
  PS X (.Try (b0::bs) (hd0::hdl) [] [] pos) (fun D σ H=>tb (fun cls od H2=>∀ σ':St,σ'.length=X.N.length->th cls od D σ' H2) D σ H):=by
 intro pins s σ H D I h;refine wpAny_Try_except ?_;refine Jv (hb pins _ [] s σ H D I.tried h) (fun f s1 hq=>?_) fun e s' hx=>?_
 ·cases f with
  | next=>obtain⟨σ',H',I1,q⟩:=hq;exact wpAny_execs_nil ⟨σ',H',I1.untried,q⟩
  | brk=>obtain⟨σ',H',I1,q⟩:=hq;exact⟨σ',H',I1.untried,q⟩
  | cont=>obtain⟨σ',H',I1,q⟩:=hq;exact⟨σ',H',I1.untried,q⟩
  | ret u=>obtain⟨v,σ',H',I1,r,q⟩:=hq;exact⟨v,σ',H',I1.untried,r,q⟩
 ·obtain⟨σ',H',ea,C,od,B,rfl,ld,fl,hl,hE⟩:=hx
  have fl':=fl;rw[hst]at fl';refine zA (by rw[I.ok.frames,hst]) hfr fl' fun h4 held ups4=>?_;refine Em held fun h5 fl5 ups5=>?_;rw[<-hst]at fl5;exact hh pins σ' H' D ea C od B s' h5 ld fl5 (ups4.trans ups5) (hE σ' hl)
end L2
namespace Wz
open PySem L2
def bf (ds:List aB):bP:=ds.foldl after ⟨[],[],[],[]⟩
theorem tp (ds:List aB)(d:aB):bf (ds++[d])=after (bf ds) d:=by unfold bf;rw[List.foldl_append];rfl
def gl (ds:List aB):Prop:=∀ i d,ds[i]? = some d->aE (bf (ds.take i)) d=.done
theorem vf:gl []:=fun i d h=>by simp at h
theorem lD {ds:List aB}{d:aB}(h:gl ds)(hd:aE (bf ds) d=.done):gl (ds++[d]):=by
 intro i e he
 by_cases hi:i<ds.length
 ·rw[List.getElem?_append_left hi]at he
  rw[List.take_append_of_le_length (by omega)];exact h i e he
 ·have hl:=(IG.mp he).1
  rw[IK,JY]at hl
  have e1:i=ds.length:=by omega
  subst e1;simp at he;subst he;simpa using hd
theorem u9 (st:bP)(d:aB):(after st d).deeds=st.deeds++[d]:=by cases d<;>rfl
structure o7 (H0 H:Hp)(w m ls:Addr)(st:bP)(ml:List (Int×Int)):Prop where
 hw:H w=some (.dK (dk st.worn))
 hm:H m=some (.dT (zE ml))
 hs:dv H ls st.deeds
 w0:H0 w=none
 m0:H0 m=none
 s0:H0 ls=none
theorem o7.on {H0 H H':Hp}{w m ls:Addr}{st:bP}{ml:List (Int×Int)}(e:o7 H0 H w m ls st ml)(s:ay H H'):o7 H0 H' w m ls st ml:=⟨s _ _ e.hw,s _ _ e.hm,d7 e.hs s,e.w0,e.m0,e.s0⟩
theorem o7.ws {H0 H:Hp}{w m ls:Addr}{st:bP}{ml:List (Int×Int)}(e:o7 H0 H w m ls st ml):w≠ls:=by obtain⟨as,h,_⟩:=e.hs;exact bQ e.hw h (by intro z;cases z)
theorem o7.ms {H0 H:Hp}{w m ls:Addr}{st:bP}{ml:List (Int×Int)}(e:o7 H0 H w m ls st ml):m≠ls:=by obtain⟨as,h,_⟩:=e.hs;exact bQ e.hm h (by intro z;cases z)
theorem o7.done {H0 H H1:Hp}{w m ls:Addr}{st:bP}{ml:List (Int×Int)}{d:aB}(e:o7 H0 H w m ls st ml)(hj:aE st d=.done)
  (h1:H1 w=some (.dK (dk (tO st.worn d)))) (h2:H1 m=some (.dT (zE (pP ml d)))) (k:∀ b o,H b=some o->b≠w->b≠m->H1 b=some o)
  {as:List Addr} (hl:H ls=some (.lst (as.map V.ref))) (hp:Paired (fun a x=>H a=some (cj x)) as st.deeds) {t:Addr} (ht:H t=some (cj d)) :
  o7 H0 (upd H1 ls (.lst (as.map V.ref++[.ref t]))) w m ls (dF st d) (ko st ml d)/\H1 ls=some (.lst (as.map V.ref)):=by
 have nt:∀ b y,H b=some (cj y)->b≠w/\b≠m:=fun b y q=>by
  obtain⟨xs,ex⟩:=dM y;rw[ex]at q;exact⟨bQ q e.hw (by intro z;cases z),bQ q e.hm (by intro z;cases z)⟩
 have hl1:=k _ _ hl (IJ e.ws) (IJ e.ms);have d1:dv (upd H1 ls (.lst (as.map V.ref++[.ref t]))) ls (st.deeds++[d]):=zk hl1 (Paired.mapP hp fun b y q=>k _ _ q (nt b y q).1 (nt b y q).2) (k _ _ ht (nt t d ht).1 (nt t d ht).2);refine⟨⟨?_,?_,?_,e.w0,e.m0,e.s0⟩,hl1⟩
 ·rw[af e.ws,zK,Iu hj];exact h1
 ·rw[af e.ms];unfold ko;rw[Iu hj];exact h2
 ·rw[CD,Iu hj];exact d1
end Wz
namespace L2
open PySem PySem.Spec PyProof.Rows
theorem aA.turned2 {X:Cx}{pins:List (Addr×Obj)}{σ:St}{H:Hp}{s:Shared}{h':Heap}{t':Nat}{e it:Addr}(I:aA X pins σ H s)(k:∀ b o,b≠e->b≠it->s.heap.get? b=some o->h'.get? b=some o)(fe:kF X pins H e)(fi:kF X pins H it):aA X pins σ H { s with heap:=h',toks:=t' }:=by
 obtain⟨e0,e1,e2,e3,e4,e5⟩:=fe;obtain⟨i0,i1,i2,i3,i4,i5⟩:=fi;have nit:∀ b u,H b=some u->b≠e/\b≠it:=fun b u q=>⟨(fun z=>by rw[z,e0]at q;cases q),(fun z=>by rw[z,i0]at q;cases q)⟩
 have nn:∀ b,b∉[e,it]->b≠e/\b≠it:=fun b hb=>by simpa using hb
 refine I.step (g':=s.gens) (d':=s.drawn) (ch:=[e,it]) (fun b hb=>?_) (fun b o _ _ hc q _=>k b o (nn b hc).1 (nn b hc).2 q) (fun b o _ _ hc q _=>⟨o.slots,k b o (nn b hc).1 (nn b hc).2 q⟩) (fun _ _ _ _ n=>n)
  (fun b o hc q=>⟨o,k b o (nn b hc).1 (nn b hc).2 q⟩) (fun _ _ q=>q) (fun _ _ _ q=>q) (fun b ps q=>⟨#[],by rw[q];simp⟩) (fun m hm=>?_) (fun b u q=>?_) I.bare
 ·have hb:b=e\/b=it:=by simpa using hb
  rcases hb with rfl | rfl
  ·exact⟨e3,e1,e4,e5⟩
  ·exact⟨i3,i1,i4,i5⟩
 ·obtain⟨o,es,ep,ho,r⟩:=hm
  exact⟨o,es,ep,k _ o (IJ e1) (IJ i1) ho,r⟩
 ·refine (I.hok b u q).stay (fun c v hc z=>k c v ?_ ?_ z) (fun _ z=>z) fun _ _ z=>z
  ·rcases hc with z | z
   ·rw[z];exact (nit b u q).1
   ·exact (nit c _ z).1
  ·rcases hc with z | z
   ·rw[z];exact (nit b u q).2
   ·exact (nit c _ z).2
def Fk (K:PySem.W.Frag)(l:Addr):It :=
 ⟨fun i H=>∃ xs x,bx K H l xs/\xs[i]? = some x,fun i H y H'=>∃ T x,H T=none/\y=.ref T/\H'=upd H T (.tup [.int i,x])/\∀ xs,bx K H l xs->xs[i]? = some x,fun i H=>∃ xs,bx K H l xs/\xs.length<=i⟩
theorem z8 {P:Program}{w:World}{K:PySem.W.Frag}{elts:List Expr} {kk}{pos:Pos}(e it l:Addr)(hne:e≠it):y9 P w K (.Tuple elts kk pos) (Fk K l) [e,it] e (fun i h=>(∃ old,IsEnum h e it (i:Nat) old)/\h.IsListIter it l i) where
 mem:=by simp
 obj:=fun i h st b hb=>by
  obtain⟨⟨old,he⟩,⟨o,eo,c,d⟩⟩:=st
  have hb:b=e\/b=it:=by simpa using hb
  rcases hb with rfl | rfl
  ·exact⟨_,he,fun v z=>by cases z⟩
  ·exact⟨o,eo,fun v z=>by rw[d]at z;cases z⟩
 keep:=fun i h h' st k=>⟨st.1.elim fun old he=>⟨old,k e (by simp) _ he⟩,st.2.at fun o x=>k it (by simp) o x⟩
 item:=by
  intro X hP hw hK hc i pins s σ H E I hf st hg;subst hP hw hK;obtain⟨xs,x,hq,hx⟩:=hg;obtain⟨its,rv,p,hz⟩:=I.list hq;obtain⟨u,hu,ru⟩:=rv.get hx;obtain⟨⟨old,he⟩,hit⟩:=st;have fe:=hf e (by simp);have fi:=hf it (by simp);have lte:e<s.heap.objs.size:=II he
  have lti:it<s.heap.objs.size:=by obtain⟨_,q,_⟩:=id hit;exact II q
  refine wpAny_pyNext_enum_item he hit p.isList (x:=u) (by simpa using hu) hne fun h' ho hit' hT hsz hk=>⟨.ref s.heap.objs.size,rfl,?_⟩;refine wpAny_letOwnedTupleGo_enum (s:={ s with heap:=h',toks:=s.toks+1 }) ho fun h2 he2 sb2=>?_;have hfr:H s.heap.objs.size=none:=I.hok.fresh (Ix _)
  have IL:aA X pins σ (upd H s.heap.objs.size (.tup [.int i,x])) { s with heap:=s.heap.push { cls:=.type "tuple",data:=.seq #[.int i s.toks,u] },toks:=s.toks } :=
   I.laid (fun b o q=>Iw _ q) (Ix _) ⟨by show 2<=sizeLine;decide,[.int i s.toks,u],.cons ⟨_,rfl⟩ (.cons ru .nil),⟨_,IV _ rfl,rfl,_,rfl⟩⟩
  have fp':∀ b,b<s.heap.objs.size->kF X pins H b->kF X pins (upd H s.heap.objs.size (.tup [.int i,x])) b:=fun b hb ⟨f0,f1,f2,f3,f4,f5⟩=>⟨by rw[af (IW hb)];exact f0,f1,f2,f3,f4,f5⟩
  have I2:aA X pins σ (upd H s.heap.objs.size (.tup [.int i,x])) { s with heap:=h2,toks:=s.toks+1 }:=IL.turned2 (t':=s.toks+1) (h':=h2) (fun b o n1 n2 q=>by
   refine (sb2.2 b n1).trans ?_
   show h'.get? b=some o
   by_cases hb:b=s.heap.objs.size
   ·subst hb
    have q:(s.heap.push { cls:=.type "tuple",data:=.seq #[.int i s.toks,u] }).get? s.heap.objs.size=some o:=q;rw[IV _ rfl]at q;cases q;exact hT
   ·have q:(s.heap.push { cls:=.type "tuple",data:=.seq #[.int i s.toks,u] }).get? b=some o:=q
    refine hk b o n1 n2 ?_;rw[Heap.get?_push_ne _ _ _ hb]at q
    exact q) (fp' e lte fe) (fp' it lti fi)
  refine⟨.ref s.heap.objs.size,_,I2,rfl,⟨s.heap.objs.size,x,hfr,rfl,rfl,fun ys hy=>by rw[I.list_inj hy hq];exact hx⟩,⟨⟨_,by simpa using he2⟩,hit'.at fun o q=>(sb2.2 it (IJ hne)).trans q⟩,fun b hb=>?_⟩
  have hb':b=e\/b=it:=by simpa using hb
  rcases hb' with rfl | rfl
  ·exact (fp' _ lte fe).1
  ·exact (fp' _ lti fi).1
 done:=by
  intro X hP hw hK hc i pins s σ H E I hf st hg;subst hP hw hK;obtain⟨xs,hq,hx⟩:=hg;obtain⟨its,rv,p,hz⟩:=I.list hq;obtain⟨⟨old,he⟩,hit⟩:=st;obtain⟨f0,f1,f2,f3,f4,f5⟩:=hf it (by simp);have hl:=rv.length;exact wpAny_pyNext_enum_end (I.ok.hd hc) he hit p.isList (by simp;omega) fun h' eb=>⟨rfl,I.turned (t':=s.toks) (fun b o hb q=>eb b o hb q) f0 f1 f3 f4 f5⟩
 self:=fun _ _ _ _ _ st h=>st.1.elim fun old he=>wpAny_pyIter_enum he h
def FD (K:PySem.W.Frag)(t:TA):TI:=fun σ H R=>t σ H fun vs H1=>∃ l,vs=[.ref l]/\(∃ xs,bx K H1 l xs)/\R (Fk K l) H1
theorem CV {X:Cx}{elts:List Expr} {kk}{tpos:Pos}{a:Expr}{ta:TA}{p pos:Pos}(hg:Gl X "enumerate")(hm:X.mg "enumerate" = none)(ha:PA X [a] ta)
  (he:starEach [a] X.env=(false,eval a X.env)::starEach [] X.env:=by rfl) (hpl:(backTo pos (starEach [] X.env)).any (·.1)=false:=by rfl):PI X (.Tuple elts kk tpos) (.Call (.Name "enumerate" p) [a] [] pos) (FD X.K ta):=by
 intro pins s σ H R I h;refine JN (mV I hg hm boot_enumerate ?_ (by decide) (by decide));refine PyProof.Rows.callWith_type1 (bq (ha pos pins s σ H _ I h) fun us s1 ⟨vs,H1,I1,r1,l,e1,⟨xs,hq⟩,q⟩=>?_) he hpl;subst e1;obtain⟨u,rfl,rx⟩:=hZ r1;cases rx;obtain⟨its,rv,pl,hz⟩:=I1.list hq;refine call_enumerate_list pl.isList fun h' hE hI hsz hk=>?_;have I2:aA X pins σ H1 { s1 with heap:=h',toks:=s1.toks }:=I1.kept hk;refine wpAny_pyIter_enum (s:={ s1 with heap:=h' }) hE ?_;refine⟨s1.heap.objs.size+1,[s1.heap.objs.size+1,s1.heap.objs.size],_,_,H1,rfl,I2,z8 _ _ l (Nat.succ_ne_self _),⟨⟨_,hE⟩,hI⟩,fun b hb=>?_,q⟩
 have hb:b=s1.heap.objs.size+1\/b=s1.heap.objs.size:=by simpa using hb
 rcases hb with rfl | rfl
 ·exact I1.fpOk (Nat.le_succ _) (I1.hok.fresh (Nat.le_succ _))
 ·exact I1.fpOk (Ix _) (I1.hok.fresh (Ix _))
theorem AA {K:PySem.W.Frag}{a:Addr}{xs:List V}{g:TG}{tb:TS}{D:kE}{σ:St}{H:Hp}(Pv:Nat->St->Hp->Prop)(h0:Pv 0 σ H)(hl:∀ i σ H,i<=xs.length->Pv i σ H->bx K H a xs)
  (hs:∀ i x σ H T,xs[i]? = some x->Pv i σ H->H T=none->g (.ref T) σ (upd H T (.tup [.int i,x])) fun σ2 H2=>tb { D with nx:=Pv (i+1),ct:=Pv (i+1),bk:=D.nx } σ2 H2) (hd:∀ σ H,Pv xs.length σ H->D.nx σ H) :
  ∃ W:Nat->Nat->St->Hp->Prop,(∃ m,W 0 m σ H)/\∀ i m σ H,W i m σ H ->
   ((Fk K a).stop i H/\D.nx σ H)\/((Fk K a).go i H/\∃ N:St->Hp->Prop,(∀ σ' H',N σ' H'->∃ m',m'<m/\W (i+1) m' σ' H')/\∀ x H',(Fk K a).yld i H x H'->g x σ H' fun σ2 H2=>tb { D with nx:=N,ct:=N,bk:=D.nx } σ2 H2):=by
 refine⟨fun i m σ H=>m=xs.length-i/\i<=xs.length/\Pv i σ H,⟨xs.length,by simp,Jg _,h0⟩,?_⟩;rintro i m σ H ⟨rfl,hi,p⟩;have q:=hl i σ H hi p
 by_cases hlt:i<xs.length
 ·refine .inr ⟨⟨xs,xs[i],q,by simp[hlt]⟩,Pv (i+1),fun σ' H' p'=>⟨xs.length-(i+1),by omega,rfl,hlt,p'⟩,fun y H' z=>?_⟩
  obtain⟨T,x,hT,e1,e2,hx⟩:=z;subst e1 e2;exact hs i x σ _ T (hx xs q) p hT
 ·have e:i=xs.length:=by omega
  subst e;exact .inl ⟨⟨xs,q,Ix _⟩,hd σ H p⟩
end L2
namespace Qs
open PySem PySem.W PyProof.Rows
structure Ik (n:Nat)(lt:Nat->Nat->Bool):Prop where
 irr:∀ i,lt i i=false
 tot:∀ i j,i<n->j<n->i≠j->lt i j=true\/lt j i=true
 tr:∀ i j k,lt i j=true->lt j k=true->lt i k=true
def ask {α:Type}(lt:Nat->Nat->Bool):KasT α->α
 | .ret a=>a
 | .ask i j k=>ask lt (k (lt i j))
def Hm {α:Type}(n:Nat)(lt:Nat->Nat->Bool):KasT α->Prop
 | .ret _=>True
 | .ask i j k=>i<n/\j<n/\Hm n lt (k (lt i j))
def Ip {α:Type}(n:Nat)(lt:Nat->Nat->Bool)(t:KasT α)(R:α->Prop):Prop:=Hm n lt t/\R (ask lt t)
section
variable {n:Nat}{lt:Nat->Nat->Bool}{p:Array Nat}
def Pm (n:Nat)(p:Array Nat):Prop:=p.Perm (List.toArray (List.range n))
def Up (lt:Nat->Nat->Bool)(p:Array Nat)(k:Nat):Prop:=∀ i j,i<j->j<k->lt (p.getD i 0) (p.getD j 0)=true
def Dn (lt:Nat->Nat->Bool)(p:Array Nat)(k:Nat):Prop:=∀ i j,i<j->j<k->lt (p.getD j 0) (p.getD i 0)=true
end
def Hw (p q:Int×Int):Bool:=decide (p.1<q.1\/(p.1=q.1/\p.2<q.2))
def HU (ps:List (Int×Int))(i j:Nat):Bool:=Hw (ps.getD i (0,0)) (ps.getD j (0,0))
def DQ (h:Heap)(v:Value)(p:Int×Int):Prop:=∃ (b:Addr)(o:Obj)(n:Nat)(t u:Tok),v=.ref b/\h.get? b=some o/\o.cls=.type "tuple"/\o.data=.seq #[.int p.1 t,.int p.2 u] n
section
variable {prog:Program}{w:World}{A:Around}{E:Value->Shared->Prop}{s:Shared}
def GA (vs:List Value)(ps:List (Int×Int))(out:List Value):Prop:=∃ ix:List Nat,ix.Perm (List.range vs.length)/\out=ix.map (fun i=>vs.getD i Value.none)/\(ix.map fun i=>ps.getD i (0,0)).Pairwise (fun a b=>Hw a b=true)
end
def Ho (h:Heap)(d:Addr)(es:Array DictEntry)(ep:Nat):Prop:=∃ o,h.get? d=some o/\o.ExactDict/\o.data=.dict es ep
end Qs
namespace Wz
open PySem L2
structure Ga (L:List Int)(st:bP):Prop where
 kn:(st.circ.map (·.1)).Nodup
 kl:∀ x∈st.circ,x.1∈L/\x.2.Nodup/\∀ b∈x.2,b∈L
theorem GH {L:List Int}:Ga L ⟨[],[],[],[]⟩:=⟨Kh,fun x h=>by cases h⟩
theorem B0 {L ks:List Int}{b:Int}(h:ks.Nodup/\∀ x∈ks,x∈L)(hb:b∈L):(iN ks b).Nodup/\∀ x∈iN ks b,x∈L:=by
 unfold iN;split
 ·exact h
 ·rename_i n
  refine⟨pj h.1 n,fun x hx=>?_⟩;rcases IN.mp hx with z | z
  ·exact h.2 x z
  ·rw[IF.mp z];exact hb
theorem tM {L:List Int}{a b:Int}(ha:a∈L)(hb:b∈L):∀ {ci:List (Int×List Int)},(ci.map (·.1)).Nodup->(∀ x∈ci,x.1∈L/\x.2.Nodup/\∀ y∈x.2,y∈L) ->
  ((bM ci a b).map (·.1)).Nodup/\(∀ x∈bM ci a b,x.1∈L/\x.2.Nodup/\∀ y∈x.2,y∈L)/\∀ k,k∈(bM ci a b).map (·.1)->k∈ci.map (·.1)\/k=a
 | [],_,_=>by
  refine⟨by simp[bM],fun x hx=>?_,fun k hk=>?_⟩
  ·simp[bM]at hx
   subst hx;exact⟨ha,by simp,fun y hy=>by simp at hy;rw[hy];exact hb⟩
  ·simp[bM]at hk
   exact .inr hk
 | x::r,hn,hl=>by
  rw[IR,Jk]at hn;unfold bM
  by_cases h:x.1=a
  ·rw[Iu h]
   refine⟨by rw[IR,Jk];exact hn,fun y hy=>?_,fun k hk=>.inl (by simpa using hk)⟩;rcases IC.mp hy with z | z
   ·subst z
    obtain⟨h1,h2,h3⟩:=hl x IB;exact⟨h1,B0 ⟨h2,h3⟩ hb⟩
   ·exact hl y (Iy _ z)
  ·rw[Ir h]
   obtain⟨i1,i2,i3⟩:=tM ha hb (ci:=r) hn.2 (fun y hy=>hl y (Iy _ hy));refine⟨?_,fun y hy=>?_,fun k hk=>?_⟩
   ·rw[IR,Jk]
    refine⟨fun z=>?_,i1⟩;rcases i3 _ z with z | z
    ·exact hn.1 z
    ·exact h z
   ·rcases IC.mp hy with z | z
    ·subst z;exact hl _ IB
    ·exact i2 y z
   ·rw[IR]at hk
    rcases IC.mp hk with z | z
    ·exact .inl (by rw[z];simp)
    ·rcases i3 k z with z | z
     ·exact .inl (Iy _ z)
     ·exact .inr z
theorem An {L:List Int}{st:bP}{d:aB}(h:Ga L st)(hn:∀ g∈names d,g∈L):Ga L (dF st d):=by
 unfold dF;split
 ·cases d with
  | come g=>exact⟨h.kn,h.kl⟩
  | go g=>exact⟨h.kn,h.kl⟩
  | exch a b =>
   have ha:=hn a (by simp[names]);have hb:=hn b (by simp[names]);obtain⟨j1,j2,_⟩:=tM ha hb h.kn h.kl;obtain⟨k1,k2,_⟩:=tM hb ha j1 j2;exact⟨k1,k2⟩
 ·exact h
structure Ag (ml:List (Int×Int)):Prop where
 nd:ml.Nodup
 lo:∀ p∈ml,p.1<p.2
theorem HW:Ag []:=⟨Kh,fun p h=>by cases h⟩
theorem Cv {st:bP}{ml:List (Int×Int)}(h:Ag ml)(d:aB):Ag (ko st ml d):=by
 unfold ko;split
 ·rename_i hj
  cases d with
  | come g=>exact h
  | go g=>exact h
  | exch a b =>
   have hab:a≠b:=fun e=>by
    subst e
    cases e:look st.worn a with
    | none=>simp[aE,e]at hj
    | some m=>simp[aE,e]at hj
   show Ag (pO ml (gJ a b))
   unfold pO;split
   ·exact h
   ·rename_i n
    refine⟨?_,fun p hp=>?_⟩
    ·rw[List.nodup_append]
     exact⟨h.nd,by simp,fun x hx y hy e=>n (by rw[IF.mp hy]at e;rw[<-e];exact hx)⟩
    ·rcases IN.mp hp with z | z
     ·exact h.lo p z
     ·rw[IF.mp z]
      unfold gJ;split
      ·assumption
      ·show a<b
       omega
 ·exact h
end Wz
namespace L2
open PySem PySem.Spec PyProof.Rows
theorem wf {X:Cx}{tg:Expr}(K:PySem.W.Frag){l:Expr}{tl:TE}(hl:PE X l tl)(hK:X.K=K:=by rfl):PI X tg l (AH K tl):=by subst hK;exact cR hl
end L2
namespace Wz
open PySem L2
def vq:aB->Bool
 | .exch _ _=>true
 | _=>false
inductive wv (K:PySem.W.Frag) (vs:List V) (H:Hp) (Q:VK) (E_:XK):Prop
 | mk (a:Addr) (ns:List Int) (_:vs=[.ref a]) (_:bx K H a (ns.map V.int)) (_:∀ (l:Addr)(H':Hp)(ds:List aB),H l=none->ay H H'->dv H' l ds->(∀ d∈ds,∀ g∈names d,g∈bv 40 (eZ ns 1))->ds.length<=88->(ds.filter vq).length<=48->Q (.ref l) H')
theorem xh (st:bP)(ml:List (Int×Int))(d:aB):(ko st ml d).length<=ml.length+(if vq d then 1 else 0):=by
 unfold ko;split
 ·cases d with
  | come g=>exact Ix _
  | go g=>exact Ix _
  | exch a b=>show (pO ml _).length<=_;unfold pO;split<;>simp[vq]
 ·omega
def fH (ds:List aB):List (Int×Int):=ds.foldl pP []
theorem zC (ds:List aB)(d:aB):fH (ds++[d])=pP (fH ds) d:=by unfold fH;rw[List.foldl_append];rfl
theorem qc:∀ (ds:List aB)(st:bP),(ds.foldl after st).deeds=st.deeds++ds
 | [],st=>by simp
 | d::ds,st=>by rw[List.foldl_cons,qc ds,u9,List.append_assoc];rfl
theorem xW (ds:List aB):(bf ds).deeds=ds:=by unfold bf;rw[qc];rfl
structure DR (L:List Int)(ds:List aB):Prop where
 good:ff (bf ds)
 of:Of L (bf ds)
 sz:Sz ds.length (bf ds)
 al:uX (bf ds) (fH ds)
 ci:Ga L (bf ds)
 mo:Ag (fH ds)
 ml:(fH ds).length<=(ds.filter vq).length
theorem GW {L:List Int}:DR L []:=⟨wY,of_empty,Ib,va,GH,HW,Ix _⟩
theorem qy {ds:List aB}{d:aB}(hj:aE (bf ds) d=.done):dF (bf ds) d=bf (ds++[d]):=by unfold dF;rw[Iu hj,tp]
theorem qx {ds:List aB}{d:aB}(hj:aE (bf ds) d=.done):ko (bf ds) (fH ds) d=fH (ds++[d]):=by unfold ko;rw[Iu hj,zC]
theorem DR.next {L:List Int}{ds:List aB}{d:aB}(h:DR L ds)(hj:aE (bf ds) d=.done)(hn:∀ g∈names d,g∈L/\aJ g):DR L (ds++[d]):=by
 have e1:=qy hj;have e2:=qx hj;refine⟨?_,?_,?_,?_,?_,?_,?_⟩
 ·rw[<-e1];exact zn h.good fun g hg=>(hn g hg).2
 ·rw[<-e1];exact CJ h.good h.of fun g hg=>(hn g hg).1
 ·rw[<-e1,IK];exact C6 h.sz d
 ·rw[<-e1,<-e2];exact wQ h.al
 ·rw[<-e1];exact An h.ci fun g hg=>(hn g hg).1
 ·rw[<-e2];exact Cv h.mo d
 ·rw[<-e2,JW,IK]
  have h1:=xh (bf ds) (fH ds) d;have h2:=h.ml;cases e:vq d<;>simp[e]at h1 ⊢<;>omega
theorem uz {L:List Int}{ds:List aB}(hd:gl ds)(hn:∀ d∈ds,∀ g∈names d,g∈L/\aJ g):∀ i,DR L (ds.take i)
 | 0=>GW
 | i+1=>by
  have ih:=uz hd hn i;rw[Jr]
  cases e:ds[i]? with
  | none=>simpa using ih
  | some d=>rw[Js];exact ih.next (hd i d e) (hn d (Jc e))
end Wz
namespace L2
open PySem PySem.Spec PyProof.Rows
theorem EG {X:Cx}(K:PySem.W.Frag)(hK:X.K=K:=by rfl):k8 X (compareOp .In) (Hx K false):=by subst hK;exact sY
end L2
namespace Wz
open PySem L2
inductive BC (vs:List V) (H:Hp) (Q:VK) (E_:XK):Prop
 | mk (t ld w m ls:Addr) (H0:Hp) (es ds:List aB) (L:List Int) (_:vs=[.ref t,.ref ld]) (_:H t=some (.tup [.ref w,.ref m,.ref ls])) (_:o7 H0 H w m ls (bf es) (fH es)) (_:dv H ld ds) (_:ld≠ls) (_:gl (es++ds)) (_:L.length<=100) (_:(∀ d∈es++ds,∀ g∈names d,g∈L/\aJ g)) (_:(es++ds).length<=300) (_:∀ H',o7 H0 H' w m ls (bf (es++ds)) (fH (es++ds))->(∀ b o,H b=some o->b≠w->b≠m->b≠ls->H' b=some o)->Q (.ref t) H')
def E8 (f:Int->Int):Prop:=∀ a b,f a=f b->a=b
theorem rC {w:List (Int×Int)}{g:Int}(h:g∉av w):wr w g=g:=by
 unfold wr
 cases e:look w g with
 | none=>rfl
 | some m=>exact absurd (bN.mp (by rw[e];rfl)) h
def aS (f:Int->Int):Nat->Int->Int
 | 0,g=>g
 | n+1,g=>f (aS f n g)
theorem lI (f:Int->Int)(m:Nat):∀ (n:Nat)(g:Int),aS f (n+m) g=aS f n (aS f m g)
 | 0,_=>by rw[Nat.zero_add];rfl
 | n+1,g=>by
  rw[Nat.add_right_comm]
  show f (aS f (n+m) g)=f (aS f n (aS f m g))
  rw[lI f m n g]
theorem qh {f:Int->Int}(h:E8 f):∀ (n:Nat){a b:Int},aS f n a=aS f n b->a=b
 | 0,_,_,e=>e
 | n+1,_,_,e=>qh h n (h _ _ e)
theorem jF {f:Int->Int}{ks:List Int}(hk:∀ g∈ks,f g∈ks){g:Int}(hg:g∈ks):∀ n,aS f n g∈ks
 | 0=>hg
 | n+1=>hk _ (jF hk hg n)
theorem m8:∀ {l:List Int},¬ l.Nodup->∃ i j:Nat,i<j/\∃ x,l[i]? = some x/\l[j]? = some x
 | [],h=>absurd Kh h
 | a::r,h=>by
  by_cases ha:a∈r
  ·obtain⟨n,hn,e⟩:=J9 ha
   exact⟨0,n+1,Nat.succ_pos _,a,rfl,by rw[List.getElem?_cons_succ,IM hn,e]⟩
  ·have hr:¬ r.Nodup:=fun z=>h (Jk.mpr ⟨ha,z⟩)
   obtain⟨i,j,hij,x,e1,e2⟩:=m8 hr;exact⟨i+1,j+1,Nat.succ_lt_succ hij,x,by simpa using e1,by simpa using e2⟩
theorem wU {f:Int->Int}(hf:E8 f){ks:List Int}(hk:∀ g∈ks,f g∈ks){g:Int}(hg:g∈ks):∃ n,0<n/\n<=ks.length/\aS f n g=g:=by
 have h:¬ ((List.range (ks.length+1)).map fun n=>aS f n g).Nodup:=fun nd=>by
  have:=fC nd (m:=ks) fun x hx=>by
   obtain⟨n,_,rfl⟩:=Jf.mp hx;exact jF hk hg n
  rw[Iq,Kg]at this;omega
 obtain⟨i,j,hij,x,e1,e2⟩:=m8 h;rw[Ji]at e1 e2
 have hj:j<ks.length+1:=by
  have:=(IG.mp (show ((List.range (ks.length+1)).map fun n=>aS f n g)[j]? = some x by rw[Ji];exact e2)).1;simpa using this
 have hi:i<ks.length+1:=by omega
 rw[JT hi]at e1;rw[JT hj]at e2;have e1':aS f i g=x:=IA e1;have e2':aS f j g=x:=IA e2;refine⟨j-i,by omega,by omega,?_⟩
 have e3:aS f (i+(j-i)) g=aS f i g:=by rw[show i+(j-i)=j by omega,e2',e1']
 rw[lI]at e3;exact qh hf i e3
theorem wX {f:Int->Int}{g:Int}:∀ (n:Nat),0<n->aS f n g=g->∃ m,0<m/\m<=n/\aS f m g=g/\∀ k,0<k->k<m->aS f k g≠g:=by
 intro n
 induction n using Nat.strongRecOn with
 | _ n ih =>
  intro hn he
  by_cases h:∃ k,0<k/\k<n/\aS f k g=g
  ·obtain⟨k,k0,kn,ke⟩:=h
   obtain⟨m,m0,mk,me,mf⟩:=ih k kn k0 ke;exact⟨m,m0,by omega,me,mf⟩
  ·exact⟨n,hn,Ix _,he,fun k k0 kn ke=>h ⟨k,k0,kn,ke⟩⟩
def bd (f:Int->Int)(g:Int)(m:Nat):List Int:=(List.range m).map fun i=>aS f i g
theorem kS {f:Int->Int}(hf:E8 f){g:Int}{m:Nat}(hm:∀ k,0<k->k<m->aS f k g≠g):(bd f g m).Nodup:=by
 cases Classical.em (bd f g m).Nodup with
 | inl h=>exact h
 | inr h =>
  obtain⟨i,j,hij,x,e1,e2⟩:=m8 h;unfold bd at e1 e2
  have hj:j<m:=by
   have:=(IG.mp e2).1;simpa using this
  rw[Ji,JT (by omega)]at e1;rw[Ji,JT hj]at e2;have e1':aS f i g=x:=IA e1;have e2':aS f j g=x:=IA e2
  have e3:aS f (i+(j-i)) g=aS f i g:=by rw[show i+(j-i)=j by omega,e2',e1']
  rw[lI]at e3;exact absurd (qh hf i e3) (hm (j-i) (by omega) (by omega))
theorem oF {f:Int->Int}{g:Int}{m:Nat}(hm:0<m)(he:aS f m g=g){x:Int}(hx:x∈bd f g m):f x∈bd f g m:=by
 unfold bd at hx ⊢;obtain⟨i,hi,rfl⟩:=Jf.mp hx;have hi:=JE.mp hi
 by_cases h:i+1<m
 ·exact Jf.mpr ⟨i+1,JE.mpr h,rfl⟩
 ·refine Jf.mpr ⟨0,JE.mpr hm,?_⟩
  have:i+1=m:=by omega
  rw[<-this]at he;exact he.symm
theorem rq (l:List Int):(df l).Perm l:=List.mergeSort_perm l _
def mx (f:Int->Int)(g:Int)(m:Nat):Prop:=0<m/\aS f m g=g/\∀ k,0<k->k<m->aS f k g≠g
def r9 (f:Int->Int)(N:Nat)(g:Int):Nat:=((List.range N).find? fun i=>decide (aS f (i+1) g=g)).getD 0+1
def cV (f:Int->Int)(N:Nat)(g:Int):List Int:=bd f g (r9 f N g)
theorem qb (p:Nat->Bool):∀ (N m:Nat),m<N->p m=true->(∀ k,k<m->p k=false)->(List.range N).find? p=some m
 | 0,m,h,_,_=>by omega
 | N+1,m,h,hm,hk=>by
  rw[List.range_succ,List.find?_append]
  by_cases e:m<N
  ·rw[qb p N m e hm hk];rfl
  ·have e:m=N:=by omega
   subst e;rw[List.find?_eq_none.mpr fun x hx=>by rw[hk x (JE.mp hx)];simp];simp[hm]
theorem A3 {f:Int->Int}{g:Int}{m N:Nat}(h:mx f g m)(hN:m<=N):r9 f N g=m:=by
 obtain⟨h0,h1,h2⟩:=h;unfold r9;rw[qb _ N (m-1) (by omega) (by rw[show m-1+1=m by omega];exact ID h1) fun k hk=>IE (h2 (k+1) (by omega) (by omega))];simp;omega
theorem sM {f:Int->Int}(hf:E8 f){K:List Int}(hk:∀ g∈K,f g∈K){g:Int}(hg:g∈K){N:Nat}(hN:K.length<=N):mx f g (r9 f N g):=by
 obtain⟨n,n0,n1,n2⟩:=wU hf hk hg;obtain⟨m,m0,m1,m2,m3⟩:=wX n n0 n2;have R:mx f g m:=⟨m0,m2,m3⟩;rw[A3 R (by omega)];exact R
theorem fL {f:Int->Int}{g x:Int}{m:Nat}:x∈bd f g m↔∃ i,i<m/\x=aS f i g:=by
 unfold bd;rw[Jf];constructor
 ·rintro⟨i,hi,rfl⟩;exact⟨i,JE.mp hi,rfl⟩
 ·rintro⟨i,hi,rfl⟩;exact⟨i,JE.mpr hi,rfl⟩
theorem oj {f:Int->Int}{S:List Int}(h:∀ x∈S,f x∈S):∀ (n:Nat){x:Int},x∈S->aS f n x∈S
 | 0,_,hx=>hx
 | n+1,_,hx=>h _ (oj h n hx)
theorem qW {f:Int->Int}{g:Int}{m:Nat}(R:mx f g m){S:List Int}(hS:∀ x∈S,f x∈S)(hg:g∉S):∀ x∈bd f g m,x∉S:=fun x hx z=>by
 obtain⟨i,hi,rfl⟩:=fL.mp hx;have:=oj hS (m-i) z;rw[<-lI,show m-i+i=m by omega,R.2.1]at this;exact hg this
def cK (f:Int->Int)(N:Nat):List Int->List Int->List (List Int)
 | [],_=>[]
 | g::ks,S=>if g∈S then cK f N ks S else cV f N g::cK f N ks (S++cV f N g)
theorem jo {f:Int->Int}(hf:E8 f){K:List Int}(hk:∀ g∈K,f g∈K){N:Nat}(hN:K.length<=N):∀ (ks S:List Int),(∀ x∈ks,x∈K)->(∀ x∈S,f x∈S) ->
  (cK f N ks S).flatten.Nodup/\(∀ x∈(cK f N ks S).flatten,x∉S/\x∈K)/\(∀ x∈ks,x∈S\/x∈(cK f N ks S).flatten)/\∀ r∈cK f N ks S,∃ g∈ks,r=cV f N g/\mx f g (r9 f N g)
 | [],S,_,_=>by simp[cK]
 | g::ks,S,h1,h2=>by
  have hgK:=h1 g IB;have h1':∀ x∈ks,x∈K:=fun x hx=>h1 x (Iy _ hx);unfold cK
  by_cases hg:g∈S
  ·rw[Iu hg]
   obtain⟨a,b,c,d⟩:=jo hf hk hN ks S h1' h2;refine⟨a,b,fun x hx=>?_,fun r hr=>?_⟩
   ·rcases IC.mp hx with rfl | z
    ·exact .inl hg
    ·exact c x z
   ·obtain⟨q,hq,e⟩:=d r hr
    exact⟨q,Iy _ hq,e⟩
  ·rw[Ir hg]
   have R:=sM hf hk hgK hN;have ap:=qW R h2 hg;have cl:∀ x∈cV f N g,f x∈cV f N g:=fun x hx=>oF R.1 R.2.1 hx
   have inK:∀ x∈cV f N g,x∈K:=fun x hx=>by
    obtain⟨i,hi,rfl⟩:=fL.mp hx;exact jF hk hgK i
   have g0:g∈cV f N g:=fL.mpr ⟨0,R.1,rfl⟩
   obtain⟨a,b,c,d⟩:=jo hf hk hN ks (S++cV f N g) h1' fun x hx=>by
    rcases IN.mp hx with z | z
    ·exact IN.mpr (.inl (h2 x z))
    ·exact IN.mpr (.inr (cl x z))
   rw[List.flatten_cons];refine⟨?_,fun x hx=>?_,fun x hx=>?_,fun r hr=>?_⟩
   ·rw[List.nodup_append]
    exact⟨kS hf R.2.2,a,fun x hx y hy e=>(b y hy).1 (IN.mpr (.inr (by rw[<-e];exact hx)))⟩
   ·rcases IN.mp hx with z | z
    ·exact⟨ap x z,inK x z⟩
    ·exact⟨fun q=>(b x z).1 (IN.mpr (.inl q)),(b x z).2⟩
   ·rcases IC.mp hx with rfl | z
    ·exact .inr (IN.mpr (.inl g0))
    ·rcases c x z with q | q
     ·rcases IN.mp q with q | q
      ·exact .inl q
      ·exact .inr (IN.mpr (.inl q))
     ·exact .inr (IN.mpr (.inr q))
   ·rcases IC.mp hr with rfl | z
    ·exact⟨g,IB,rfl,R⟩
    ·obtain⟨q,hq,e⟩:=d r z
     exact⟨q,Iy _ hq,e⟩
theorem sR {f:Int->Int}{N:Nat}{g:Int}:(cV f N g).length=r9 f N g:=by unfold cV bd;rw[Iq,Kg]
theorem Paired.mapP' {α β:Type}{F G:α->β->Prop}:∀ {l₁:List α}{l₂:List β},Paired F l₁ l₂->(∀ a b,a∈l₁->F a b->G a b)->Paired G l₁ l₂
 | _,_,.nil,_=>.nil
 | _,_,.cons e r,h=>.cons (h _ _ IB e) (Paired.mapP' r fun a b ha=>h a b (Iy _ ha))
structure wN (W:List (Int×Int)):Prop where
 inj:E8 (wr W)
 cl:∀ g∈av W,wr W g∈av W
 nd:(av W).Nodup
theorem gu {W:List (Int×Int)}{g:Int}(h:g∈av W):look W g=some (wr W g):=by
 obtain⟨m,e⟩:=Jn.mp (bN.mpr h);unfold wr;rw[e];rfl
theorem jk {st:bP}(G:ff st):wN st.worn:=by
 refine⟨fun a b e=>?_,fun g hg=>G.ow g _ (gu hg),G.wn⟩
 by_cases ha:a∈av st.worn
 ·have ea:=gu ha
  by_cases hb:b∈av st.worn
  ·have eb:=gu hb
   have h1:=(G.wh a _).mp ea;have h2:=(G.wh b _).mp eb;rw[e,h2]at h1;exact (IA h1).symm
  ·have:=G.ow a _ ea
   rw[e,rC hb]at this;exact absurd this hb
 ·by_cases hb:b∈av st.worn
  ·have:=G.ow b _ (gu hb)
   rw[<-e,rC ha]at this;exact absurd this ha
  ·rw[rC ha,rC hb]at e
   exact e
theorem qk (W:List (Int×Int)):(av W).length=W.length:=by unfold av;rw[Iq]
theorem wN.ring {W:List (Int×Int)}(P:wN W){g:Int}(hg:g∈av W):mx (wr W) g (r9 (wr W) W.length g):=sM P.inj P.cl hg (by rw[qk];exact Ix _)
theorem wN.ord_le {W:List (Int×Int)}(P:wN W){g:Int}(hg:g∈av W):r9 (wr W) W.length g<=W.length:=by
 have h:=fC (kS P.inj (P.ring hg).2.2) (m:=av W) fun x hx=>by
  obtain⟨i,_,rfl⟩:=fL.mp hx;exact jF P.cl hg i
 rw[qk]at h;unfold bd at h
 rwa [Iq,Kg]at h
def cu (W:List (Int×Int)):List (List Int):=cK (wr W) W.length (aW W) []
theorem wN.wrong {W:List (Int×Int)}(P:wN W):(∀ g∈aW W,g∈av W/\wr W g≠g)/\(aW W).Nodup/\(∀ g∈aW W,wr W g∈aW W)/\(aW W).length<=W.length:=by
 have m:∀ g,g∈aW W↔g∈av W/\wr W g≠g:=fun g=>by
  unfold aW;rw[List.mem_filter,(rq _).mem_iff];simp
 refine⟨fun g hg=>(m g).mp hg,((rq _).nodup_iff.mpr P.nd).filter _,fun g hg=>(m _).mpr ⟨P.cl g ((m g).mp hg).1,fun z=>((m g).mp hg).2 (P.inj _ _ z)⟩,Ad W⟩
theorem kR (f:Int->Int)(g:Int)(i:Nat):bd f g (i+1)=bd f g i++[aS f i g]:=by unfold bd;rw[List.range_succ,IQ];rfl
theorem jI (f:Int->Int)(g:Int)(i:Nat):(bd f g i).length=i:=by unfold bd;rw[Iq,Kg]
def mh (f:Int->Int)(N:Nat)(q:List Int×List (List Int))(g:Int):List Int×List (List Int):=if g∈q.1 then q else (q.1++cV f N g,q.2++[cV f N g])
theorem im (f:Int->Int)(N:Nat):∀ (ks S:List Int)(rs:List (List Int)),ks.foldl (mh f N) (S,rs)=(S++(cK f N ks S).flatten,rs++cK f N ks S)
 | [],S,rs=>by simp[cK]
 | g::ks,S,rs=>by
  rw[List.foldl_cons];unfold mh cK
  by_cases h:g∈S
  ·rw[Iu h,Iu h];exact im f N ks S rs
  ·rw[Ir h,Ir h]
   have:=im f N ks (S++cV f N g) (rs++[cV f N g]);unfold mh at this;rw[this,List.flatten_cons];simp
def qR (W:List (Int×Int))(i:Nat):List Int×List (List Int):=((aW W).take i).foldl (mh (wr W) W.length) ([],[])
theorem xK (W:List (Int×Int)){n:Nat}(h:(aW W).length<=n):(qR W n).2=cu W:=by unfold qR;rw[JK h,im];rfl
theorem yC {W:List (Int×Int)}{i:Nat}{g:Int}(h:(aW W)[i]? = some g):qR W (i+1)=mh (wr W) W.length (qR W i) g:=by unfold qR;rw[Jr,h,Js,List.foldl_append];rfl
theorem Bj {W:List (Int×Int)}(P:wN W)(i:Nat):(qR W i).1.Nodup/\(∀ x∈(qR W i).1,x∈aW W)/\(∀ x∈(qR W i).1,wr W x∈(qR W i).1)/\(qR W i).1.length<=W.length/\(qR W i).2.length<=i:=by
 obtain⟨w1,w2,w3,w4⟩:=P.wrong;have sub:∀ x∈(aW W).take i,x∈aW W:=fun x hx=>List.mem_of_mem_take hx;obtain⟨a,b,c,d⟩:=jo P.inj w3 w4 ((aW W).take i) [] sub (fun x h=>by cases h)
 have e:qR W i=((cK (wr W) W.length ((aW W).take i) []).flatten,cK (wr W) W.length ((aW W).take i) []):=by unfold qR;rw[im];rfl
 rw[e];refine⟨a,fun x hx=>(b x hx).2,fun x hx=>?_,IY (fC a fun x hx=>(b x hx).2) w4,?_⟩
 ·obtain⟨r,hr,hxr⟩:=List.mem_flatten.mp hx
  obtain⟨g,_,rfl,R⟩:=d r hr;exact List.mem_flatten.mpr ⟨_,hr,oF R.1 R.2.1 hxr⟩
 ·have:∀ (ks S:List Int),(cK (wr W) W.length ks S).length<=ks.length:=by
   intro ks
   induction ks with
   | nil=>intro S;exact Ix _
   | cons g ks ih =>
    intro S;unfold cK;split
    ·exact Nat.le_succ_of_le (ih S)
    ·rw[IX,IX]
     have:=ih (S++cV (wr W) W.length g);omega
  have h1:=this ((aW W).take i) [];rw[Jm]at h1
  show (cK (wr W) W.length ((aW W).take i) []).length<=i
  omega
def Fm (H:Hp)(l:Addr)(rs:List (List Int)):Prop:=∃ as:List Addr,H l=some (.lst (as.map V.ref))/\Paired (fun a (r:List Int)=>H a=some (.lst (r.map V.int))) as rs
inductive wA (c:HX) (vs:List V) (H:Hp) (Q:VK) (E_:XK):Prop
 | mk (p:Addr) (A:HA) (st:bP) (_:vs=[.ref p]) (_:aF c.C H p A st) (_:ff st) (_:st.worn.length<64) (_:(∀ g∈av st.worn,aJ g)) (_:∀ (l:Addr)(H':Hp),H l=none->ay H H'->H' l=some (.lst ((aW st.worn).map V.int))->Q (.ref l) H')
inductive yO (c:HX) (vs:List V) (H:Hp) (Q:VK) (E:XK):Prop
 | mk (p:Addr) (A:HA) (st:bP) (g:Int) (_:vs=[.ref p,.int g]) (_:aF c.C H p A st) (_:ff st) (_:st.worn.length<64) (_:(∀ g∈av st.worn,aJ g)) (_:aJ g) (_:(if (look st.worn g).isSome=true then ∀ (l:Addr)(H':Hp),H l=none->ay H H'->H' l=some (.lst ((cV (wr st.worn) st.worn.length g).map V.int))->Q (.ref l) H' else ∀ dx H',ay H H'->H' dx=some (.xd [("guest",.int g)])->E (.ref c.cN) (some dx) H'))
inductive yP (c:HX) (vs:List V) (H:Hp) (Q:VK) (E_:XK):Prop
 | mk (p:Addr) (A:HA) (st:bP) (_:vs=[.ref p]) (_:aF c.C H p A st) (_:ff st) (_:st.worn.length<64) (_:(∀ g∈av st.worn,aJ g)) (_:∀ (l:Addr)(as:List Addr)(H':Hp),H l=none->ay H H'->H' l=some (.lst (as.map V.ref))->Paired (fun a (r:List Int)=>H' a=some (.lst (r.map V.int))) as (cu st.worn)->(∀ a∈as,H a=none)->Q (.ref l) H')
inductive wx (vs:List V) (H:Hp) (Q:VK) (E_:XK):Prop
 | mk (w:Addr) (W:List (Int×Int)) (_:vs=[.ref w]) (_:H w=some (.dK (dk W))) (_:W.length<64) (_:wN W) (_:∀ (l:Addr)(H':Hp),H l=none->ay H H'->Fm H' l (cu W)->Q (.ref l) H')
theorem wk {W:List (Int×Int)}(P:wN W):(cu W).length<=W.length/\∀ r∈cu W,r.length<=W.length:=by
 obtain⟨w1,w2,w3,w4⟩:=P.wrong;have h:=Bj P (aW W).length;rw[xK W (Ix _)]at h;refine⟨by omega,fun r hr=>?_⟩;obtain⟨g,hg,rfl,R⟩:=(jo P.inj w3 w4 (aW W) [] (fun x h=>h) (fun x h=>by cases h)).2.2.2 r hr;rw[sR];exact P.ord_le (w1 g hg).1
end Wz
namespace L2
open PySem PySem.Spec PyProof.Rows
theorem Fv (xs:List V):ij xs (some 1) none=xs.drop 1:=by
 unfold ij;rw[show HT.sIx xs.length 0 (some 1)=min 1 xs.length from HT.sIx_nat _ _ 1,HT.sIx_none]
 by_cases h:xs=[]
 ·subst h;rfl
 ·have:0<xs.length:=List.length_pos_iff.mpr h
  rw[show min 1 xs.length=1 by omega,JK (by rw[List.length_drop];omega)]
end L2
namespace Wz
open PySem L2
theorem Ae {W:List (Int×Int)}{x:Int}(h:x∉aW W):wr W x=x:=by
 by_cases hx:x∈av W
 ·by_cases e:wr W x=x
  ·exact e
  ·exact absurd (List.mem_filter.mpr ⟨(rq _).mem_iff.mpr hx,ID e⟩) h
 ·exact rC hx
theorem Ao (xs:List V)(n:Nat):ij xs (some (n:Int)) none=xs.drop n:=by
 unfold ij;rw[HT.sIx_nat,HT.sIx_none]
 by_cases h:n<=xs.length
 ·rw[Nat.min_eq_left h,JK (by rw[List.length_drop];exact Ix _)]
 ·rw[Nat.min_eq_right (by omega),List.drop_length,List.drop_of_length_le (by omega)];simp
def Hv (p:Int×Int):aB:=.exch p.1 p.2
section
variable {st:bP}
theorem wN.flat (P:wN st.worn):(cu st.worn).flatten.Nodup/\(∀ x,x∈(cu st.worn).flatten->x∈av st.worn/\wr st.worn x≠x)/\∀ x,x∉(cu st.worn).flatten->wr st.worn x=x:=by
 obtain⟨w1,w2,w3,w4⟩:=P.wrong;obtain⟨a,b,c,d⟩:=jo P.inj w3 w4 (aW st.worn) [] (fun x h=>h) (fun x h=>by cases h);exact⟨a,fun x hx=>w1 x (b x hx).2,fun x hx=>Ae fun z=>hx ((c x z).elim (fun q=>by cases q) id)⟩
end
end Wz
namespace L2
open PySem
theorem bX.m {j k:Nat}{A:Around}(r:bX k A)(h:j<=k:=by decide):bX j A:=r.mono h
theorem eE {X:Cx}{e:Expr}{t:TE}(h:PE X e t)(hs:starEach [e] X.env=(false,eval e X.env)::starEach [] X.env:=by rfl):PA X [e] (gB t iP):=ar h aD hs
theorem jN {X:Cx}{e e2:Expr}{t t2:TE}(h:PE X e t)(h2:PE X e2 t2)(hs:starEach [e,e2] X.env=(false,eval e X.env)::starEach [e2] X.env:=by rfl)(hs2:starEach [e2] X.env=(false,eval e2 X.env)::starEach [] X.env:=by rfl):PA X [e,e2] (gB t (gB t2 iP)):=ar h (ar h2 aD hs2) hs
theorem zS {X:Cx}{e e2 e3:Expr}{t t2 t3:TE}(h:PE X e t)(h2:PE X e2 t2)(h3:PE X e3 t3)(hs:starEach [e,e2,e3] X.env=(false,eval e X.env)::starEach [e2,e3] X.env:=by rfl)(hs2:starEach [e2,e3] X.env=(false,eval e2 X.env)::starEach [e3] X.env:=by rfl)(hs3:starEach [e3] X.env=(false,eval e3 X.env)::starEach [] X.env:=by rfl):PA X [e,e2,e3] (gB t (gB t2 (gB t3 iP))):=ar h (ar h2 (ar h3 aD hs3) hs2) hs
theorem bD {X:Cx}{pos:Pos}(i:Nat){x:Str}{e:Expr}{te:TE}{pos':Pos}(hN:X.N.Nodup)(he:PE X e te)(hi:X.N[i]? = some x:=by rfl)(hx:De X.env.scope x:=by first | exact Or.inl rfl | exact Or.inr rfl)(hs:swapsWith e (some (.Name x pos')) pos.line X.env=pure false:=by rfl)(hf:X.fn x=true\/X.env.scope.names.lookup x=some .local:=by first | exact .inl rfl | exact .inr rfl | assumption) :
  PS X (.Assign [.Name x pos'] e pos) (BI te (jc i)):=dm hN hi hx he hs hf
theorem oC {X:Cx}{pos:Pos}(i:Nat){x:Str}(hN:X.N.Nodup)(hi:X.N[i]? = some x:=by rfl)(hx:De X.env.scope x:=by first | exact Or.inl rfl | exact Or.inr rfl)(hf:X.fn x=true\/X.env.scope.names.lookup x=some .local:=by first | exact .inl rfl | exact .inr rfl | assumption):PG X (.Name x pos) (jc i):=jP hN hi hx hf
theorem B8 {so sc:Scope}{N N':List Str}{src:List (Option Nat)}(a:sc.kind=.function:=by rfl)(b:∀ y∈sc.names,y.2≠.cell:=by decide +kernel)(c:∀ y∈sc.names,y.2=.local->sc.names.lookup y.1=some .local:=by decide +kernel)(d:∀ y∈sc.names,y.2=.free->so.names.lookup y.1=some .cell\/so.names.lookup y.1=some .free:=by decide +kernel)(e:N'.Nodup:=by decide +kernel)(f:src.length=N'.length:=by rfl)
  (g:∀ p∈N'.zip src,(match p.2 with | none=>true | some j=>decide (N[j]? = some p.1/\sc.names.lookup p.1=some .free))=true:=by decide +kernel):u0 so sc N N' src:=⟨a,b,c,d,e,f,g⟩
theorem eL {N P:List Str}{sc:Scope}(a:sc.kind=.function:=by rfl)(b:sc.isCoroutine=false:=by rfl)(c:sc.isGenerator=false:=by rfl)(d:N.Nodup:=by decide +kernel)(e:N.take P.length=P:=by rfl)(f:∀ x∈P,sc.names.lookup x=some .local\/sc.names.lookup x=some .cell:=by decide +kernel)(g:∀ y∈sc.names,y.2≠.free:=by decide +kernel):au N P sc:=⟨a,b,c,d,e,f,g⟩
end L2
namespace Wz
open PySem L2
def bg (K:PySem.W.Frag)(x:Str)(st:Stmt):Prop:=∃ (f:Addr)(fd:FuncData),PySem.W.nsIn K mainGlobals x=some (some (.ref f))/\dt K x x st f fd
theorem fact_mk {K:PySem.W.Frag}{x:Str}{st:Stmt}{f:Addr}{oc:Value}{od an:Option Addr}{osl:Array (Option Value)}{kV doc pm cdv ct:Value}(a:PySem.W.nsIn K mainGlobals x=some (some (.ref f)))(l:K.lookup f=some ⟨oc,od,.func (PySem.W.fnOf x x (fh st) (dN st) (ai st) .none kV doc pm an cdv ct),osl⟩)
  (c:PySem.W.codeIn K cdv x=true) (k:PySem.W.keepIn K (.ref f)=true):bg K x st:=⟨f,_,a,AB l c k⟩
def bo (K:PySem.W.Frag)(C:Addr)(m q:Str)(st:Stmt):Prop:=∃ (f:Addr)(fd:FuncData),PySem.W.findIn K (.ref C) m=some (some (.ref f))/\PySem.W.isFn K (.ref f)=true/\dt K m q st f fd
theorem mfact_mk {K:PySem.W.Frag}{C:Addr}{m q:Str}{st:Stmt}{f:Addr}{oc:Value}{od an:Option Addr}{osl:Array (Option Value)}{kV doc pm cdv ct:Value}(a:PySem.W.findIn K (.ref C) m=some (some (.ref f)))(i:PySem.W.isFn K (.ref f)=true)(l:K.lookup f=some ⟨oc,od,.func (PySem.W.fnOf m q (fh st) (dN st) (ai st) .none kV doc pm an cdv ct),osl⟩)
  (c:PySem.W.codeIn K cdv q=true) (k:PySem.W.keepIn K (.ref f)=true):bo K C m q st:=⟨f,_,a,i,AB l c k⟩
section
variable {P:Program}{w:World}{K:PySem.W.Frag}{h base:Heap}{mg:Str->Option Value}{x m q:Str}{st:Stmt}{k:Nat}{ps:List Str}{sp:Sp}{C:Addr}{CX:wK}
theorem Cs {n:Nat}{P:List Value->Prop}(h:∀ (a:Value)(vs:List Value),vs.length=n->P (a::vs)):∀ us:List Value,us.length=n+1->P us
 | a::vs,e=>h a vs (Nat.succ.inj e)
theorem Cr {P:List Value->Prop}(h:P []):∀ us:List Value,us.length=0->P us
 | [],_=>h
end
structure Bs (P:Program)(w:World)(K:PySem.W.Frag)(mg:Str->Option Value)(base h:Heap):Prop where
 X:K.In h
 G:h.Ns mainGlobals mg
section
variable {P:Program}{w:World}{K:PySem.W.Frag}{h base:Heap}{mg:Str->Option Value}{x m q:Str}{st:Stmt}{k:Nat}{ps:List Str}{sp:Sp}{C:Addr}{CX:wK}(z:Bs P w K mg base h)
include z
theorem fk (F:bg K x st)(ok:∀ f fd,dt K x x st f fd->aR P w K mg base c0 k f fd ps sp)
  (hb:∀ (kV doc pm:Value)(an:Option Addr)(cdv ct:Value)(us:List Value),us.length=ps.length->bindArgs (PySem.W.fnOf x x (fh st) (dN st) (ai st) .none kV doc pm an cdv ct) ⟨us,[]⟩=pure (ps.zip us):=by intro _ _ _ _ _ _;(repeat refine Cs fun _=>?_);exact Cr rfl):bb P w K mg base x k ps sp:=by
 obtain⟨f,fd,a,g⟩:=F;exact⟨f,fd,ok f fd g,I0 z.X z.G a,g.kp,g.binds hb⟩
theorem FJ (F:bg K x st)(ok:∀ f fd,dt K x x st f fd->aR P w K mg base (h9 P w) k f fd ps sp)
  (hb:∀ (kV doc pm:Value)(an:Option Addr)(cdv ct:Value)(us:List Value),us.length=ps.length->bindArgs (PySem.W.fnOf x x (fh st) (dN st) (ai st) .none kV doc pm an cdv ct) ⟨us,[]⟩=pure (ps.zip us):=by intro _ _ _ _ _ _;(repeat refine Cs fun _=>?_);exact Cr rfl):o8 P w K mg base x k ps sp:=by
 obtain⟨f,fd,a,g⟩:=F;exact⟨f,fd,ok f fd g,I0 z.X z.G a,g.kp,g.binds hb⟩
theorem hG (F:bo K C m q st)(ok:∀ f fd,dt K m q st f fd->aR P w K mg base CX k f fd ps sp)
  (hb:∀ (kV doc pm:Value)(an:Option Addr)(cdv ct:Value)(us:List Value),us.length=ps.length->bindArgs (PySem.W.fnOf m q (fh st) (dN st) (ai st) .none kV doc pm an cdv ct) ⟨us,[]⟩=pure (ps.zip us):=by intro _ _ _ _ _ _;(repeat refine Cs fun _=>?_);exact Cr rfl):aM P w K mg base CX C m k ps sp:=by
 obtain⟨f,fd,a,i,g⟩:=F;exact⟨f,fd,ok f fd g,⟨a,i,g.kp⟩,g.binds hb⟩
end
end Wz
namespace L2
open PySem PySem.Spec PyProof.Rows
theorem sT {i:Int}(h:i.natAbs<10 ^ 100):i.natAbs.log2<1920:=by
 by_cases h0:i.natAbs=0
 ·rw[h0];decide
 ·rw[Nat.log2_lt h0]
  exact Nat.lt_trans h (by decide +kernel)
theorem gW {X:Cx}:gR X (.type "str") (fun xs H Q=>(∃ s,xs=[.str s]/\Q (.str s) H)\/∃ i:Int,xs=[.int i]/\i.natAbs<10 ^ 100/\Q (.str (Str.ofString (toString i))) H):=by
 intro pins s σ H xs us Q I r h;rcases h with ⟨z,rfl,q⟩ | ⟨i,rfl,hi,q⟩
 ·obtain⟨u,rfl,rx⟩:=hZ r
  obtain⟨t,rfl⟩:=rx;exact P.str_of_str ⟨.str z,H,I,⟨t,rfl⟩,q⟩
 ·obtain⟨u,rfl,rx⟩:=hZ r
  obtain⟨t,rfl⟩:=rx;exact P.str_of_int (sT hi) ⟨.str _,H,I.tok _,⟨_,rfl⟩,q⟩
theorem tF:∀ {ts:List Str}{its:List Value},aU (ts.map V.str) its->∃ l:List (Str×Tok),its=strValues l/\l.map (·.1)=ts
 | [],its,r=>by
  have:=r.length;refine⟨[],?_,rfl⟩;exact List.eq_nil_of_length_eq_zero this.symm
 | t::ts,its,r=>by
  cases r with
  | cons rx rt =>
   obtain⟨l,e1,e2⟩:=tF rt;obtain⟨k,rfl⟩:=rx;exact⟨(t,k)::l,by rw[e1];rfl,by rw[IR,e2]⟩
def Bl (K:PySem.W.Frag):V->List V->Hp->VK->Prop:=fun x vs H Q=>∃ sep l ts,x=.str sep/\vs=[.ref l]/\bx K H l (ts.map V.str)/\JoinOk sep ts=true/\Q (.str (Txt.join sep ts)) H
theorem CB {X:Cx}(K:PySem.W.Frag)(hK:X.K=K:=by rfl):Gd X "str.join" (Bl K):=by
 subst hK;intro pins s σ H x xs v us Q I rx rv h;obtain⟨sep,l,ts,rfl,rfl,hq,ok,q⟩:=h;obtain⟨t,rfl⟩:=rx;obtain⟨u,rfl,ru⟩:=hZ rv;cases ru;obtain⟨its,rl,pl,hz⟩:=I.list hq;obtain⟨ls,rfl,e⟩:=tF rl;exact SC.join pl.isList e ok fun t' k=>⟨.str _,H,I.tok _,⟨_,rfl⟩,q⟩
theorem lT {X:Cx}(K:PySem.W.Frag){o e:Expr}{to te:TE}{apos cpos:Pos}(ho:PE X o to)(he:PE X e te)(hK:X.K=K:=by rfl)(hbase:attributeBase o "join" X.env (eval o X.env)=eval o X.env:=by rfl)
  (hfew:((backTo cpos (starEach [e] X.env)).all (fun x=>!x.1)&&(backToKw cpos (keywordEach [] X.env)).all (fun x=>x.1.isSome)&&decide ([e].length+([]:List Keyword).length+(if ([]:List Keyword).isEmpty then 0 else 1)<30))=true:=by rfl)
  (hline:(apos.endLine == cpos.line)=true:=by rfl) (hs:starEach [e] X.env=(false,eval e X.env)::starEach [] X.env:=by rfl) (hplain:(backTo cpos (starEach [] X.env)).any (·.1)=false:=by rfl) :
  PE X (.Call (.Attribute o "join" apos) [e] [] cpos) (F2 K "str" (Bl K) to (gB te iP)):=by
 subst hK;exact eR PySem.F.plainAttrs_str PySem.F.slot_str_join PySem.F.type_str_join (CB X.K) ho (ar he aD hs) hbase hfew hline hs hplain
theorem Fu {so sc:Scope}{N N':List Str}{src:List (Option Nat)}(a:sc.kind=.function:=by rfl)(b:∀ y∈sc.names,y.2≠.cell:=by decide +kernel)(c:∀ y∈sc.names,y.2=.local->sc.names.lookup y.1=some .local:=by decide +kernel)(d:∀ y∈sc.names,y.2≠.free:=by decide +kernel)(e:N'.Nodup:=by decide +kernel)(f:src.length=N'.length:=by rfl)
  (g:∀ p∈N'.zip src,(match p.2 with | none=>true | some j=>decide (N[j]? = some p.1/\sc.names.lookup p.1=some .free))=true:=by decide +kernel):u0 so sc N N' src:=⟨a,b,c,fun y hy z=>absurd z (d y hy),e,f,g⟩
end L2
namespace Wz
open PySem L2
def bS (g:Int):Str:=Str.ofString (toString g)
def jB (d:aB):List Str:=word d::(names d).map bS
def ou (d:aB):Str:=Txt.join (Str.ofString " ") (jB d)
theorem yu {g:Int}(h:aJ g):(bS g).length<=1921:=PyProof.Rows.int_text_len_1921 (sT h)
theorem BN (d:aB):(word d).length<=8:=by
 have h1:(("come" : Str)).length<=8:=by decide +kernel
 have h2:(("go" : Str)).length<=8:=by decide +kernel
 have h3:(("exchange" : Str)).length<=8:=by decide +kernel
 cases d
 ·exact h1
 ·exact h2
 ·exact h3
theorem Ac {d:aB}(h:∀ g∈names d,aJ g):(∀ y∈jB d,y.length<=1921)/\(jB d).length<=3:=by
 refine⟨fun y hy=>?_,?_⟩
 ·rcases IC.mp hy with z | z
  ·rw[z];have:=BN d;omega
  ·obtain⟨g,hg,rfl⟩:=Jf.mp z
   exact yu (h g hg)
 ·unfold jB
  rw[IX,Iq];cases d<;>simp[names]
theorem t6 {sep:Str}{ts:List Str}{B:Nat}(h:∀ y∈ts,y.length<=B)(hl:ts.length*B+ts.length*sep.length<=16777216):JoinOk sep ts=true:=by
 unfold JoinOk;rw[StrLaws.joinFits h hl];rfl
theorem AJ {sep:Str}:∀ {ts:List Str}{B:Nat},(∀ y∈ts,y.length<=B)->(Txt.join sep ts).length<=ts.length*(B+sep.length)
 | [],B,_=>by
  show (Builtin.Str.glued sep []).length<=_
  rw[StrLaws.glued_eq_join]
  have:(sep.join []).length=0:=by first | rfl | simp
  omega
 | t::ts,B,h=>by
  show (Builtin.Str.glued sep (t::ts)).length<=_
  rw[StrLaws.glued_eq_join,PyProof.Rows.len_join_cons]
  have sm:∀ (l:List Str),(∀ y∈l,y.length<=B)->(l.map fun x=>x.length).sum<=l.length*B:=fun l=>by
   induction l with
   | nil=>intro _;simp
   | cons a r ih =>
    intro hh;have i:=ih fun y hy=>hh y (Iy _ hy);have j:=hh a IB;rw[IR,List.sum_cons,IX,Nat.add_mul];omega
  have s:=sm (t::ts) h;rw[Nat.mul_add];have:ts.length*sep.length<=(t::ts).length*sep.length:=Nat.mul_le_mul_right _ (by simp);omega
theorem BO {d:aB}(h:∀ g∈names d,aJ g):JoinOk (Str.ofString " ") (jB d)=true:=by
 obtain⟨w1,w2⟩:=Ac h
 have e:(Str.ofString " ").length=1:=by decide +kernel
 refine t6 w1 ?_;rw[e];have:(jB d).length*1921<=3*1921:=Nat.mul_le_mul_right _ w2;omega
end Wz
namespace PySem
open Sem (wp)
section
variable {M:Model}{A:Around}{E:Value->Shared->Prop}{s:Shared}{env:Env}
def Fb (M:Model)(A:Around)(E:Value->Shared->Prop)(use:Option (Value->Sem Unit))(Q:Value->Shared->Prop)(acc:Value)(C:Addr)(fr:Option Addr)(r:Result)(s':Shared):Prop :=
 match r,use with
 | .ok _,none=>∃ m,s'.heap.Ns C m/\∀ h',Heap.SameBut C s'.heap h'->Q acc { s' with heap:=h' }
 | .ok _,some u=>wpAny M A (u acc) (fun _ s''=>∃ m,s''.heap.Ns C m/\∀ h',Heap.SameBut C s''.heap h'->Q .none { s'' with heap:=h' }) E s'
 | .error x,_=>∃ m,s'.heap.Ns C m/\∀ h',Heap.SameBut C s'.heap h'->∀ cenv:Env,cenv.frame=fr->wpAny M A (passOn "comprehension.variables-let-go" x cenv:Sem Value) (fun _ _=>False) E { s' with heap:=h' }
end
end PySem
namespace Wz
open PySem L2
def HY (o:Option Int):V:=match o with | none=>.non | some p=>.int p
end Wz
set_option maxRecDepth 1000000
set_option maxHeartbeats 8000000
namespace Wz
open PySem L2
theorem Bt {K:PySem.W.Frag}{G:Hp}{x:Addr}{qs:List (Int×Int)}{Q':VK}(n:Nat)(hx:oh G x qs)(k:∀ (p:Addr)(G':Hp),G p=none->ay G G'->oh G' p (qs.drop n)->Q' (.ref p) G'):FV K (.ref x) (some (n:Int)) none G Q':=by
 obtain⟨as,h1,p1⟩:=hx;refine⟨x,_,rfl,bx.of h1,fun p hp=>k p _ hp (ak hp) ⟨as.drop n,by rw[ac,Ao,List.map_drop],Paired.mapP (oA n p1) fun b e z=>(ak hp) _ _ z⟩⟩
end Wz
set_option maxRecDepth 1000000
set_option maxHeartbeats 8000000
namespace Tm
open PySem PyProof.Rows
def el (xs:Array Keyed)(i:Nat):Keyed:=xs.getD i (.none,.none)
structure Io (P:Program)(w:World)(A:Around)(s:Shared)(κ:SortKind)(a0:Array Keyed)(lt:Keyed->Keyed->Bool):Prop where
 cmp:∀ {x y:Keyed}{E:Value->Shared->Prop}{Q:Bool->Prop},x∈a0->y∈a0->Q (lt x y)->wpAny (model P w) A (keyLt' κ x.1 y.1) (fun b s'=>s'=s/\Q b) E s
 irr:∀ x,lt x x=false
 tr:∀ x y z,lt x y=true->lt y z=true->lt x z=true
 tot:∀ x y,x∈a0->y∈a0->x≠y->lt x y=true\/lt y x=true
 nd:a0.toList.Nodup
structure Hz (κ:SortKind)(a0:Array Keyed)(st:SortSt):Prop where
 pm:(arrOf st).Perm a0
 fl:failedOf st=none
 kd:kindOf st=κ
section
variable {P:Program}{w:World}{A:Around}{E:Value->Shared->Prop}{s:Shared}{κ:SortKind}{a0:Array Keyed}{lt:Keyed->Keyed->Bool}{st:SortSt}
def Up (lt:Keyed->Keyed->Bool)(xs:Array Keyed)(lo hi:Nat):Prop:=∀ i j,lo<=i->i<j->j<hi->lt (el xs i) (el xs j)=true
def Dn (lt:Keyed->Keyed->Bool)(xs:Array Keyed)(lo hi:Nat):Prop:=∀ i j,lo<=i->i<j->j<hi->lt (el xs j) (el xs i)=true
def Il (xs ys:Array Keyed)(lo hi:Nat):Prop:=∀ i,i<lo\/hi<=i->el ys i=el xs i
def HI (st st':SortSt):Prop:=pendingOf st'=pendingOf st/\gallopOf st'=gallopOf st
end
def Gm:Bool->Keyed->Array Keyed->Nat->Nat->Nat->StateT SortSt Sem (Option Nat):=sortPriv% PySem.Builtin.gallop
def Bf (lt:Keyed->Keyed->Bool)(left:Bool)(key:Keyed)(xs:Array Keyed)(b i:Nat):Bool:=if left=true then lt (el xs (b+i)) key else !lt key (el xs (b+i))
def Fn (R:Keyed->Keyed->Prop)(T r:List Keyed):Prop:=r.Perm T/\r.Pairwise R
structure J (R:Keyed->Keyed->Prop)(T out ra rb:List Keyed):Prop where
 pm:(out++(ra++rb)).Perm T
 so:out.Pairwise R
 oa:∀ x,x∈out->∀ y,y∈ra->R x y
 ob:∀ x,x∈out->∀ y,y∈rb->R x y
 sa:ra.Pairwise R
 sb:rb.Pairwise R
 la:∀ x,x∈rb->∀ z,ra.getLast? = some z->R x z
def FI:Array Keyed->Array Keyed->StateT SortSt Sem (Array Keyed):=sortPriv% PySem.Builtin.mergeLo
def BV:Nat->StateT SortSt Sem Unit:=sortPriv% PySem.Builtin.setMinGallop
structure tL (a0:Array Keyed)(lt:Keyed->Keyed->Bool)(a b:Array Keyed):Prop where
 ma:∀ i,i<a.size->el a i∈a0
 mb:∀ i,i<b.size->el b i∈a0
 ne:∀ i j,i<a.size->j<b.size->el a i≠el b j
 ua:Up lt a 0 a.size
 ub:Up lt b 0 b.size
 za:0<a.size
 zb:0<b.size
 h0:lt (el b 0) (el a 0)=true
 hl:lt (el b (b.size-1)) (el a (a.size-1))=true
def ay (st st':SortSt):Prop:=arrOf st'=arrOf st/\failedOf st'=failedOf st/\kindOf st'=kindOf st/\pendingOf st'=pendingOf st
def Jl (lt:Keyed->Keyed->Bool)(a b:Array Keyed)(out:Array Keyed)(ia ib:Nat):Prop:=J (fun x y=>lt x y=true) (a.toList++b.toList) out.toList (a.toList.drop ia) (b.toList.drop ib)
def Sl (lt:Keyed->Keyed->Bool)(a b:Array Keyed)(n:Nat)(r:Option (Array Keyed))(out:Array Keyed)(ia ib:Nat):Prop :=
 (∃ q,r=some q/\Fn (fun x y=>lt x y=true) (a.toList++b.toList) q.toList)\/(r=none/\Jl lt a b out ia ib/\ia+1<a.size/\ib<b.size/\n<=out.size)
def FH:Array Keyed->Array Keyed->StateT SortSt Sem (Array Keyed):=sortPriv% PySem.Builtin.mergeHi
def Jh (lt:Keyed->Keyed->Bool)(a b:Array Keyed)(out:Array Keyed)(na nb:Nat):Prop:=J (fun x y=>lt y x=true) (a.toList++b.toList) out.toList (b.toList.take nb).reverse (a.toList.take na).reverse
def Sh (lt:Keyed->Keyed->Bool)(a b:Array Keyed)(n:Nat)(r:Option (Array Keyed))(out:Array Keyed)(na nb:Nat):Prop :=
 (∃ q,r=some q/\Fn (fun x y=>lt x y=true) (a.toList++b.toList) q.toList)\/(r=none/\Jh lt a b out na nb/\0<na/\na<a.size/\1<nb/\nb<=b.size/\n<=out.size)
def back (q:Nat)(m arr:Array Keyed):Array Keyed:=m.toList.zipIdx.foldl (fun a (p,j)=>a.setIfInBounds (q+j) p) arr
def Ch (lt:Keyed->Keyed->Bool)(xs:Array Keyed):Nat->List (Nat×Nat×Nat)->Nat->Prop
 | f,[],u=>f=u
 | f,t::r,u=>t.1=f/\1<=t.2.1/\Up lt xs f (f+t.2.1)/\Ch lt xs (f+t.2.1) r u
end Tm
namespace Qs
open PySem PySem.W PyProof.Rows
open Classical in
noncomputable def dec (h:Heap) (v:Value):Int×Int:=if z:∃ p,DQ h v p then choose z else (0,0)
end Qs
namespace L2
open PySem PySem.Spec PyProof.Rows
inductive GZ (K:PySem.W.Frag) (n:Nat) (neg:Bool) (x:V) (y:V) (H:Hp) (Q:VK):Prop
 | mk (p:Addr) (as:List Addr) (d:Dt) (ds:List Dt) (_:y=.ref p) (_:(bx K H p (as.map V.ref)\/c7 K H p (as.map V.ref))) (_:RD K H n x d) (_:Paired (fun (a:Addr)(e:Dt)=>RD K H n (.ref a) e) as ds) (_:∀ k:Bool,(k=true↔d∈ds)->Q (.bl (if neg then !k else k)) H)
section
variable {X:Cx}
open Classical in
theorem w8 {pins:List (Addr×Obj)}{σ:St}{H:Hp}{s:Shared}{n:Nat}{A:Around}{x:V}{v:Value}{d:Dt}(I:aA X pins σ H s)(hu:A.units+n<cLine+1)(rx:aP x v)(hx:RD X.K H n x d) :
  ∀ {as:List Addr}{ds:List Dt}{us:List Value},Paired (fun (a:Addr)(e:Dt)=>RD X.K H n (.ref a) e) as ds->aU (as.map V.ref) us ->
  (∀ u∈us,SeqAt.EqAt A s u v (decide (∃ a,u=.ref a/\RD X.K H n (.ref a) d)))/\(us.any (fun u=>decide (∃ a,u=.ref a/\RD X.K H n (.ref a) d))=true↔d∈ds)
 | _,_,us,.nil,r=>by
  cases r;exact⟨(fun u hu=>(by cases hu)),(by simp)⟩
 | a::as,e::ds,us,.cons he hp,r=>by
  cases r with
  | cons r1 r2 =>
   rename_i u us
   cases r1;obtain⟨ih1,ih2⟩:=w8 I hu rx hx hp r2;obtain⟨k,hk,ek⟩:=Aw I n hu he hx (show aP (.ref a) (.ref a) from rfl) rx
   have kk:decide (∃ b,Value.ref a=.ref b/\RD X.K H n (.ref b) d)=k:=by
    by_cases z:e=d
    ·rw[hk.mpr z]
     exact ID ⟨a,rfl,z▸he⟩
    ·have:k=false:=by cases k with
      | false=>rfl
      | true=>exact absurd (hk.mp rfl) z
     rw[this];refine IE fun ⟨b,eb,hb⟩=>z ?_;cases eb;exact RD.inj I he hb
   refine⟨fun w hw=>?_,?_⟩
   ·rcases IC.mp hw with rfl | hw
    ·rw[kk];exact ek
    ·exact ih1 w hw
   ·rw[JL,kk,Bool.or_eq_true,ih2,IC,hk]
    exact⟨fun z=>z.imp (fun y=>y.symm) id,fun z=>z.imp (fun y=>y.symm) id⟩
theorem EF (n:Nat)(hu:X.A.units+n<cLine):k8 X (compareOp .In) (GZ X.K n false):=by
 intro pins s σ H x y v u Q I rx ry h;obtain⟨p,as,d,ds,rfl,hq,hx,hp,q⟩:=h;cases ry
 have hu':X.A.in1.units+n<cLine+1:=by show X.A.units+1+n<cLine+1;omega
 rcases hq with hq | hq
 ·obtain⟨its,r,pl,hz⟩:=I.list hq
  obtain⟨h1,h2⟩:=w8 I hu' rx hx hp r;refine SeqAt.in_listAt _ pl.isList (fun w hw=>h1 w (by simpa using hw)) ⟨.bl _,H,I,rfl,?_⟩;rw[List.any_toArray];exact q _ h2
 ·obtain⟨its,r,pl,hz⟩:=I.tuple hq
  obtain⟨h1,h2⟩:=w8 I hu' rx hx hp r;refine SeqAt.in_tupleAt _ pl (fun w hw=>h1 w (by simpa using hw)) ⟨.bl _,H,I,rfl,?_⟩;rw[List.any_toArray];exact q _ h2
end
end L2
namespace Wz
open PySem L2
structure KA where
 dx:Addr
 p:Addr
 pl:Addr
structure dh where
 plan:Option (List (Int×Int))
 dn:Nat
 brk:Option Int
def dh.planV (A:KA)(s:dh):V:=match s.plan with | none=>.non | some _=>.ref A.pl
def rF (h p d b:V):List (Str×V):=[("hall",h),("plan",p),("danced",d),("breaking",b)]
def qi (A:KA)(s:dh):List (Str×V):=rF (.ref A.p) (s.planV A) (.int s.dn) (HY s.brk)
theorem FG:¬ (("hall" : Str)="plan"):=by decide +kernel
theorem Ff:¬ (("hall" : Str)="danced"):=by decide +kernel
theorem GP:¬ (("hall" : Str)="breaking"):=by decide +kernel
theorem Gn:¬ (("plan" : Str)="danced"):=by decide +kernel
theorem GQ:¬ (("plan" : Str)="breaking"):=by decide +kernel
theorem GR:¬ (("danced" : Str)="breaking"):=by decide +kernel
section
variable {h p d b v:V}
theorem vA:aV "danced" v (rF h p d b)=rF h p v b:=by
 unfold rF;simp only[aV];rw[Ir Ff,Ir Gn,Iu trivial]
theorem kj:aV "breaking" v (rF h p d b)=rF h p d v:=by
 unfold rF;simp only[aV];rw[Ir GP,Ir GQ,Ir GR,Iu trivial]
theorem sP:aV "breaking" b (aV "danced" d (aV "plan" p (aV "hall" h [])))=rF h p d b:=by
 unfold rF;simp only[aV];rw[Ir FG];simp only[aV];rw[Ir Ff,Ir Gn];simp only[aV];rw[Ir GP,Ir GQ,Ir GR]
theorem Dk:aV "plan" p (aV "hall" h [])=([("hall",h),("plan",p)]:List (Str×V)):=by
 simp only[aV];rw[Ir FG]
theorem FF:aV "danced" d (aV "plan" p (aV "hall" h []))=([("hall",h),("plan",p),("danced",d)]:List (Str×V)):=by
 rw[Dk];simp only[aV];rw[Ir Ff,Ir Gn]
theorem jH:(rF h p d b).lookup ("hall" : Str)=some h:=by
 rw[<-sP,ao,Ir GP,ao,Ir Ff,ao,Ir FG,ao,Iu rfl]
theorem lJ:(rF h p d b).lookup ("plan" : Str)=some p:=by
 rw[<-sP,ao,Ir GQ,ao,Ir Gn,ao,Iu rfl]
theorem jG:(rF h p d b).lookup ("danced" : Str)=some d:=by
 rw[<-sP,ao,Ir GR,ao,Iu rfl]
theorem vx:(rF h p d b).lookup ("breaking" : Str)=some b:=by
 rw[<-sP,ao,Iu rfl]
theorem gX {m:Str}(q:¬ m="hall"/\¬ m="plan"/\¬ m="danced"/\¬ m="breaking"):(rF h p d b).lookup m=none:=by
 rw[<-sP,ao,Ir q.2.2.2,ao,Ir q.2.2.1,ao,Ir q.2.1,ao,Ir q.1];rfl
end
structure cJ (C:Addr)(H:Hp)(k:Addr)(A:KA)(s:dh):Prop where
 ob:H k=some (.ins C A.dx (qi A s))
 pl:∀ ps,s.plan=some ps->oh H A.pl ps
 le:∀ ps,s.plan=some ps->s.dn<=ps.length/\ps.length<=400
theorem cJ.mono {C:Addr}{H H':Hp}{k:Addr}{A:KA}{s:dh}(x:cJ C H k A s)(m:ay H H'):cJ C H' k A s:=⟨m _ _ x.ob,fun ps e=>(x.pl ps e).mono m,x.le⟩
def dh.rest (s:dh):List (Int×Int):=match s.plan,s.brk with | some ps,none=>ps.drop s.dn | _,_=>[]
def dh.due (s:dh):Option (Int×Int):=s.rest.head?
def dh.word (s:dh):Str:=match s.plan,s.brk with | none,_=>"none" | some _,some _=>"broken" | some ps,none=>if s.dn=ps.length then "done" else "standing"
def qZ (p:Int×Int)(a b:Int):Bool:=decide (p=(a,b)\/p=(b,a))
def dh.next (s:dh)(a b:Int)(m:Int):dh:=match s.due with | none=>s | some p=>if qZ p a b=true then { s with dn:=s.dn+1 } else { s with brk:=some m }
inductive xU (C:Addr) (vs:List V) (H:Hp) (Q:VK) (E_:XK):Prop
 | mk (k dx p:Addr) (_:vs=[.ref k,.ref p]) (_:H k=some (.ins C dx [])) (_:Q .non (upd H k (.ins C dx (rF (.ref p) .non (.int 0) .non))))
inductive pz (C:Addr) (vs:List V) (H:Hp) (Q:VK) (E_:XK):Prop
 | mk (k:Addr) (A:KA) (s:dh) (_:vs=[.ref k]) (_:cJ C H k A s) (_:Q (.str s.word) H)
inductive uM (C:Addr) (vs:List V) (H:Hp) (Q:VK) (E_:XK):Prop
 | mk (k:Addr) (A:KA) (s:dh) (_:vs=[.ref k]) (_:cJ C H k A s) (_:∀ (l:Addr)(H':Hp),H l=none->ay H H'->oh H' l s.rest->Q (.ref l) H')
inductive yL (C:Addr) (vs:List V) (H:Hp) (Q:VK) (E_:XK):Prop
 | mk (k:Addr) (A:KA) (s:dh) (_:vs=[.ref k]) (_:cJ C H k A s) (_:∀ H',ay H H'->Q (.int s.rest.length) H')
def Fy (H:Hp)(Q:VK):Option (Int×Int)->Prop
 | none=>Q .non H
 | some p=>∀ b,H b=some (.tup [.int p.1,.int p.2])->Q (.ref b) H
inductive xT (C:Addr) (vs:List V) (H:Hp) (Q:VK) (E_:XK):Prop
 | mk (k:Addr) (A:KA) (s:dh) (_:vs=[.ref k]) (_:cJ C H k A s) (_:Fy H Q s.due)
def yZ (c:HX)(ck:Addr)(H:Hp)(k:Addr)(A:KA)(B:HA)(st':bP)(s':dh)(H':Hp):Prop:=∃ B':HA,aF c.C H' A.p B' st'/\cJ ck H' k A s'/\(∀ b o,H b=some o->b∉B.fp->b≠k->H' b=some o)/\(∀ b∈B'.fp,b∈B.fp\/H b=none)/\Tr H H'
structure Af (c:HX)(ck:Addr)(H:Hp)(k:Addr)(A:KA)(s:dh)(B:HA)(st:bP):Prop where
 kp:cJ ck H k A s
 hall:aF c.C H A.p B st
 kB:k∉B.fp
 pB:∀ ps,s.plan=some ps->A.pl∉B.fp
inductive uL (c:HX) (ck:Addr) (vs:List V) (H:Hp) (Q:VK) (E:XK):Prop
 | mk (k:Addr) (A:KA) (s:dh) (B:HA) (st:bP) (a b:Int) (_:vs=[.ref k,.int a,.int b]) (_:Af c ck H k A s B st) (_:pI st) (_:aJ a) (_:aJ b) (_:if aE st (.exch a b)=.done then ∀ H',yZ c ck H k A B (after st (.exch a b)) (s.next a b (st.deeds.length+1)) H'->Q .non H' else gH c E H (aE st (.exch a b)))
structure HK (K:PySem.W.Frag)(mg:Str->Option Value)(ck:Addr):Prop where
 cl:uZ K ck
 nH:bW K ck "hall"
 nP:bW K ck "plan"
 nD:bW K ck "danced"
 nB:bW K ck "breaking"
 mK:mg "Keeper" = some (.ref ck)
def Gx (P:Program)(w:World)(K:PySem.W.Frag)(mg:Str->Option Value)(base:Heap)(ck:Addr):Prop:=∃ (fI:Addr)(fd:FuncData),Mk K ck fI/\aR P w K mg base c0 1 fI fd ["self","hall"] (xU ck)/\dE K fd ["self","hall"] []
theorem CN {X:Cx}{ck:Addr}{p pos:Pos}{e:Expr}{t:TA}(M:Gx X.prog X.w X.K X.mg X.base ck)(U:HK X.K X.mg ck)(hr:bX 2 X.A)(hg:Gl X "Keeper")(ha:PA X [e] t)
  (he:starEach [e] X.env=(false,eval e X.env)::starEach [] X.env:=by rfl) (hpl:(backTo pos (starEach [] X.env)).any (·.1)=false:=by rfl):PE X (.Call (.Name "Keeper" p) [e] [] pos) (tz ck (xU ck) [] E0 t):=by
 obtain⟨fI,fd,M,G,hb⟩:=M;exact CS M G hr hg U.mK hb .nil c4 ha (by decide) he hpl
theorem dh.stands {s:dh}(h:s.word="standing"):∃ ps,s.plan=some ps/\s.brk=none/\s.dn≠ps.length:=by
 obtain⟨pl,dn,br⟩:=s
 cases pl with
 | none=>exact absurd (show ("none" : Str)="standing" from h) (by decide +kernel)
 | some ps =>
  cases br with
  | some b=>exact absurd (show ("broken" : Str)="standing" from h) (by decide +kernel)
  | none =>
   refine⟨ps,rfl,rfl,fun z=>?_⟩;have h:(if dn=ps.length then ("done" : Str) else "standing")="standing":=h;rw[Iu z]at h;exact absurd h (by decide +kernel)
theorem dh.stands_not {s:dh}(h:¬ s.word="standing"):s.rest=[]:=by
 obtain⟨pl,dn,br⟩:=s
 cases pl with
 | none=>rfl
 | some ps =>
  cases br with
  | some b=>rfl
  | none =>
   have h:¬ (if dn=ps.length then ("done" : Str) else "standing")="standing":=h
   by_cases z:dn=ps.length
   ·show ps.drop dn=[]
    rw[z,List.drop_length]
   ·rw[Ir z]at h;exact absurd rfl h
theorem dh.rest_of {s:dh}{ps:List (Int×Int)}(h1:s.plan=some ps)(h2:s.brk=none):s.rest=ps.drop s.dn:=by
 unfold dh.rest;rw[h1,h2]
theorem dh.due_of {s:dh}{ps:List (Int×Int)}(h1:s.plan=some ps)(h2:s.brk=none):s.due=ps[s.dn]?:=by
 unfold dh.due;rw[dh.rest_of h1 h2,List.head?_drop]
def yY (H:Hp)(o:Option (Int×Int))(v:V):Prop:=match o with | none=>v=.non | some p=>∃ b,v=.ref b/\H b=some (.tup [.int p.1,.int p.2])
theorem vh {H:Hp}{Q:VK}{o:Option (Int×Int)}(h:∀ v,yY H o v->Q v H):Fy H Q o:=by
 cases o with
 | none=>exact h _ rfl
 | some p=>exact fun b hb=>h _ ⟨b,rfl,hb⟩
def D3:Option (Int×Int)->Dt
 | none=>.at .non
 | some p=>si [.int p.1,.int p.2]
theorem yY.mono {H H':Hp}{o:Option (Int×Int)}{v:V}(h:yY H o v)(k:∀ b xs,H b=some (.tup xs)->H' b=some (.tup xs)):yY H' o v:=by
 cases o with
 | none=>exact h
 | some p=>obtain⟨b,e,hb⟩:=h;exact⟨b,e,k _ _ hb⟩
theorem mH (a b:Int):∀ x∈[V.int a,V.int b],jb x=true:=fun x hx=>by
 rcases IC.mp hx with z | z
 ·rw[z];rfl
 ·rw[IF.mp z];rfl
theorem D4 {K:PySem.W.Frag}{H:Hp}{o:Option (Int×Int)}{v:V}(h:yY H o v):RD K H 2 v (D3 o):=by
 cases o with
 | none=>rw[show v=.non from h];exact .inl ⟨rfl,rfl⟩
 | some p=>obtain⟨b,e,hb⟩:=h;rw[e];exact qU hb (mH _ _)
theorem v0 {p:Int×Int}{a b:Int}:si [.int p.1,.int p.2]=si [.int a,.int b]↔p=(a,b):=by
 rw[BK];constructor
 ·intro h
  injection h with h1 h2;injection h2 with h2 _;exact Prod.ext (V.int.inj h1) (V.int.inj h2)
 ·intro h;rw[h]
theorem Au {o:Option (Int×Int)}{a b:Int}:D3 o∈[si [.int a,.int b],si [.int b,.int a]]↔∃ p,o=some p/\qZ p a b=true:=by
 cases o with
 | none =>
  constructor
  ·intro h
   rcases IC.mp h with z | z
   ·cases z
   ·cases IF.mp z
  ·rintro⟨p,z,_⟩;cases z
 | some p =>
  have:D3 (some p)=si [.int p.1,.int p.2]:=rfl;rw[this,IC,IF,v0,v0];unfold qZ;constructor
  ·intro h;exact⟨p,rfl,ID h⟩
  ·rintro⟨q,e,h⟩;cases e;exact Jq h
theorem cJ.kept {C:Addr}{H H':Hp}{k:Addr}{A:KA}{s:dh}{fp:List Addr}(x:cJ C H k A s)(m:Kp fp H H')(kB:k∉fp)(pB:∀ ps,s.plan=some ps->A.pl∉fp)(ht:∀ b xs,H b=some (.tup xs)->b∉fp):cJ C H' k A s:=by
 refine⟨m _ _ x.ob kB,fun ps e=>?_,x.le⟩;obtain⟨as,h1,h2⟩:=x.pl ps e;exact⟨as,m _ _ h1 (pB ps e),Paired.mapP h2 fun b q z=>m _ _ z (ht _ _ z)⟩
theorem Cn {c:HX}{ck:Addr}{H:Hp}{k:Addr}{A:KA}{s:dh}{p:Addr}{B:HA}{st:bP}(x:cJ ck H k A s)(S:aF c.C H p B st):p≠k:=fun z=>by
 have e:=S.ob;rw[z,x.ob]at e;have e:=IA e;injection e with _ _ e;have q:(bB B).lookup ("hall" : Str)=none:=tY B (by decide +kernel);rw[<-e,show qi A s=rF _ _ _ _ from rfl,jH]at q;cases q
theorem qp {c:HX}{ck:Addr}{H H1 H4:Hp}{k:Addr}{A:KA}{s:dh}{B B1:HA}{st st':bP}(I:Af c ck H k A s B st)(S1:aF c.C H1 A.p B1 st')(k1:Kp B.fp H H1)(f1:∀ b∈B1.fp,b∈B.fp\/H b=none)(t1:Tr H H1)(s4:ay H1 H4)
  (s':dh) (hpl:s'.plan=s.plan) (hle:∀ ps,s'.plan=some ps->s'.dn<=ps.length):yZ c ck H k A B st' s' (upd H4 k (.ins ck A.dx (qi A s'))):=by
 have K1:cJ ck H1 k A s:=I.kp.kept k1 I.kB I.pB fun b xs e=>I.hall.tup e;have K4:=K1.mono s4
 have kB1:k∉B1.fp:=fun z=>by
  rcases f1 k z with y | y
  ·exact I.kB y
  ·rw[I.kp.ob]at y;cases y
 refine⟨B1,(S1.mono s4).kept (fp:=[k]) (fun b o e n=>by rw[af (fun z=>n (by rw[z];exact IF.mpr rfl))];exact e) (fun z=>Cn I.kp I.hall (IF.mp z)) (fun b hb z=>kB1 (by rw[<-IF.mp z];exact hb)) (fun b xs e z=>by rw[IF.mp z,K4.ob]at e;cases e),⟨ac,fun ps e=>?_,fun ps e=>⟨hle ps e,(I.kp.le ps (hpl▸e)).2⟩⟩,fun b o e n nk=>?_,f1,fun b o e=>?_⟩
 ·obtain⟨as,h1,h2⟩:=K4.pl ps (hpl▸e)
  refine⟨as,by rw[af (fun z=>by rw[z,K4.ob]at h1;cases h1)];exact h1,Paired.mapP h2 fun b q z=>by rw[af (fun y=>by rw[y,K4.ob]at z;cases z)];exact z⟩
 ·rw[af nk];exact s4 _ _ (k1 b o e n)
 ·by_cases z:b=k
  ·rw[z];exact⟨_,ac⟩
  ·rw[af z]
   obtain⟨o',e'⟩:=t1 b o e;exact⟨o',s4 _ _ e'⟩
theorem m4 {c:HX}{ck:Addr}{H H1 H4:Hp}{k:Addr}{A:KA}{s:dh}{B B1:HA}{st st':bP}(I:Af c ck H k A s B st)(S1:aF c.C H1 A.p B1 st')(k1:Kp B.fp H H1)(f1:∀ b∈B1.fp,b∈B.fp\/H b=none)(t1:Tr H H1)(s4:ay H1 H4):yZ c ck H k A B st' s H4:=by
 have K1:cJ ck H1 k A s:=I.kp.kept k1 I.kB I.pB fun b xs e=>I.hall.tup e;exact⟨B1,S1.mono s4,K1.mono s4,fun b o e n _=>s4 _ _ (k1 b o e n),f1,fun b o e=>by obtain⟨o',e'⟩:=t1 b o e;exact⟨o',s4 _ _ e'⟩⟩
theorem oB {α β:Type}{R:α->β->Prop}:∀ {as:List α}{bs:List β}{i:Nat}{b:β},Paired R as bs->bs[i]? = some b->∃ a,as[i]? = some a/\R a b
 | _,_,_,_,.nil,h=>by simp at h
 | a::as,c::bs,0,b,.cons r _,h=>by cases h;exact⟨a,rfl,r⟩
 | a::as,c::bs,i+1,b,.cons _ t,h=>oB (i:=i) t h
theorem wT {K:PySem.W.Frag}{te:TE}{Qf:Hp->Prop}{l q:Addr}{ps:List (Int×Int)}{f:Int×Int->Bool}{rest:St}{H:Hp}(hq:H q=none)(h1:oh H l ps)(hlen:ps.length<=1000)
  (ht:∀ (p:Int×Int)(b:Addr)(HK:Hp)(Q':VK),p∈ps->HK b=some (.tup [.int p.1,.int p.2])->ay H HK->(∀ H5,ay HK H5->Q' (.bl (f p)) H5)->te (some (.ref b)::rest) HK Q')
  (k:∀ (HK:Hp),ay H HK->HK q=some (.lst ((ps.map f).map V.bl))->Qf HK) :
  sy (Dd K l) (jc 0) (C9 wF te q) { nx:=fun _ H'=>Qf H',rt:=fun _ _=>False } (none::rest) (upd H q (.lst [])):=by
 obtain⟨as,hl,hp⟩:=h1;have al:=IU hp;refine cp (K:=K) (a:=l) (xs:=as.map V.ref) (fun i σ HK=>∃ v:Option V,σ=v::rest/\ay H HK/\HK q=some (.lst (((ps.take i).map f).map V.bl))) ⟨none,rfl,ak hq,ac⟩ (fun i σ HK _ ⟨_,_,s2,_⟩=>bx.of (s2 _ _ hl)) ?_ ?_
 ·rintro i y σ HK hi ⟨v,rfl,t1,hq2⟩
  obtain⟨b,hb,rfl⟩:=cf hi;obtain⟨p,hp0,hB⟩:=bY hp hb;have hil:i<ps.length:=(IG.mp hp0).1;refine iJ (ht p b HK _ (Jc hp0) (t1 _ _ hB) t1 fun H5 s5=>⟨_,s5 _ _ hq2,by rw[Iq,Iq,Jm];exact aQ (by omega),_,rfl,bz (t1.trans s5) hq,?_⟩);rw[ac,Jr,hp0,Js,IQ,IQ];rfl
 ·rintro σ HK ⟨v,rfl,t1,hq2⟩
  rw[Iq,al,Jp]at hq2;exact k HK t1 hq2
def AE (g:Int)(p:Int×Int):Bool:=Fd (.int g) [.int p.1,.int p.2]
def dh.nextD (s:dh)(d:aB)(m:Int):dh:=match d with | .come _=>s | .go g=>if s.rest.any (AE g)=true then { s with brk:=some m } else s | .exch a b=>s.next a b m
theorem dh.rest_len {s:dh}(h:∀ ps,s.plan=some ps->s.dn<=ps.length/\ps.length<=400):s.rest.length<=400:=by
 obtain⟨pl,dn,br⟩:=s
 cases pl with
 | none=>exact Jg _
 | some ps =>
  cases br with
  | some b=>exact Jg _
  | none=>have:=(h ps rfl).2;show (ps.drop dn).length<=400;rw[List.length_drop];omega
theorem dh.idle {s:dh}(h:s.rest=[]){d:aB}{m:Int}:s.nextD d m=s:=by
 cases d with
 | come g=>rfl
 | go g=>unfold dh.nextD;dsimp only;rw[h];rfl
 | exch a b=>show s.next a b m=s;unfold dh.next dh.due;rw[h];rfl
theorem Af.mono {c:HX}{ck:Addr}{H H':Hp}{k:Addr}{A:KA}{s:dh}{B:HA}{st:bP}(x:Af c ck H k A s B st)(m:ay H H'):Af c ck H' k A s B st:=⟨x.kp.mono m,x.hall.mono m,x.kB,x.pB⟩
def sr (c:HX)(ck:Addr)(H:Hp)(k:Addr)(A:KA)(s:dh)(B:HA)(st:bP)(d:aB)(Q:VK)(E:XK):Prop :=
 if aE st d=.done then ∀ H',yZ c ck H k A B (after st d) (s.nextD d (st.deeds.length+1)) H'->Q .non H' else gH c E H (aE st d)
inductive yM (c:HX) (ck cq:Addr) (vs:List V) (H:Hp) (Q:VK) (E:XK):Prop
 | mk (k:Addr) (A:KA) (s:dh) (B:HA) (st:bP) (_:vs=[.ref k]) (_:Af c ck H k A s B st) (_:pI st) (_:∀ p,s.due=some p->aJ p.1/\aJ p.2/\aE st (Hv p)=.done) (_:s.due=none->∀ H',ay H H'->E (.ref cq) none H') (_:∀ p,s.due=some p->∀ v H',yY H' (some p) v->yZ c ck H k A B (after st (Hv p)) (s.next p.1 p.2 (st.deeds.length+1)) H'->Q v H')
inductive yK (c:HX) (ck:Addr) (vs:List V) (H:Hp) (Q:VK) (E:XK):Prop
 | mk (k:Addr) (A:KA) (s:dh) (B:HA) (st:bP) (g:Int) (_:vs=[.ref k,.int g]) (_:Af c ck H k A s B st) (_:pI st) (_:aJ g) (_:sr c ck H k A s B st (.come g) Q E)
inductive Dx (c:HX) (ck:Addr) (vs:List V) (H:Hp) (Q:VK) (E:XK):Prop
 | mk (k:Addr) (A:KA) (s:dh) (B:HA) (st:bP) (g:Int) (_:vs=[.ref k,.int g]) (_:Af c ck H k A s B st) (_:pI st) (_:aJ g) (_:(∀ m,look st.worn g=some m->aJ m/\(m=g->(look st.hold g).isSome))) (_:sr c ck H k A s B st (.go g) Q E)
open PySem PySem.Spec
theorem z6:typeLookup (.type "str") "__int__" = pure none:=by rw[typeLookup_type,builtinLookup_eq_fast];kernel_rfl
theorem z5:typeLookup (.type "str") "__index__" = pure none:=by rw[typeLookup_type,builtinLookup_eq_fast];kernel_rfl
theorem wE:typeLookup (.type "str") "__trunc__" = pure none:=by rw[typeLookup_type,builtinLookup_eq_fast];kernel_rfl
theorem sJ {f:Array Nat×Bool->Nat->Option (Array Nat×Bool)}(hf:∀ p d,d<10->f p (d+48)=some (p.1.push d,true)):∀ (l:List Nat)(p:Array Nat×Bool),(∀ d∈l,d<10)->(l.map (·+48)).foldlM f p=some (p.1++l.toArray,if l=[] then p.2 else true)
 | [],p,_=>by simp
 | d::l,p,h=>by
  rw[IR,List.foldlM_cons,hf p d (h d IB)]
  show (l.map (·+48)).foldlM f (p.1.push d,true)=_
  rw[sJ hf l _ fun x hx=>h x (Iy _ hx)];simp
theorem mD {d:Nat}(h:d<10):d=0\/d=1\/d=2\/d=3\/d=4\/d=5\/d=6\/d=7\/d=8\/d=9:=by omega
theorem vg {p:Nat->Bool}(hp:∀ d,d<10->p (d+48)=false){q:List Nat}(h:∀ c∈q,∃ d,d<10/\c=d+48):q.dropWhile p=q:=by
 cases q with
 | nil=>rfl
 | cons c q =>
  obtain⟨d,hd,rfl⟩:=h c IB;rw[List.dropWhile_cons_of_neg];rw[hp d hd];exact Iz
theorem Ey {q:List Nat}{y:Option (Array Nat)}{l:List Nat}{f:Array Nat×Bool->Nat->Option (Array Nat×Bool)}{g:Array Nat×Bool->Option (Array Nat)}(h:y=(q.foldlM f (#[],false)).bind g)(hq:q=l.map (·+48))(hl:l≠[])(hd:∀ d∈l,d<10)
  (hf:∀ p d,d<10->f p (d+48)=some (p.1.push d,true)) (hg:∀ ds,g (ds,true)=some ds):y=some l.toArray:=by
 rw[h,hq,sJ hf l _ hd,Ir hl]
 show g (#[]++l.toArray,true)=_
 rw[hg];simp
theorem meets_int_new_str (x:Str)(t:Tok)(d:Nat)(l:List Nat)(hx:x.cps.toList=(d::l).map (·+48))(h0:d=0->l=[])(hd:∀ e∈d::l,e<10)(hl:(d::l).length<=640):Meets (Builtin.«int.__new__» ⟨[.type "int",.str x t],[]⟩) (Made.int ((d::l).foldl (fun a e=>a*10+e) 0:Nat)).spec :=
 Meets.of_wp fun prog w A R s hs=>by
  obtain⟨hp,g,dr,tk,os⟩:=s;have f1:=F.conv_sub_int;have f2:=F.madeHere_int;have f3:=z6;have f4:=z5;have f5:=wE;have hT:(⟨hp,g,dr,tk,os⟩:Shared).TypeIs (.str x t) "str":=rfl
  have g1:(x.cps.all fun x=>decide (x<128))=true:=by
   rw[<-Array.all_toList,hx,Ju];intro c hc;obtain⟨e,he,rfl⟩:=Jf.mp hc;have:=hd e he;exact ID (by omega)
  have g2:x.cps.toList.takeWhile (fun x=>x != 0)=x.cps.toList:=by
   have tw:∀ q:List Nat,(∀ c∈q,c≠0)->q.takeWhile (fun x=>x != 0)=q:=fun q=>by
    induction q with
    | nil=>intro _;rfl
    | cons c q ih=>intro h;rw[List.takeWhile_cons_of_pos (by simpa using h c IB),ih fun c hc=>h c (Iy _ hc)]
   refine tw _ fun c hc=>?_;rw[hx]at hc;obtain⟨e,he,rfl⟩:=Jf.mp hc;omega
  have g3:x.cps.toList.length<=640:=by rw[hx,Iq];exact hl
  repeat (any_goals (first | assumption | wp_step))
  rw[g1];simp only[if_true,g2,g3];refine Iv (IP ?_)
  have hq:∀ c∈(d::l).map (·+48),∃ e,e<10/\c=e+48:=fun c hc=>by
   obtain⟨e,he,rfl⟩:=Jf.mp hc;exact⟨e,hd e he,rfl⟩
  have hq2:∀ c∈((d::l).map (·+48)).reverse,∃ e,e<10/\c=e+48:=fun c hc=>hq c (List.mem_reverse.mp hc)
  have sz:l.length<=639:=by have:l.length+1<=640:=hl;omega
  rw[hx];rcases mD (hd d IB) with rfl | z
  ·have e0:=h0 rfl
   subst e0
   conv=>arg 3;arg 2;whnf
   show wpAny _ _ (if _ then _ else _) _ _ _
   rw[Iu (by simp)]
   repeat (any_goals (first | assumption | wp_step))
   exact⟨_,rfl,hs⟩
  ·rcases z with rfl | rfl | rfl | rfl | rfl | rfl | rfl | rfl | rfl
   all_goals
    conv=>arg 3;arg 2;whnf
    rw[vg (by decide) hq,vg (by decide) hq2,List.reverse_reverse]
    conv =>
     arg 3;arg 2;arg 2
     tactic=>exact Ey rfl rfl (List.cons_ne_nil _ _) hd (by rintro⟨ds,b⟩ d h;rcases mD h with rfl | rfl | rfl | rfl | rfl | rfl | rfl | rfl | rfl | rfl<;>rfl) fun _=>rfl
    dsimp only;rw[Ir (by simp),Ir (by simp;omega),Ir (by simp)]
    show wpAny _ _ (if _ then _ else _) _ _ _
    rw[Iu (by simp)]
    repeat (any_goals (first | assumption | wp_step))
    refine⟨_,rfl,?_⟩;rw[Ir Iz,List.foldl_toArray];exact hs
structure Num (x:Str)(ds:List Nat):Prop where
 eq:x.cps.toList=ds.map (·+48)
 ne:ds≠[]
 nz:ds.head? = some 0->ds=[0]
 dg:∀ e∈ds,e<10
 ln:ds.length<=12
def numV (ds:List Nat):Nat:=ds.foldl (fun a e=>a*10+e) 0
end Wz
namespace L2
open PySem PySem.Spec PyProof.Rows
theorem zg {X:Cx}:gR X (.type "int") (fun xs H Q=>∃ x ds,xs=[.str x]/\Wz.Num x ds/\Q (.int (Wz.numV ds)) H):=by
 intro pins s σ H xs us Q I r h;obtain⟨x,ds,rfl,N,q⟩:=h;obtain⟨u,rfl,rx⟩:=hZ r;obtain⟨t,rfl⟩:=rx
 cases ds with
 | nil=>exact absurd rfl N.ne
 | cons d l =>
  have ln:l.length+1<=12:=N.ln
  exact call_int_1 (Wz.meets_int_new_str x t d l N.eq (fun z=>by
   have:=N.nz (by rw[z];rfl)
   exact (List.cons.inj this).2) N.dg (by show l.length+1<=640;omega)) ⟨rfl,.int _,H,I.tok _,⟨_,rfl⟩,q⟩
def x3 (x:Str):Prop:=x.cps.all (· < 128)=true
def Fa (x:Str):It :=
 ⟨fun i _=>i<x.cps.toList.length,fun i H v H'=>H'=H/\∃ c,x.cps.toList[i]? = some c/\v=.str ⟨#[c]⟩,fun i _=>x.cps.toList.length<=i⟩
theorem BL {P:Program}{w:World}{K:PySem.W.Frag}{tg:Expr}(x:Str)(t:Tok)(it:Addr):y9 P w K tg (Fa x) [it] it (fun i h=>h.IsStrIter it "str_ascii_iterator" x t i) where
 mem:=by simp
 obj:=fun i h st b hb=>by
  have e:b=it:=by simpa using hb
  subst e;obtain⟨o,e,c,d⟩:=st;exact⟨o,e,fun v z=>by rw[d]at z;cases z⟩
 keep:=fun i h h' ⟨o,e,r⟩ k=>⟨o,k it (by simp) o e,r⟩
 item:=by
  intro X hP hw hK hc i pins s σ H E I hf st hg;subst hP hw hK;have hg:i<x.cps.toList.length:=hg;obtain⟨f0,f1,f2,f3,f4,f5⟩:=hf it (by simp)
  have hx:x.cps[i]? = some x.cps.toList[i]:=by simp
  refine wpAny_pyNext_ascii_item st hx fun h' st' sb=>?_;have I1:aA X pins σ H { s with heap:=h',toks:=s.toks+1 }:=I.turned (t':=s.toks+1) (fun b o hb e=>(sb.2 b hb).trans e) f0 f1 f3 f4 f5;obtain⟨o,e,c,d⟩:=id st';exact⟨_,rfl,yi (s:={ s with heap:=h',toks:=s.toks+1 }) e c d (by decide) ⟨.str ⟨#[x.cps.toList[i]]⟩,H,I1,⟨_,rfl⟩,⟨rfl,_,IM hg,rfl⟩,st',fun b hb=>(hf b hb).1⟩⟩
 done:=by
  intro X hP hw hK hc i pins s σ H E I hf st hg;subst hP hw hK;have hg:x.cps.toList.length<=i:=hg;obtain⟨f0,f1,f2,f3,f4,f5⟩:=hf it (by simp);refine wpAny_pyNext_ascii_end (I.ok.hd hc) st (by rw[Array.getElem?_eq_none];simpa using hg) fun h' eb=>⟨rfl,I.turned (t':=s.toks) (fun b o hb e=>eb b o hb e) f0 f1 f3 f4 f5⟩
 self:=fun _ _ _ _ _ st h=>wpAny_pyIter_striter_ascii st h
def GM (t:TE):TI:=fun σ H R=>t σ H fun v H1=>∃ x,v=.str x/\x3 x/\R (Fa x) H1
theorem EQ {X:Cx}{tg l:Expr}{tl:TE}(hl:PE X l tl):PI X tg l (GM tl):=by
 intro pins s σ H R I h;refine bq (hl pins s σ H _ I h) fun v s1 ⟨y,H1,I1,r1,x,e,ha,q⟩=>?_;subst e;obtain⟨t,rfl⟩:=r1;refine wpAny_pyIter_ascii ha ?_;refine⟨s1.heap.objs.size,[s1.heap.objs.size],_,_,H1,rfl,I1.kept (t':=s1.toks) fun b o e=>Iw _ e,BL x t _,⟨_,IV _ rfl,rfl,rfl⟩,fun b hb=>?_,q⟩
 have e:b=s1.heap.objs.size:=by simpa using hb
 subst e;exact I1.fpOk (Ix _) (I1.hok.fresh (Ix _))
theorem Ce {x:Str}{g:TG}{tb:TS}{D:kE}{σ:St}{H:Hp}(Pv:Nat->St->Hp->Prop)(h0:Pv 0 σ H)
  (hs:∀ i c σ H,x.cps.toList[i]? = some c->Pv i σ H->g (.str ⟨#[c]⟩) σ H fun σ2 H2=>tb { D with nx:=Pv (i+1),ct:=Pv (i+1),bk:=D.nx } σ2 H2) (hd:∀ σ H,Pv x.cps.toList.length σ H->D.nx σ H) :
  ∃ W:Nat->Nat->St->Hp->Prop,(∃ m,W 0 m σ H)/\∀ i m σ H,W i m σ H ->
   ((Fa x).stop i H/\D.nx σ H)\/((Fa x).go i H/\∃ N:St->Hp->Prop,(∀ σ' H',N σ' H'->∃ m',m'<m/\W (i+1) m' σ' H')/\∀ v H',(Fa x).yld i H v H'->g v σ H' fun σ2 H2=>tb { D with nx:=N,ct:=N,bk:=D.nx } σ2 H2):=by
 generalize hl:x.cps.toList.length=n at hd;refine⟨fun i m σ H=>m=n-i/\i<=n/\Pv i σ H,⟨n,by simp,Jg _,h0⟩,?_⟩;rintro i m σ H ⟨rfl,hi,p⟩
 by_cases hlt:i<n
 ·refine .inr ⟨show i<x.cps.toList.length by omega,Pv (i+1),fun σ' H' p'=>⟨n-(i+1),by omega,rfl,hlt,p'⟩,fun v H' y=>?_⟩
  obtain⟨e,c,hc,e2⟩:=y;subst e e2;exact hs i c σ _ hc p
 ·have e:i=n:=by omega
  subst e;exact .inl ⟨show x.cps.toList.length<=i by omega,hd σ H p⟩
theorem mi:∀ l:List (Str×Tok),aU ((l.map (·.1)).map V.str) (strValues l)
 | []=>.nil
 | p::l=>.cons ⟨p.2,rfl⟩ (mi l)
def Bo:V->List V->Hp->VK->Prop:=fun x xs H Q=>∃ z y,x=.str z/\xs=[.str y]/\(y.length == 0)=false/\z.length<=1000000/\∀ l,H l=none->Q (.ref l) (upd H l (.lst ((Txt.split z y).map V.str)))
theorem AV {X:Cx}:Gd X "str.split" Bo:=by
 intro pins s σ H x xs v us Q I rx rv h;obtain⟨z,y,rfl,rfl,hy,hz,q⟩:=h;obtain⟨t,rfl⟩:=rx;obtain⟨u,rfl,ru⟩:=hZ rv;obtain⟨t2,rfl⟩:=ru;have sl:sizeLine=16777216:=JQ
 have fin:∀ (l:List (Str×Tok))(k:Nat),l.length<=sizeLine->l.map (·.1)=Txt.split z y->EP X pins σ Q (.ref s.heap.objs.size) { s with toks:=k,heap:=s.heap.push { cls:=.type "list",data:=.seq (strValues l).toArray } }:=fun l k hl e=>by
  have IL:=I.laid (t':=k) (a:=s.heap.objs.size) (o:=.lst ((Txt.split z y).map V.str)) (h':=s.heap.push { cls:=.type "list",data:=.seq (strValues l).toArray }) (fun b o e=>Iw _ e) (Ix _)
   (show bu X.prog X.w _ _ _ (.lst _) from ⟨by rw[<-e,Iq,Iq];exact hl,strValues l,_,by rw[<-e];exact mi l,IV _ rfl⟩)
  exact⟨.ref s.heap.objs.size,_,IL,rfl,q _ (I.hok.fresh (Ix _))⟩
 have nl:∀ k ps,(numbered k ps).length=ps.length:=fun k ps=>by rw[<-Iq (f:=(·.1)),numbered_texts]
 have pl:(Builtin.Str.partsBetween z (Builtin.Str.occurrences z y 0 z.length (z.length+1)) y.length).length<=sizeLine:=by
  rw[length_partsBetween];have:=StrLaws.occ_length_le z y 0 z.length (z.length+1);omega
 cases h1:(decide (z.length<y.length)||decide (Builtin.Str.strKind z<Builtin.Str.strKind y)) with
 | true=>exact call_meets F.slot_str_split (typeIs_str _ _ _) F.entry_str_split (F.args_str_split_2 _ _) (meets_str_split_cannot_occur z y t t2 h1) (fin [(z,t)] s.toks (by show 1<=sizeLine;decide) (Iu h1).symm)
 | false =>
  cases hf:(Builtin.Str.occurrences z y 0 z.length (z.length+1)).isEmpty with
  | true=>exact call_meets F.slot_str_split (typeIs_str _ _ _) F.entry_str_split (F.args_str_split_2 _ _) (meets_str_split_not_found z y t t2 h1 hy hf) (fin [(z,t)] s.toks (by show 1<=sizeLine;decide) ((Ir (ne_true_of_eq_false h1)).trans (Iu hf)).symm)
  | false =>
   refine call_meets F.slot_str_split (typeIs_str _ _ _) F.entry_str_split (F.args_str_split_2 _ _) (meets_str_split_sep z y t t2 h1 hy hf (by omega) pl) ?_;rw[strsFrom_eq];exact fin (numbered s.toks _) _ (by rw[nl];exact pl) ((numbered_texts _ _).trans ((Ir (ne_true_of_eq_false h1)).trans (Ir (ne_true_of_eq_false hf))).symm)
theorem Bb {X:Cx}{o e:Expr}{to te:TE}{apos cpos:Pos}(ho:PE X o to)(he:PE X e te)(hbase:attributeBase o "split" X.env (eval o X.env)=eval o X.env:=by rfl)
  (hfew:((backTo cpos (starEach [e] X.env)).all (fun x=>!x.1)&&(backToKw cpos (keywordEach [] X.env)).all (fun x=>x.1.isSome)&&decide ([e].length+([]:List Keyword).length+(if ([]:List Keyword).isEmpty then 0 else 1)<30))=true:=by rfl)
  (hline:(apos.endLine == cpos.line)=true:=by rfl) (hs:starEach [e] X.env=(false,eval e X.env)::starEach [] X.env:=by rfl) (hplain:(backTo cpos (starEach [] X.env)).any (·.1)=false:=by rfl) :
  PE X (.Call (.Attribute o "split" apos) [e] [] cpos) (F2 X.K "str" Bo to (gB te iP)) :=
 eR PySem.F.plainAttrs_str PySem.F.slot_str_split PySem.F.type_str_split AV ho (ar he aD hs) hbase hfew hline hs hplain
end L2
namespace Wz
open PySem L2
def iA (c:Nat):List Nat->List (List Nat)
 | []=>[[]]
 | a::l=>if a=c then []::iA c l else match iA c l with | []=>[[a]] | p::ps=>(a::p)::ps
def d9 (c:Nat):List Nat->List Nat
 | []=>[]
 | a::l=>(if a=c then [0] else [])++(d9 c l).map (·+1)
theorem hU (c a:Nat)(l:List Nat):d9 c (a::l)=(if a=c then [0] else [])++(d9 c l).map (·+1):=rfl
theorem bE (c a:Nat)(l:List Nat):iA c (a::l)=if a=c then []::iA c l else match iA c l with | []=>[[a]] | p::ps=>(a::p)::ps:=rfl
theorem kQ (c:Nat):∀ (l:List Nat)(k m:Nat),m=l.length+1->(List.range' k m).filter (fun i=>decide (l[i-k]? = some c))=(d9 c l).map (·+k)
 | [],k,m,h=>by
  subst h;simp[d9]
 | a::l,k,m,h=>by
  subst h;have ih:=kQ c l (k+1) (l.length+1) rfl;rw[show (a::l).length+1=(l.length+1)+1 from rfl,List.range'_succ,JM]
  have e1:(a::l)[k-k]? = some a:=by simp
  have e2:(List.range' (k+1) (l.length+1)).filter (fun i=>decide ((a::l)[i-k]? = some c))=(List.range' (k+1) (l.length+1)).filter (fun i=>decide (l[i-(k+1)]? = some c)):=List.filter_congr fun i hi=>by
   have:=(List.mem_range'_1.mp hi).1;rw[show i-k=(i-(k+1))+1 by omega];rfl
  rw[e1,e2,ih,hU]
  by_cases z:a=c
  ·rw[Iu (by rw[z];exact ID rfl),Iu z]
   simp[Function.comp_def,Nat.add_assoc,Nat.add_comm 1 k]
  ·rw[Ir (by simpa using z),Ir z]
   simp[Function.comp_def,Nat.add_assoc,Nat.add_comm 1 k]
theorem qD (x:Str)(c:Nat):∀ (m k:Nat)(arr:Array Nat)(free:Nat),k+m=x.length+1->free<=k->arr.size<=k ->
  (forIn (List.range' k m) (arr,free) (StrLaws.occBody x ⟨#[c]⟩ x.length (x.length+1))).run.fst.toList=arr.toList++(List.range' k m).filter (fun i=>decide (x.cps.toList[i]? = some c))
 | 0,k,arr,free,_,_,_=>by simp
 | m+1,k,arr,free,h,hf,ha=>by
  rw[List.range'_succ,List.forIn_cons,JM];have so:=StrLaws.subAt_one x c k;unfold StrLaws.occBody
  by_cases z:x.cps.toList[k]? = some c
  ·have s2:=so.mpr z
   rw[Iu ⟨⟨⟨by show arr.size<x.length+1;omega,hf⟩,s2.1⟩,s2.2⟩,Iu (ID z)];have ih:=qD x c m (k+1) (arr.push k) (k+(⟨#[c]⟩:Str).length) (by omega) (Ix _) (by rw[Array.size_push];omega);refine Eq.trans ih ?_;simp
  ·rw[Ir (fun q=>z (so.mp ⟨q.1.2,q.2⟩)),Ir (by rw[IE z];exact Iz)]
   exact qD x c m (k+1) arr free (by omega) (by omega) (by omega)
theorem CH (x:Str)(c:Nat):Builtin.Str.occurrences x ⟨#[c]⟩ 0 x.length (x.length+1)=d9 c x.cps.toList:=by
 rw[StrLaws.occ_eq,qD x c _ 0 #[] 0 (by omega) (Ix _) (Ix _)];have:=kQ c x.cps.toList 0 (x.length+1-0) (by show x.length+1=_;rw[Jj];rfl);simpa using this
def jY (l:List Nat)(p:Nat×Nat):List Nat:=(l.drop p.1).take (p.2-p.1)
def sI (l:List Nat)(cs:List Nat):List (List Nat):=((0::cs.map (·+1)).zip (cs++[l.length])).map (jY l)
theorem BH (a:Nat)(l:List Nat)(p:Nat×Nat):jY (a::l) (p.1+1,p.2+1)=jY l p:=by
 unfold jY;rw[List.drop_succ_cons,Nat.add_sub_add_right]
theorem rE (a:Nat)(l:List Nat):∀ (us vs:List Nat),((us.map (·+1)).zip (vs.map (·+1))).map (jY (a::l))=(us.zip vs).map (jY l)
 | [],_=>by simp
 | _::_,[]=>by simp
 | u::us,v::vs=>by
  rw[IR,IR,JP,IR,JP,IR,rE a l us vs];rw[show jY (a::l) (u+1,v+1)=jY l (u,v) from BH a l (u,v)]
theorem pS (c:Nat):∀ l:List Nat,sI l (d9 c l)=iA c l
 | []=>rfl
 | a::l=>by
  have ih:=pS c l;unfold sI;rw[hU]
  by_cases z:a=c
  ·rw[Iu z]
   have e1:((0:Nat)::(([0]++(d9 c l).map (·+1)).map (·+1)))=0::((0::(d9 c l).map (·+1)).map (·+1)):=by simp
   have e2:([0]++(d9 c l).map (·+1))++[(a::l).length]=0::((d9 c l++[l.length]).map (·+1)):=by simp
   rw[e1,e2,JP,IR,rE,show (((0::(d9 c l).map (·+1)).zip (d9 c l++[l.length])).map (jY l))=iA c l from ih,bE,Iu z];rfl
  ·rw[Ir z,bE,Ir z,<-ih]
   unfold sI
   cases hp:d9 c l with
   | nil=>simp[jY]
   | cons q qs =>
    have e1:((0:Nat)::(([]++(q::qs).map (·+1)).map (·+1)))=0::(((q::qs).map (·+1)).map (·+1)):=by simp
    have e2:([]++(q::qs).map (·+1))++[(a::l).length]=(q+1)::((qs++[l.length]).map (·+1)):=by simp
    rw[e1,e2,JP,IR,rE]
    show _=(a::jY l (0,q))::_
    rw[show jY (a::l) (0,q+1)=a::jY l (0,q) by simp[jY]];rfl
theorem A7 (x:Str)(cs:List Nat):(Builtin.Str.partsBetween x cs 1).map (·.cps.toList)=sI x.cps.toList cs:=by
 unfold Builtin.Str.partsBetween sI;rw[Jo,Jj];refine JA fun p _=>?_;obtain⟨i,j⟩:=p
 show (Builtin.Str.strSub x i j).cps.toList=_
 unfold Builtin.Str.strSub jY;simp
theorem z1 (x:Str){c:Nat}(hc:c<256):(Txt.split x ⟨#[c]⟩).map (·.cps.toList)=iA c x.cps.toList:=by
 have e0:∀ y:Str,(decide (x.length<y.length)||decide (Builtin.Str.strKind x<Builtin.Str.strKind y))=true->y=⟨#[c]⟩->x.cps.toList=[]:=fun y h e=>by
  subst e
  have k1:Builtin.Str.strKind ⟨#[c]⟩=1:=by unfold Builtin.Str.strKind;rw[Iu (by simpa using hc)]
  have k2:1<=Builtin.Str.strKind x:=by
   unfold Builtin.Str.strKind;split
   ·decide
   ·split<;>decide
  rw[k1]at h
  have:x.length<1:=by
   rw[Bool.or_eq_true]at h;rcases h with z | z
   ·exact Jq z
   ·have:=Jq z;omega
  have:x.cps.size=0:=by have t:x.cps.size<1:=this;omega
  simpa using this
 unfold Txt.split
 by_cases h1:(decide (x.length<(⟨#[c]⟩:Str).length)||decide (Builtin.Str.strKind x<Builtin.Str.strKind ⟨#[c]⟩))=true
 ·rw[Iu h1]
  have:=e0 _ h1 rfl
  show [x.cps.toList]=_
  rw[this];rfl
 ·rw[Ir h1,CH]
  by_cases h2:(d9 c x.cps.toList).isEmpty=true
  ·rw[Iu h2,<-pS,List.isEmpty_iff.mp h2]
   simp only[sI,jY,List.map_nil,List.nil_append,JP,List.zip_nil_left,IR,List.drop_zero,Nat.sub_zero];rw[JK (Ix _)]
  ·rw[Ir h2]
   exact (A7 x _).trans (pS c _)
theorem uO {c:Nat}:∀ {p:List Nat},c∉p->iA c p=[p]
 | [],_=>rfl
 | a::p,h=>by
  rw[bE,Ir (fun z=>h (by rw[z];exact IB)),uO fun z=>h (Iy _ z)]
theorem yR {c:Nat}:∀ {p:List Nat}(r:List Nat),c∉p->iA c (p++c::r)=p::iA c r
 | [],r,_=>by show iA c (c::r)=_;rw[bE,Iu rfl]
 | a::p,r,h=>by
  show iA c (a::(p++c::r))=_
  rw[bE,Ir (fun z=>h (by rw[z];exact IB)),yR r fun z=>h (Iy _ z)]
end Wz
namespace L2
open PySem PySem.Spec PyProof.Rows
def Ee (p:Params)(q:(Str×Int)×Tok×Tok):DictEntry:=⟨PyData.keyHash p q.1.1,.str q.1.1 q.2.1,.int q.1.2 q.2.2⟩
def gObj (p:Params)(xs:List (Str×Int))(ts:List (Tok×Tok))(n:Nat):Obj:={ cls:=.type "dict",data:=.dict ((xs.zip ts).map (Ee p)).toArray n }
structure GD (K:PySem.W.Frag)(p:Params)(a:Addr)(xs:List (Str×Int)):Prop where
 nd:(xs.map (·.1)).Nodup
 ns:(a == sysModules)=false
 at':∃ ts n,ts.length=xs.length/\K.lookup a=some (gObj p xs ts n)
def jd (xs:List (Str×Int))(z:Str):V:=match xs.lookup z with | some i=>.int i | none=>.non
def Fc (q:(Str×Int)×Tok×Tok):ca×Value:=(.inr q.1.1,.int q.1.2 q.2.2)
theorem vn (P:Program)(w:World):∀ l:List ((Str×Int)×Tok×Tok),Pairs (bt P w) (l.map (Ee w.params)) (l.map Fc)
 | []=>.nil
 | q::l=>.cons (gv P w q.1.1 q.2.1) rfl (vn P w l)
theorem yh:∀ (xs:List (Str×Int))(ts:List (Tok×Tok)),ts.length=xs.length->((xs.zip ts).map Fc).map (·.1)=(xs.map (·.1)).map Sum.inr
 | [],_,_=>rfl
 | x::xs,[],h=>by cases h
 | x::xs,t::ts,h=>by
  rw[JP,IR,IR,yh xs ts (by simpa using h)];rfl
theorem AC:∀ (xs:List (Str×Int))(ts:List (Tok×Tok))(z:Str),ts.length=xs.length->aP (jd xs z) ((valueAt ((xs.zip ts).map Fc) (Sum.inr z)).getD .none)
 | [],_,_,_=>rfl
 | x::xs,[],_,h=>by cases h
 | x::xs,t::ts,z,h=>by
  have ih:=AC xs ts z (by simpa using h);unfold jd valueAt at *;rw[JP,IR,Jt,JZ]
  show aP (match (match z == x.1 with | true=>some x.2 | false=>xs.lookup z) with | some i=>V.int i | none=>V.non) _
  by_cases e:z=x.1
  ·have e1:(z == x.1)=true:=by rw[e];simp
   have e2:decide ((Fc (x,t)).1=Sum.inr z)=true:=ID (by rw[e];rfl);rw[e1,e2];exact⟨t.2,rfl⟩
  ·have e1:(z == x.1)=false:=by simpa using e
   have e2:decide ((Fc (x,t)).1=Sum.inr z)=false:=IE (fun q=>e (Sum.inr.inj q).symm);rw[e1,e2];exact ih
theorem yg {K:PySem.W.Frag}{P:Program}{w:World}{a:Addr}{xs:List (Str×Int)}{h:Heap}(g:GD K w.params a xs)(k:K.In h):∃ ts:List (Tok×Tok),ts.length=xs.length/\h.DictOf (bt P w) a ((xs.zip ts).map Fc):=by
 obtain⟨ts,n,hl,e⟩:=g.at';refine⟨ts,hl,_,_,_,k _ _ e,⟨rfl,rfl,rfl⟩,rfl,fun en hen=>?_,?_,?_⟩
 ·have hen:en∈(xs.zip ts).map (Ee w.params):=by simpa using hen
  obtain⟨q,_,rfl⟩:=Jf.mp hen;exact⟨.inr q.1.1,gv P w q.1.1 q.2.1,rfl⟩
 ·have:=vn P w (xs.zip ts)
  simpa using this
 ·rw[yh xs ts hl]
  exact List.Pairwise.map _ (fun x y ne e=>ne (Sum.inr.inj e)) g.nd
def F5 (xs:List (Str×Int))(ty:TE):TE:=fun σ H Q=>ty σ H fun y H1=>∃ z,y=.str z/\Q (jd xs z) H1
theorem CP {X:Cx}{x:Str}{a:Addr}{xs:List (Str×Int)}{e:Expr}{p apos cpos:Pos}{ty:TE}(g:GD X.K X.w.params a xs)(hg:Gl X x)(hm:X.mg x=some (.ref a))(he:PE X e ty)(m:M1 X (.Name x p) "get" apos e cpos)
  (hd:(x == ("__debug__" : Str))=false:=by decide):PE X (.Call (.Attribute (.Name x p) "get" apos) [e] [] cpos) (F5 xs ty):=by
 intro pins s σ H Q I h;refine wpAny_Call_method m.base m.few m.line PySem.F.plainAttrs_dict J0 PySem.F.type_dict_get (fj I hg hm ?_ hd);have kin:∀ {s1:Shared}{H1:Hp},aA X pins σ H1 s1->X.K.In s1.heap:=fun I1 a o e=>I1.bk a o (I1.mod.kin a o e);obtain⟨ts,hl,dd⟩:=yg (P:=X.prog) g (kin I);refine⟨dd.typeIs,fun b q=>?_,?_⟩
 ·cases q
  obtain⟨ob,_,_,h1,h2,_⟩:=dd;exact⟨ob,h1,h2.2.1⟩
 rw[m.trees];refine JV rfl (JF (Jz (bq (he pins s σ H _ I h) fun iv s2 ⟨y,H2,I2,ry,z,e1,q2⟩=>JR ?_)));subst e1;obtain⟨t,rfl⟩:=ry;obtain⟨ts2,hl2,dd2⟩:=yg (P:=X.prog) g (kin I2);exact call_meetsIn J0 dd2.typeIs PySem.F.entry_dict_get (PySem.F.args_dict_get_2 _ _) (meets_dict_get (bt X.prog X.w) a (gv X.prog X.w z t) g.ns) ⟨_,dd2.mapOf,_,H2,I2.tok _,AC xs ts2 z hl2,q2⟩
end L2
namespace Wz
open PySem L2
theorem AX (ds:List Nat)(e:Nat):numV (ds++[e])=numV ds*10+e:=by unfold numV;rw[List.foldl_append];rfl
theorem GJ (n:Nat):∃ ds:List Nat,(Nat.toDigits 10 n).map Char.toNat=ds.map (·+48)/\ds≠[]/\(ds.head? = some 0->n=0)/\(∀ e∈ds,e<10)/\numV ds=n/\(n=0->ds=[0])/\∀ k,1<=k->n<10 ^ k->ds.length<=k:=by
 induction n using Nat.strongRecOn with
 | _ n ih =>
  have dc:∀ d,d<10->(Nat.digitChar d).toNat=d+48:=fun d h=>by
   rcases mD h with rfl | rfl | rfl | rfl | rfl | rfl | rfl | rfl | rfl | rfl<;>rfl
  by_cases h:n<10
  ·rw[Nat.toDigits_of_lt_base h]
   refine⟨[n],by show [(Nat.digitChar n).toNat]=[n+48];rw[dc n h],by simp,fun z=>by simpa using z,fun e he=>by rw[IF.mp he];exact h,by show 0*10+n=n;omega,fun z=>by rw[z],fun k hk _=>by simpa using hk⟩
  ·rw[Nat.toDigits_of_base_le (by decide) (by omega)]
   obtain⟨ds,h1,h2,h3,h4,h5,_,h6⟩:=ih (n/10) (by omega);refine⟨ds++[n%10],?_,by simp,fun z=>?_,fun e he=>?_,?_,fun z=>by omega,fun k hk hn=>?_⟩
   ·rw[IQ,h1,IQ]
    show _++[(Nat.digitChar (n%10)).toNat]=_++[n%10+48]
    rw[dc _ (by omega)]
   ·cases ds with
    | nil=>exact absurd rfl h2
    | cons d ds=>have:=h3 z;omega
   ·rcases IN.mp he with y | y
    ·exact h4 e y
    ·rw[IF.mp y];omega
   ·rw[AX,h5];omega
   ·rw[IK,JY]
    cases k with
    | zero=>omega
    | succ k =>
     by_cases k0:k=0
     ·subst k0;omega
     ·have:=h6 k (by omega) (by rw[Nat.pow_succ]at hn;omega)
      omega
theorem CG {g:Int}(h0:0<=g)(h:g<10 ^ 12):∃ ds,Num (bS g) ds/\(numV ds:Int)=g:=by
 obtain⟨n,rfl⟩:=Int.eq_ofNat_of_zero_le h0;obtain⟨ds,h1,h2,h3,h4,h5,h7,h6⟩:=GJ n;refine⟨ds,⟨?_,h2,fun z=>?_,h4,h6 12 (by decide) (by omega)⟩,by rw[h5]⟩
 ·unfold bS
  rw[show toString (n:Int)=String.ofList (Nat.toDigits 10 n) from rfl,Str.ofString_eq_toList]
  show ((String.ofList (Nat.toDigits 10 n)).toList.map Char.toNat)=_
  rw[String.toList_ofList,h1]
 ·have hn:=h3 z
  exact h7 hn
theorem AY {z:Str}{ds es:List Nat}(a:Num z ds)(b:Num z es):ds=es:=by
 have:=a.eq.symm.trans b.eq;exact (List.map_inj_right (fun x y e=>by omega)).mp this
end Wz
namespace L2
open PySem PySem.Spec PyProof.Rows
theorem we {X:Cx}{x:Str}{v:V}{pos:Pos}(hg:Gl X x)(hm:∃ u,X.mg x=some u/\aP v u)(hd:(x == ("__debug__" : Str))=false:=by decide):PE X (.Name x pos) (tC v):=by
 obtain⟨u,hm,r⟩:=hm;exact CQ hg hm r hd
end L2
namespace Wz
open PySem L2
inductive F0 (vs:List V) (H:Hp) (Q:VK) (E:XK):Prop
 | mk (z:Str) (_:vs=[.str z]) (_:x3 z) (_:z.length<=100000) (_:∀ ds H',Num z ds->ay H H'->Q (.int (numV ds)) H') (_:(∀ ds,¬ Num z ds)->∀ H',ay H H'->Q .non H')
theorem z4 {te:TE}{Qf:Hp->Prop}{x:Str}{q:Addr}{f:Nat->Bool}{rest:L2.St}{H:Hp}(hq:H q=none)(hlen:x.cps.toList.length<=1000)
  (ht:∀ (c:Nat)(HK:Hp)(Q':VK),ay H HK->(∀ H5,ay HK H5->Q' (.bl (f c)) H5)->te (some (.str ⟨#[c]⟩)::rest) HK Q') (k:∀ (HK:Hp),ay H HK->HK q=some (.lst ((x.cps.toList.map f).map V.bl))->Qf HK) :
  sy (Fa x) (jc 0) (C9 wF te q) { nx:=fun _ H'=>Qf H',rt:=fun _ _=>False } (none::rest) (upd H q (.lst [])):=by
 refine Ce (fun i σ HK=>∃ v:Option V,σ=v::rest/\ay H HK/\HK q=some (.lst (((x.cps.toList.take i).map f).map V.bl))) ⟨none,rfl,ak hq,ac⟩ ?_ ?_
 ·rintro i c σ HK hi ⟨v,rfl,t1,hq2⟩
  have hil:i<x.cps.toList.length:=(IG.mp hi).1;refine iJ (ht c HK _ t1 fun H5 s5=>⟨_,s5 _ _ hq2,by rw[Iq,Iq,Jm];exact aQ (by omega),_,rfl,bz (t1.trans s5) hq,?_⟩);rw[ac,Jr,hi,Js,IQ,IQ];rfl
 ·rintro σ HK ⟨v,rfl,t1,hq2⟩
  rw[Jp]at hq2;exact k HK t1 hq2
def lH (c:Nat):Bool:=decide (48<=c/\c<58)
theorem DZ (c:Nat):(!(Builtin.Str.occurrences (Str.ofString "0123456789") ⟨#[c]⟩ 0 (Str.ofString "0123456789").length 1).isEmpty)=lH c:=by
 rw[StrLaws.found_one]
 have e:(Str.ofString "0123456789").cps.toList=[48,49,50,51,52,53,54,55,56,57]:=by decide +kernel
 rw[e];unfold lH;rw[decide_eq_decide];simp only[IC,J8,or_false];omega
theorem jK (z:Str):(∃ ds,Num z ds)↔1<=z.length/\z.length<=12/\(∀ c∈z.cps.toList,lH c=true)/\¬ (z.cps.toList.head? = some 48/\z.cps.toList≠[48]):=by
 have hz:z.length=z.cps.toList.length:=by rw[Jj];rfl
 rw[hz];constructor
 ·rintro⟨ds,N⟩
  have h1:=N.ne;have h2:=N.ln;have h3:=N.nz;rw[N.eq,Iq];refine⟨?_,h2,fun c hc=>?_,fun ⟨a,b⟩=>?_⟩
  ·cases ds with
   | nil=>exact absurd rfl h1
   | cons _ _=>simp
  ·obtain⟨e,he,rfl⟩:=Jf.mp hc
   have:=N.dg e he;exact ID ⟨by omega,by omega⟩
  ·cases ds with
   | nil=>exact absurd rfl h1
   | cons d ds =>
    have d0:d=0:=by simpa using a
    have:=h3 (by rw[d0];rfl);rw[this]at b;exact b rfl
 ·rintro⟨h1,h2,h3,h4⟩
  have hd:∀ c∈z.cps.toList,48<=c/\c<58:=fun c hc=>Jq (h3 c hc);refine⟨z.cps.toList.map (· - 48),⟨?_,?_,fun q=>?_,fun e he=>?_,by rw[Iq];exact h2⟩⟩
  ·rw[Jo]
   refine Eq.symm ((JA (g:=id) fun c hc=>?_).trans (List.map_id _));have:=hd c hc
   show c-48+48=c
   omega
  ·intro q
   have:=J3 List.length q;rw[Iq]at this;have this:z.cps.toList.length=0:=this;omega
  ·rw[List.head?_map]at q
   cases hc:z.cps.toList.head? with
   | none=>rw[hc]at q;cases q
   | some c =>
    rw[hc]at q;have q:c-48=0:=IA q;have cm:c∈z.cps.toList:=List.mem_of_mem_head? hc;have:=hd c cm
    have c48:c=48:=by omega
    have l48:z.cps.toList=[48]:=J6 fun n=>h4 ⟨by rw[hc,c48],n⟩;rw[l48];rfl
  ·obtain⟨c,hc,rfl⟩:=Jf.mp he
   have:=hd c hc;omega
theorem BG {z y:Str}:decide (V.str z=V.str y)=decide (z.cps.toList=y.cps.toList):=by
 rw[decide_eq_decide];constructor
 ·intro e;rw[V.str.inj e]
 ·intro e
  obtain⟨⟨l⟩⟩:=z;obtain⟨⟨m⟩⟩:=y;have e:l=m:=e;rw[e]
open Classical in
noncomputable def numW (z:Str):V:=if h:∃ ds,Num z ds then .int (numV h.choose) else .non
theorem qC {z:Str}{ds:List Nat}(h:Num z ds):numW z=.int (numV ds):=by
 have e:∃ ds,Num z ds:=⟨ds,h⟩;unfold numW;rw[dif_pos e,AY e.choose_spec h]
theorem vS {z:Str}(h:∀ ds,¬ Num z ds):numW z=.non:=by
 unfold numW;rw[dif_neg fun ⟨ds,e⟩=>h ds e]
theorem m9 (z:Str):jb (numW z)=true:=by
 unfold numW;split<;>rfl
theorem ph {c:Nat}:∀ {l p:List Nat},p∈iA c l->(∀ a∈p,a∈l)/\p.length<=l.length
 | [],p,h=>by
  rw[show iA c []=[[]] from rfl,IF]at h;subst h;exact⟨fun a ha=>(by cases ha),Ix _⟩
 | b::l,p,h=>by
  rw[bE]at h
  by_cases z:b=c
  ·rw[Iu z]at h
   rcases IC.mp h with e | e
   ·subst e;exact⟨fun a ha=>(by cases ha),Jg _⟩
   ·have:=ph e
    exact⟨fun a ha=>Iy _ (this.1 a ha),Nat.le_succ_of_le this.2⟩
  ·rw[Ir z]at h
   cases hs:iA c l with
   | nil =>
    rw[hs]at h;have e:=IF.mp h;subst e;exact⟨fun a ha=>by rw[IF.mp ha];exact IB,by simp⟩
   | cons q qs =>
    rw[hs]at h;rcases IC.mp h with e | e
    ·subst e
     have:=ph (c:=c) (l:=l) (p:=q) (by rw[hs];exact IB)
     exact⟨fun a ha=>by
      rcases IC.mp ha with y | y
      ·rw[y];exact IB
      ·exact Iy _ (this.1 a y),Nat.succ_le_succ this.2⟩
    ·have:=ph (c:=c) (l:=l) (p:=p) (by rw[hs];exact Iy _ e)
     exact⟨fun a ha=>Iy _ (this.1 a ha),Nat.le_succ_of_le this.2⟩
theorem yk (c:Nat):∀ l:List Nat,(iA c l).length<=l.length+1/\iA c l≠[]
 | []=>⟨Ix _,by simp[iA]⟩
 | b::l=>by
  have ih:=yk c l;rw[bE]
  by_cases z:b=c
  ·rw[Iu z];exact⟨by rw[IX,IX];omega,by simp⟩
  ·rw[Ir z]
   cases hs:iA c l with
   | nil=>exact absurd hs ih.2
   | cons q qs=>rw[hs]at ih;exact⟨by have:=ih.1;rw[IX]at *;rw[IX];omega,by simp⟩
def gi (c:Nat)(z:Str):List Str:=Txt.split z ⟨#[c]⟩
theorem kZ {c:Nat}(hc:c<256)(z:Str):(gi c z).map (·.cps.toList)=iA c z.cps.toList:=z1 z hc
theorem ny {c:Nat}(hc:c<256){z:Str}{ws:List Str}(h:ws.map (·.cps.toList)=iA c z.cps.toList):gi c z=ws:=by
 have:=(kZ hc z).trans h.symm
 exact (List.map_inj_right (fun x y e=>by
  obtain⟨⟨l⟩⟩:=x;obtain⟨⟨m⟩⟩:=y;have e:l=m:=e
  rw[e])).mp this
theorem Ab {c:Nat}(hc:c<256){z:Str}(a:x3 z):(gi c z).length<=z.length+1/\∀ w∈gi c z,x3 w/\w.length<=z.length:=by
 have hz:z.length=z.cps.toList.length:=by rw[Jj];rfl
 have e:=kZ hc z;refine⟨?_,fun w hw=>?_⟩
 ·rw[<-Iq (f:=(·.cps.toList)),e,hz]
  exact (yk c _).1
 ·have hm:w.cps.toList∈iA c z.cps.toList:=by rw[<-e];exact List.mem_map_of_mem (f:=(·.cps.toList)) hw
  have:=ph hm;refine⟨?_,by rw[hz];show w.cps.size<=_;rw[<-Jj];exact this.2⟩;unfold x3 at a ⊢;rw[<-Array.all_toList,Ju]at a ⊢;exact fun x hx=>a x (this.1 x hx)
theorem zB {K:PySem.W.Frag}{te:TE}{Qf:Hp->Prop}{lr q:Addr}{α:Type}(g:α->V){rs:List α}{f:α->V}{rest:L2.St}{H:Hp}(hq:H q=none)(h1:H lr=some (.lst (rs.map g)))(hlen:rs.length<=1000)
  (ht:∀ (r:α)(HK:Hp)(Q':VK),r∈rs->ay H HK->(∀ H5,ay HK H5->Q' (f r) H5)->te (some (g r)::rest) HK Q') (k:∀ (HK:Hp),ay H HK->HK q=some (.lst (rs.map f))->Qf HK) :
  sy (Dd K lr) (jc 0) (C9 wF te q) { nx:=fun _ H'=>Qf H',rt:=fun _ _=>False } (none::rest) (upd H q (.lst [])):=by
 refine cp (K:=K) (a:=lr) (xs:=rs.map g) (fun i σ HK=>∃ v:Option V,σ=v::rest/\ay H HK/\HK q=some (.lst ((rs.take i).map f))) ⟨none,rfl,ak hq,ac⟩ (fun i σ HK _ ⟨_,_,s2,_⟩=>bx.of (s2 _ _ h1)) ?_ ?_
 ·rintro i y σ HK hi ⟨v,rfl,t1,hq2⟩
  obtain⟨r,hr0,rfl⟩:=cf hi;have hil:i<rs.length:=(IG.mp hr0).1;refine iJ (ht r HK _ (Jc hr0) t1 fun H5 s5=>⟨_,s5 _ _ hq2,by rw[Iq,Jm];exact aQ (by omega),_,rfl,bz (t1.trans s5) hq,?_⟩);rw[ac,Jr,hr0,Js,IQ];rfl
 ·rintro σ HK ⟨v,rfl,t1,hq2⟩
  rw[Iq,Jp]at hq2;exact k HK t1 hq2
inductive FZ (vs:List V) (H:Hp) (Q:VK) (E:XK):Prop
 | mk (z w0:Str) (ws:List Str) (_:vs=[.str z]) (_:x3 z) (_:z.length<=900) (_:gi 32 z=w0::ws) (_:(∀ w∈ws,∃ ds,Num w ds)->∀ (t:Addr)(H':Hp),H t=none->ay H H'->H' t=some (.tup (.str w0::ws.map numW))->Q (.ref t) H') (_:(∃ w∈ws,∀ ds,¬ Num w ds)->∀ H',ay H H'->Q .non H')
def dZ (x:Str):List Nat:=x.cps.toList
theorem o9 (x:Str):x.length=(dZ x).length:=by unfold dZ;rw[Jj];rfl
theorem B7 (x y:Str):dZ (x++y)=dZ x++dZ y:=by
 show (x.cps++y.cps).toList=_
 rw[Array.toList_append];rfl
theorem sL (g:Array Nat):∀ (ps:List Str)(a:Array Nat),(ps.foldl (fun acc p=>acc++g++p.cps) a).toList=a.toList++(ps.map fun p=>g.toList++dZ p).flatten
 | [],a=>by simp
 | p::ps,a=>by
  rw[List.foldl_cons,sL g ps];simp[dZ]
theorem Ck (sep p:Str)(ps:List Str):dZ (Txt.join sep (p::ps))=dZ p++(ps.map fun q=>dZ sep++dZ q).flatten:=by
 unfold Txt.join Builtin.Str.glued
 show ((ps.foldl (fun acc p=>acc++sep.cps++p.cps) p.cps)).toList=_
 rw[sL];rfl
def uU (g:Int):Prop:=0<=g/\g<10 ^ 12
theorem qB {g:Int}(h:uU g):∃ ds,Num (bS g) ds/\(numV ds:Int)=g:=CG h.1 h.2
theorem EC {g:Int}(h:uU g):numW (bS g)=.int g:=by
 obtain⟨ds,N,e⟩:=qB h;rw[qC N,e]
theorem dG {g:Int}(h:uU g):(∀ c∈dZ (bS g),48<=c/\c<58)/\(dZ (bS g)).length<=12:=by
 obtain⟨ds,N,e⟩:=qB h;unfold dZ;rw[N.eq];refine⟨fun c hc=>?_,by rw[Iq];exact N.ln⟩;obtain⟨d,hd,rfl⟩:=Jf.mp hc;have:=N.dg d hd;exact⟨by omega,by omega⟩
theorem tG (d:aB):(∀ c∈dZ (word d),97<=c/\c<123)/\(dZ (word d)).length<=8:=by
 have e1:dZ (Str.ofString "come")=[99,111,109,101]:=by decide +kernel
 have e2:dZ (Str.ofString "go")=[103,111]:=by decide +kernel
 have e3:dZ (Str.ofString "exchange")=[101,120,99,104,97,110,103,101]:=by decide +kernel
 cases d with
 | come g=>show (∀ c∈dZ (Str.ofString "come"),_)/\(dZ (Str.ofString "come")).length<=8;rw[e1];decide
 | go g=>show (∀ c∈dZ (Str.ofString "go"),_)/\(dZ (Str.ofString "go")).length<=8;rw[e2];decide
 | exch a b=>show (∀ c∈dZ (Str.ofString "exchange"),_)/\(dZ (Str.ofString "exchange")).length<=8;rw[e3];decide
theorem yl (d:aB):dZ (ou d)=dZ (word d)++((names d).map fun g=>32::dZ (bS g)).flatten:=by
 unfold ou jB;rw[Ck,Jo]
 have e:dZ (Str.ofString " ")=[32]:=by decide +kernel
 have e2:(fun q=>dZ (Str.ofString " ")++dZ q) ∘ bS=fun g=>32::dZ (bS g):=funext fun g=>by
  show dZ (Str.ofString " ")++_=_
  rw[e];rfl
 rw[e2]
theorem tj {p:List Nat}:∀ {qs:List (List Nat)}{p:List Nat},32∉p->(∀ q∈qs,32∉q)->iA 32 (p++(qs.map fun q=>32::q).flatten)=p::qs
 | [],p,hp,_=>by rw[List.map_nil,List.flatten_nil,Kb,uO hp]
 | q::qs,p,hp,hq=>by
  rw[IR,List.flatten_cons,List.cons_append,yR _ hp];rw[tj (p:=q) (hq q IB) fun r hr=>hq r (Iy _ hr)]
theorem xi {d:aB}(h:∀ g∈names d,uU g):gi 32 (ou d)=word d::(names d).map bS:=by
 refine ny (by decide) ?_
 show _=iA 32 (dZ (ou d))
 rw[yl,show ((names d).map fun g=>32::dZ (bS g))=((names d).map fun g=>dZ (bS g)).map fun q=>32::q by rw[Jo];rfl,tj (p:=[])]
 ·rw[IR,Jo];rfl
 ·intro z;have:=(tG d).1 32 z;omega
 ·intro q hq z
  obtain⟨g,hg,rfl⟩:=Jf.mp hq;have:=(dG (h g hg)).1 32 z;omega
theorem zx {d:aB}(h:∀ g∈names d,uU g):(∀ c∈dZ (ou d),32<=c/\c<128)/\(dZ (ou d)).length<=40:=by
 rw[yl];have w:=tG d;refine⟨fun c hc=>?_,?_⟩
 ·rcases IN.mp hc with z | z
  ·have:=w.1 c z;omega
  ·obtain⟨l,hl,hc⟩:=List.mem_flatten.mp z
   obtain⟨g,hg,rfl⟩:=Jf.mp hl;rcases IC.mp hc with y | y
   ·omega
   ·have:=(dG (h g hg)).1 c y;omega
 ·cases d with
  | come g =>
   have:=(dG (h g IB)).2;rw[IK]
   have e:((names (.come g)).map fun g=>32::dZ (bS g)).flatten=32::dZ (bS g):=by simp[names]
   rw[e,IX];omega
  | go g =>
   have:=(dG (h g IB)).2;rw[IK]
   have e:((names (.go g)).map fun g=>32::dZ (bS g)).flatten=32::dZ (bS g):=by simp[names]
   rw[e,IX];omega
  | exch a b =>
   have h1:=(dG (h a IB)).2;have h2:=(dG (h b (Iy _ IB))).2;rw[IK]
   have e:((names (.exch a b)).map fun g=>32::dZ (bS g)).flatten=32::dZ (bS a)++32::dZ (bS b):=by simp[names]
   rw[e,IK,IX,IX];omega
theorem Ai {x:Str}(h:∀ c∈dZ x,c<128):x3 x:=by
 unfold x3;rw[<-Array.all_toList,Ju];exact fun c hc=>ID (h c hc)
theorem yj (k c:Int):uU (uW k c):=by
 unfold uU uW;have h:=JB (k*(1+d4 c*1234567891%2147483646)+d4 c/2147483646) (show (2147483647:Int)≠0 by decide);have h2:=Jw (k*(1+d4 c*1234567891%2147483646)+d4 c/2147483646) (show (0:Int)<2147483647 by decide);dsimp only;generalize (k*(1+d4 c*1234567891%2147483646)+d4 c/2147483646)%2147483647=y at h h2;split<;>omega
theorem zJ {m c g:Int}(h:g∈bv m c):uU g:=by
 unfold bv at h;obtain⟨k,_,rfl⟩:=Jf.mp h;exact yj _ _
def pK (P:Program)(w:World)(K:PySem.W.Frag)(mg:Str->Option Value)(base:Heap)(cQ fQ:Addr):Prop:=∃ fd:FuncData,aR P w K mg base c0 1 fQ fd ["self","place"] (BD cQ "place")/\dE K fd ["self","place"] []
theorem gH.mono {c:HX}{E:XK}{H H1:Hp}{o:y7}(h:gH c E H o)(s:ay H H1):gH c E H1 o:=by
 cases o with
 | done=>exact h
 | already=>exact fun H' s'=>h H' (s.trans s')
 | masked=>exact fun H' s'=>h H' (s.trans s')
 | same=>exact fun H' s'=>h H' (s.trans s')
 | met=>exact fun H' s'=>h H' (s.trans s')
 | noguest g=>exact fun dx H' s' e=>h dx H' (s.trans s') e
def EB (p:List Nat):Bool:=decide (1<=p.length)&&decide (p.length<=12)&&p.all lH&&!(decide (p.head? = some 48)&&decide (p≠[48]))
theorem CF {z:Str}(h:EB (dZ z)=false):∀ ds,¬ Num z ds:=fun ds N=>by
 obtain⟨h1,h2,h3,h4⟩:=(jK z).mp ⟨ds,N⟩;rw[o9]at h1 h2;have h3':(dZ z).all lH=true:=Ju.mpr h3
 have h4':(decide ((dZ z).head? = some 48)&&decide (dZ z≠[48]))=false:=by
  cases e:(decide ((dZ z).head? = some 48)&&decide (dZ z≠[48])) with
  | false=>rfl
  | true =>
   rw[JD,decide_eq_true_eq,decide_eq_true_eq]at e;exact absurd e h4
 unfold EB at h;rw[ID h1,ID h2,h3',h4']at h;cases h
theorem RD.succ {K:PySem.W.Frag}{H:Hp}:∀ {n:Nat}{v:V}{d:Dt},RD K H n v d->RD K H (n+1) v d
 | 0,_,_,h=>.inl h
 | _+1,_,_,.inl h=>.inl h
 | _+1,_,_,.inr ⟨a,t,xs,ds,e1,e2,q,p⟩=>.inr ⟨a,t,xs,ds,e1,e2,q,Paired.mapP p fun _ _ z=>RD.succ z⟩
structure BA where
 dx:Addr
 d1:Addr
 d2:Addr
 d3:Addr
def Gk (a b c:V):List (Str×V):=[("figures",a),("lengths",b),("rows",c)]
structure DM (C:Addr)(H:Hp)(b:Addr)(A:BA):Prop where
 ob:H b=some (.ins C A.dx (Gk (.ref A.d1) (.ref A.d2) (.ref A.d3)))
 fg:H A.d1=some (.dK [])
theorem Hr:¬ (("figures" : Str)="lengths"):=by decide +kernel
theorem HQ:¬ (("figures" : Str)="rows"):=by decide +kernel
theorem HR:¬ (("lengths" : Str)="rows"):=by decide +kernel
theorem Ft {a b c:V}:aV "rows" c (aV "lengths" b (aV "figures" a []))=Gk a b c:=by
 unfold Gk;simp only[aV];rw[Ir Hr];simp only[aV];rw[Ir HQ,Ir HR]
theorem DX {a b:V}:aV "lengths" b (aV "figures" a [])=([("figures",a),("lengths",b)]:List (Str×V)):=by
 simp only[aV];rw[Ir Hr]
inductive xQ (C:Addr) (vs:List V) (H:Hp) (Q:VK) (E_:XK):Prop
 | mk (b dx:Addr) (_:vs=[.ref b]) (_:H b=some (.ins C dx [])) (_:∀ (A:BA)(H':Hp),(∀ a o,H a=some o->a≠b->H' a=some o)->DM C H' b A->Q .non H')
structure Hk (K:PySem.W.Frag)(mg:Str->Option Value)(ck:Addr):Prop where
 cl:uZ K ck
 nF:bW K ck "figures"
 nL:bW K ck "lengths"
 nR:bW K ck "rows"
 mF:mg "FigureBook" = some (.ref ck)
def Gv (P:Program)(w:World)(K:PySem.W.Frag)(mg:Str->Option Value)(base:Heap)(ck:Addr):Prop:=∃ (fI:Addr)(fd:FuncData),Mk K ck fI/\aR P w K mg base c0 1 fI fd ["self"] (xQ ck)/\dE K fd ["self"] []
theorem FO {X:Cx}{ck:Addr}{p pos:Pos}(M:Gv X.prog X.w X.K X.mg X.base ck)(U:Hk X.K X.mg ck)(hr:bX 2 X.A)(hg:Gl X "FigureBook"):PE X (.Call (.Name "FigureBook" p) [] [] pos) (tz ck (xQ ck) [] E0 iP):=by
 obtain⟨fI,fd,M,G,hb⟩:=M;exact qT M G hr hg U.mF hb .nil c4
end Wz
namespace Qs
open PySem PySem.W PyProof.Rows
abbrev Q4:=Int×Int×Int×Int
def q0:Q4:=(0,0,0,0)
def HV (p q:Q4):Bool:=decide (p.1<q.1\/(p.1=q.1/\(p.2.1<q.2.1\/(p.2.1=q.2.1/\(p.2.2.1<q.2.2.1\/(p.2.2.1=q.2.2.1/\p.2.2.2<q.2.2.2))))))
def HC (h:Heap)(v:Value)(p:Q4):Prop:=∃ (b:Addr)(o:Obj)(n:Nat)(t1 t2 t3 t4:Tok),v=.ref b/\h.get? b=some o/\o.cls=.type "tuple"/\o.data=.seq #[.int p.1 t1,.int p.2.1 t2,.int p.2.2.1 t3,.int p.2.2.2 t4] n
open Classical in
noncomputable def decQ (h:Heap) (v:Value):Q4:=if z:∃ p,HC h v p then choose z else q0
def Gj (vs:List Value)(ps:List Q4)(out:List Value):Prop:=∃ ix:List Nat,ix.Perm (List.range vs.length)/\out=ix.map (fun i=>vs.getD i Value.none)/\(ix.map fun i=>ps.getD i q0).Pairwise (fun a b=>HV a b=true)
end Qs
namespace L2
open PySem PySem.Spec PyProof.Rows
theorem EI {X:Cx} {x j p}{es:List Expr}{t:TA}(hr:PA X es t):PA X (.Constant (.str x) j p::es) (gB (tC (.str x)) t):=ar am hr rfl
theorem xX {es:List Expr}{p:Pos}{t:Option Expr}{n:Nat}{env:Env}:swapsWith (.List es p) t n env=pure false:=rfl
structure Df (X:Cx)(ss:List Stmt)(t:TS):Prop where
 h:uV X ss t
structure QA (X:Cx)(es:List Expr)(t:TA):Prop where
 h:PA X es t
theorem jn {X:Cx}:QA X [] iP:=⟨aD⟩
theorem aL {X:Cx} {x j p}{es:List Expr}{t:TA}(hr:QA X es t):QA X (.Constant (.str x) j p::es) (gB (tC (.str x)) t):=⟨EI hr.h⟩
end L2
namespace Wz
open PySem L2
theorem yD {K:PySem.W.Frag}{H:Hp}{l:Addr}{ws:List Str}(h:H l=some (.lst (ws.map V.str))):RD K H 1 (.ref l) (.sq false (ws.map fun w=>.at (.str w))):=by
 refine RD.lst (bx.of h) ?_;clear h
 induction ws with
 | nil=>exact .nil
 | cons w ws ih=>exact .cons ⟨rfl,rfl⟩ ih
theorem jL (x:Str)(c:Nat):∀ (m k:Nat)(arr:Array Nat)(free:Nat),k+m=x.length+1->free<=k->arr.size<=1 ->
  (forIn (List.range' k m) (arr,free) (StrLaws.occBody x ⟨#[c]⟩ x.length 1)).run.fst.toList=arr.toList++((List.range' k m).filter (fun i=>decide (x.cps.toList[i]? = some c))).take (1-arr.size)
 | 0,k,arr,free,_,_,_=>by simp
 | m+1,k,arr,free,h,hf,ha=>by
  rw[List.range'_succ,List.forIn_cons,JM];have so:=StrLaws.subAt_one x c k;unfold StrLaws.occBody
  by_cases z:x.cps.toList[k]? = some c
  ·have s2:=so.mpr z
   rw[Iu (ID z)]
   by_cases a1:arr.size<1
   ·rw[Iu ⟨⟨⟨a1,hf⟩,s2.1⟩,s2.2⟩]
    have ih:=jL x c m (k+1) (arr.push k) (k+(⟨#[c]⟩:Str).length) (by omega) (Ix _) (by rw[Array.size_push];omega);refine Eq.trans ih ?_
    have e0:arr.size=0:=by omega
    have e1:arr = #[]:=Array.eq_empty_of_size_eq_zero e0;rw[e1];simp
   ·rw[Ir (fun q=>a1 q.1.1.1)]
    have e0:arr.size=1:=by omega
    have ih:=jL x c m (k+1) arr free (by omega) (by omega) ha;refine Eq.trans ih ?_;rw[e0];simp
  ·rw[Ir (fun q=>z (so.mp ⟨q.1.2,q.2⟩)),Ir (by rw[IE z];exact Iz)]
   exact jL x c m (k+1) arr free (by omega) (by omega) ha
theorem sX (x:Str)(c:Nat):Builtin.Str.occurrences x ⟨#[c]⟩ 0 x.length 1=(d9 c x.cps.toList).take 1:=by
 rw[StrLaws.occ_eq,jL x c _ 0 #[] 0 (by omega) (Ix _) (by decide)];have:=kQ c x.cps.toList 0 (x.length+1-0) (by show x.length+1=_;rw[Jj];rfl);rw[show (List.range' 0 (x.length+1-0)).filter (fun i=>decide (x.cps.toList[i]? = some c))=d9 c x.cps.toList by simpa using this];simp
def bO (c:Nat)(l:List Nat):List Nat×List Nat×List Nat:=match d9 c l with | []=>(l,[],[]) | i::_=>(l.take i,[c],l.drop (i+1))
def Ds:V->List V->Hp->VK->Prop:=fun x xs H Q=>∃ (z:Str)(c:Nat),x=.str z/\xs=[.str ⟨#[c]⟩]/\z.length<=1000000/\∀ l,H l=none->Q (.ref l) (upd H l (.tup [.str ⟨(bO c z.cps.toList).1.toArray⟩,.str ⟨(bO c z.cps.toList).2.1.toArray⟩,.str ⟨(bO c z.cps.toList).2.2.toArray⟩]))
theorem xl (x y:Str)(t u:Tok)(hy:(y.length == 0)=false)(hsz:x.length<=sizeLine) :
  Meets (Builtin.«str.partition» ⟨[.str x t,.str y u],[]⟩) (fun _ R s =>
   R (.ok (.ret (.ref s.heap.objs.size)))
    (match Builtin.Str.occurrences x y 0 x.length 1 with
      | i::_=>{ s with toks:=s.toks+1+1,heap:=s.heap.push { cls:=.type "tuple",data:=.seq [.str (Builtin.Str.strSub x 0 i) s.toks,.str y u,.str (Builtin.Str.strSub x (i+y.length) x.length) (s.toks+1)].toArray } }
      | []=>{ s with toks:=s.toks+1,heap:=s.heap.push { cls:=.type "tuple",data:=.seq [.str x t,.str Str.empty s.toks,.str Str.empty s.toks].toArray } })):=by
 obtain⟨raising,htree⟩:=partition_tree x y t u;refine .of_wp fun prog w A R s h=>?_;rw[htree,hy]
 show wpAny _ _ (match Builtin.Str.occurrences x y 0 x.length 1 with
    | i::_=>(do ret (<-newTuple [<-mkStr (Builtin.Str.strSub x 0 i),.str y u,<-mkStr (Builtin.Str.strSub x (i+y.length) x.length)]))
    | []=>(do rule "str.partition.not-found";let empty <-mkStr Str.empty;ret (<-newTuple [.str x t,empty,empty]))) _ _ s
 revert h
 cases Builtin.Str.occurrences x y 0 x.length 1 with
 | nil =>
  intro h;exact Iv (wpAny_rule (Iv (wpAny_mkStr (Iv (wpAny_newTuple (IP ⟨_,rfl,h⟩) (by show 3<=sizeLine;decide))) (by decide))))
 | cons i r =>
  intro h;exact Iv (wpAny_mkStr (Iv (wpAny_mkStr (Iv (wpAny_newTuple (IP ⟨_,rfl,h⟩) (by show 3<=sizeLine;decide))) (IY (strSub_length_le ..) hsz))) (IY (strSub_length_le ..) hsz))
theorem CC {X:Cx}:Gd X "str.partition" Ds:=by
 intro pins s σ H x xs v us Q I rx rv h;obtain⟨z,c,rfl,rfl,hz,q⟩:=h;obtain⟨t,rfl⟩:=rx;obtain⟨u,rfl,ru⟩:=hZ rv;obtain⟨t2,rfl⟩:=ru;have sl:sizeLine=16777216:=JQ;have q:=q s.heap.objs.size (I.hok.fresh (Ix _));refine call_meets F.slot_str_partition (typeIs_str _ _ _) F.entry_str_partition (F.args_str_partition_2 _ _) (xl z ⟨#[c]⟩ t t2 (by rfl) (by omega)) ?_;rw[sX]
 have fin:∀ (vs:List V)(us:List Value)(k:Nat),aU vs us->vs.length<=sizeLine->vs=[.str ⟨(bO c z.cps.toList).1.toArray⟩,.str ⟨(bO c z.cps.toList).2.1.toArray⟩,.str ⟨(bO c z.cps.toList).2.2.toArray⟩]->EP X pins σ Q (.ref s.heap.objs.size) { s with toks:=k,heap:=s.heap.push { cls:=.type "tuple",data:=.seq us.toArray } }:=fun vs us k r hl e=>by
  have IL:=I.laid (t':=k) (a:=s.heap.objs.size) (o:=.tup vs) (h':=s.heap.push { cls:=.type "tuple",data:=.seq us.toArray }) (fun b o e=>Iw _ e) (Ix _)
   (show bu X.prog X.w _ _ _ (.tup _) from ⟨hl,us,r,ie.new _ _⟩)
  exact⟨.ref s.heap.objs.size,_,IL,rfl,by rw[e];exact q⟩
 cases hp:d9 c z.cps.toList with
 | nil =>
  exact fin [.str z,.str Str.empty,.str Str.empty] _ _ (.cons ⟨_,rfl⟩ (.cons ⟨_,rfl⟩ (.cons ⟨_,rfl⟩ .nil))) (by show 3<=sizeLine;decide) (by
   have e:bO c z.cps.toList=(z.cps.toList,[],[]):=by unfold bO;rw[hp]
   rw[e]
   rfl)
 | cons i r =>
  exact fin [.str (Builtin.Str.strSub z 0 i),.str ⟨#[c]⟩,.str (Builtin.Str.strSub z (i+(⟨#[c]⟩:Str).length) z.length)] _ _ (.cons ⟨_,rfl⟩ (.cons ⟨_,rfl⟩ (.cons ⟨_,rfl⟩ .nil))) (by show 3<=sizeLine;decide) (by
   have e:bO c z.cps.toList=(z.cps.toList.take i,[c],z.cps.toList.drop (i+1)):=by unfold bO;rw[hp]
   rw[e]
   have e1:Builtin.Str.strSub z 0 i=⟨(z.cps.toList.take i).toArray⟩:=by unfold Builtin.Str.strSub;congr 1;apply Array.ext';simp
   have e2:Builtin.Str.strSub z (i+(⟨#[c]⟩:Str).length) z.length=⟨(z.cps.toList.drop (i+1)).toArray⟩:=by
    unfold Builtin.Str.strSub
    congr 1
    apply Array.ext'
    show (z.cps.extract (i+1) z.cps.size).toList=_
    simp;exact JK (by simp)
   rw[e1,e2])
theorem CU {X:Cx}{o e:Expr}{to te:TE}{apos cpos:Pos}(ho:PE X o to)(he:PE X e te)(hbase:attributeBase o "partition" X.env (eval o X.env)=eval o X.env:=by rfl)
  (hfew:((backTo cpos (starEach [e] X.env)).all (fun x=>!x.1)&&(backToKw cpos (keywordEach [] X.env)).all (fun x=>x.1.isSome)&&decide ([e].length+([]:List Keyword).length+(if ([]:List Keyword).isEmpty then 0 else 1)<30))=true:=by rfl)
  (hline:(apos.endLine == cpos.line)=true:=by rfl) (hs:starEach [e] X.env=(false,eval e X.env)::starEach [] X.env:=by rfl) (hplain:(backTo cpos (starEach [] X.env)).any (·.1)=false:=by rfl) :
  PE X (.Call (.Attribute o "partition" apos) [e] [] cpos) (F2 X.K "str" Ds to (gB te iP)) :=
 eR PySem.F.plainAttrs_str PySem.F.slot_str_partition PySem.F.type_str_partition CC ho (ar he aD hs) hbase hfew hline hs hplain
theorem xV (c:Nat):∀ l:List Nat,iA c l≠[]
 | []=>by simp[iA]
 | a::l=>by
  rw[bE]
  by_cases z:a=c
  ·rw[Iu z];simp
  ·rw[Ir z];cases iA c l<;>simp
theorem lU (c:Nat):∀ l:List Nat,d9 c l=[]↔(iA c l).length<=1
 | []=>by simp[d9,iA]
 | a::l=>by
  have ih:=lU c l;have ne:=xV c l;rw[hU,bE]
  by_cases z:a=c
  ·rw[Iu z,Iu z]
   cases h:iA c l with
   | nil=>exact absurd h ne
   | cons p ps=>simp
  ·rw[Ir z,Ir z]
   cases h:iA c l with
   | nil=>exact absurd h ne
   | cons p ps=>rw[h]at ih;simpa using ih
theorem v1 (c:Nat):∀ {l p:List Nat}{ps:List (List Nat)},iA c l=p::ps->(bO c l).1=p/\(bO c l).2.1=(if ps=[] then [] else [c])/\(ps≠[]->iA c (bO c l).2.2=ps)
 | [],p,ps,h=>by
  cases h;exact⟨rfl,rfl,fun z=>absurd rfl z⟩
 | a::l,p,ps,h=>by
  rw[bE]at h
  by_cases z:a=c
  ·rw[Iu z]at h
   cases h
   have e:bO c (a::l)=([],[c],l):=by unfold bO;rw[hU,Iu z];rfl
   rw[e,Ir (xV c l)];exact⟨rfl,rfl,fun _=>rfl⟩
  ·rw[Ir z]at h
   cases hs:iA c l with
   | nil=>exact absurd hs (xV c l)
   | cons q qs =>
    rw[hs]at h;cases h;obtain⟨i1,i2,i3⟩:=v1 c hs
    have e:bO c (a::l)=(a::(bO c l).1,(bO c l).2.1,(bO c l).2.2):=by
     unfold bO;rw[hU,Ir z];cases d9 c l<;>rfl
    rw[e];exact⟨by rw[i1],i2,i3⟩
theorem C4 {x y:Str}(h:x.cps.toList=y.cps.toList):x=y:=by
 obtain⟨⟨l⟩⟩:=x;obtain⟨⟨m⟩⟩:=y;have h:l=m:=h;rw[h]
theorem xF {z w0:Str}{ws:List Str}(h:gi 32 z=w0::ws):(⟨(bO 32 z.cps.toList).1.toArray⟩:Str)=w0/\(⟨(bO 32 z.cps.toList).2.1.toArray⟩:Str)=(if ws=[] then Str.empty else ⟨#[32]⟩)/\((Builtin.Str.occurrences (⟨(bO 32 z.cps.toList).2.2.toArray⟩:Str) ⟨#[32]⟩ 0 (⟨(bO 32 z.cps.toList).2.2.toArray⟩:Str).length 1).isEmpty=true↔ws.length<=1):=by
 have e:=kZ (c:=32) (by decide) z;rw[h,IR]at e;obtain⟨i1,i2,i3⟩:=v1 32 e.symm;refine⟨C4 (by rw[<-i1]),?_,?_⟩
 ·rw[i2]
  cases ws with
  | nil=>rfl
  | cons a l=>rfl
 ·rw[sX,List.isEmpty_iff]
  show (d9 32 (bO 32 z.cps.toList).2.2).take 1=[]↔_
  rw[show (d9 32 (bO 32 z.cps.toList).2.2).take 1=[]↔d9 32 (bO 32 z.cps.toList).2.2=[] by cases d9 32 (bO 32 z.cps.toList).2.2<;>simp,lU]
  cases ws with
  | nil =>
   have e0:(bO 32 z.cps.toList).2.2=[]:=by
    unfold bO at i2 ⊢
    cases hp:d9 32 z.cps.toList with
    | nil=>rfl
    | cons i r=>rw[hp]at i2;cases i2
   rw[e0];simp[iA]
  | cons a l =>
   rw[i3 (by simp)];simp
theorem aF.noins {C:Addr}{H:Hp}{p:Addr}{A:HA}{st:bP}(S:aF C H p A st){b C' dx:Addr}{fs:List (Str×V)}(h:b∈A.fp)(e:H b=some (.ins C' dx fs)):False:=by
 have n1:b≠A.w:=bQ e S.w (by intro z;cases z);have n2:b≠A.h:=bQ e S.h (by intro z;cases z);have n3:b≠A.c:=bQ e S.c (by intro z;cases z);obtain⟨as,hd,_⟩:=S.d;have n4:b≠A.d:=bQ e hd (by intro z;cases z)
 have n5:b∉A.cs:=fun z=>by
  obtain⟨i,hi,e'⟩:=J9 z;obtain⟨y,_,q⟩:=bY S.cs (IM hi);rw[e',e]at q;cases q
 simp[HA.fp,n1,n2,n3,n4,n5]at h
structure EA where
 dx:Addr
 x:Addr
 kp:Addr
 bk:Addr
def Dh (h k b:V):List (Str×V):=[("hall",h),("keeper",k),("book",b)]
theorem Hs:¬ (("hall" : Str)="keeper"):=by decide +kernel
theorem Ht:¬ (("hall" : Str)="book"):=by decide +kernel
theorem Hu:¬ (("keeper" : Str)="book"):=by decide +kernel
section
variable {h k b:V}
theorem Di:aV "keeper" k (aV "hall" h [])=([("hall",h),("keeper",k)]:List (Str×V)):=by
 simp only[aV];rw[Ir Hs]
theorem yd:aV "book" b (aV "keeper" k (aV "hall" h []))=Dh h k b:=by
 rw[Di];unfold Dh;simp only[aV];rw[Ir Ht,Ir Hu]
theorem ye:(Dh h k b).lookup ("hall" : Str)=some h:=by
 rw[<-yd,ao,Ir Ht,ao,Ir Hs,ao,Iu rfl]
theorem jE:(Dh h k b).lookup ("keeper" : Str)=some k:=by
 rw[<-yd,ao,Ir Hu,ao,Iu rfl]
theorem vi {m:Str}(q:¬ m="hall"/\¬ m="keeper"/\¬ m="book"):(Dh h k b).lookup m=none:=by
 rw[<-yd,ao,Ir q.2.2,ao,Ir q.2.1,ao,Ir q.1];rfl
end
def oW:dh:=⟨none,0,none⟩
theorem zL (d:aB)(m:Int):oW.nextD d m=oW:=dh.idle rfl
structure eJ (c:HX)(ck ze:Addr)(H:Hp)(e:Addr)(A:EA)(D:KA)(B:HA)(st:bP):Prop where
 ob:H e=some (.ins ze A.dx (Dh (.ref A.x) (.ref A.kp) (.ref A.bk)))
 ki:Af c ck H A.kp D oW B st
 px:D.p=A.x
theorem eJ.mono {c:HX}{ck ze:Addr}{H H':Hp}{e:Addr}{A:EA}{D:KA}{B:HA}{st:bP}(x:eJ c ck ze H e A D B st)(m:ay H H'):eJ c ck ze H' e A D B st:=⟨m _ _ x.ob,x.ki.mono m,x.px⟩
theorem eJ.hall {c:HX}{ck ze:Addr}{H:Hp}{e:Addr}{A:EA}{D:KA}{B:HA}{st:bP}(x:eJ c ck ze H e A D B st):aF c.C H A.x B st:=x.px▸x.ki.hall
def u7 (c:HX)(ck ze:Addr)(H:Hp)(e:Addr)(A:EA)(D:KA)(B:HA)(st':bP)(H':Hp):Prop:=∃ B',eJ c ck ze H' e A D B' st'/\Kp B.fp H H'/\(∀ b∈B'.fp,b∈B.fp\/H b=none)/\Tr H H'
theorem Ec {c:HX}{ck ze:Addr}{H:Hp}{e:Addr}{A:EA}{D:KA}{B:HA}{st:bP}(x:eJ c ck ze H e A D B st):e≠A.kp/\e∉B.fp:=by
 refine⟨fun z=>?_,fun z=>?_⟩
 ·have q:=x.ob
  rw[z,x.ki.kp.ob]at q;injection q with q;injection q with _ _ q;have r:(qi D oW).lookup ("plan" : Str)=some _:=lJ;rw[q,vi (by decide +kernel)]at r;cases r
 ·exact x.ki.hall.noins z x.ob
theorem Cw {c:HX}{ck ze:Addr}{H H':Hp}{e:Addr}{A:EA}{D:KA}{B:HA}{st st':bP}{d:aB}{m:Int}(x:eJ c ck ze H e A D B st)(mv:yZ c ck H A.kp D B st' (oW.nextD d m) H'):u7 c ck ze H e A D B st' H':=by
 rw[zL]at mv;obtain⟨B',h1,h2,h3,h4,h5⟩:=mv;obtain⟨n1,n2⟩:=Ec x;refine⟨B',⟨h3 _ _ x.ob n2 n1,⟨h2,h1,fun z=>?_,fun ps e=>by cases e⟩,x.px⟩,fun b o eb n=>?_,h4,h5⟩
 ·rcases h4 _ z with y | y
  ·exact x.ki.kB y
  ·rw[x.ki.kp.ob]at y;cases y
 ·by_cases z:b=A.kp
  ·rw[z]at eb ⊢
   rw[x.ki.kp.ob]at eb;rw[h2.ob];exact eb
  ·exact h3 b o eb n z
structure Fi (K:PySem.W.Frag)(mg:Str->Option Value)(ze:Addr):Prop where
 cl:uZ K ze
 nH:bW K ze "hall"
 nK:bW K ze "keeper"
 nB:bW K ze "book"
 mE:mg "Evening" = some (.ref ze)
def linesD:List (Str×Int):=[("come",2),("go",2),("exchange",3),("plan",3),("step",1),("state",1),("wears",2),("rings",1)]
structure Fh (K:PySem.W.Frag)(mg:Str->Option Value)(w:World)(c:HX)(cq cX fX ck cb ze dl:Addr)(y:List Addr):Prop where
 k:HK K mg ck
 f:Hk K mg cb
 e:Fi K mg ze
 eP:eY K cq
 mP:mg "NoPlan" = some (.ref cq)
 eQ:gI K cX fX=true
 gQ:Ge K cX "place"
 tQ:PySem.W.typeIn K (.ref fX)=some (.type "function")
 mQ:mg "NoText" = some (.ref cX)
 md:∃ u,mg "MOST_DIGITS" = some u/\aP (.int 12) u
 dg:∃ u,mg "DIGITS" = some u/\aP (.str "0123456789") u
 ms:mg "LINE_SIZES" = some (.ref dl)
 gd:GD K w.params dl linesD
 mN:mg "NotNew" = some (.ref (y.getD 0 0))
 m:mg "NoWay" = some (.ref (y.getD 1 0))
 mB:mg "BadName" = some (.ref (y.getD 2 0))
 mT:mg "Taken" = some (.ref (y.getD 3 0))
 mU:mg "Unknown" = some (.ref (y.getD 4 0))
 mL:mg "TooLong" = some (.ref (y.getD 5 0))
 mF:mg "NoFigure" = some (.ref (y.getD 6 0))
 xp:∀ a∈[c.cA,c.cM,c.cS,c.cT,y.getD 0 0,y.getD 1 0],PySem.W.exmOne K (.ref cq) (.ref a)=some false
 pp:PySem.W.exmOne K (.ref cq) (.ref cq)=some true
 xn:∀ a∈[y.getD 0 0,y.getD 1 0,cq,y.getD 2 0,y.getD 3 0,y.getD 4 0,y.getD 5 0,y.getD 6 0],PySem.W.exmOne K (.ref c.cN) (.ref a)=some false
 xq:∀ a∈[c.cA,c.cM,c.cS,c.cT,y.getD 0 0,y.getD 1 0,cq,y.getD 2 0,y.getD 3 0,y.getD 4 0,y.getD 5 0,y.getD 6 0,c.cN],PySem.W.exmOne K (.ref cX) (.ref a)=some false
 qq:PySem.W.exmOne K (.ref cX) (.ref cX)=some true
theorem A6 {X:Cx}{cX fX:Addr}{E:XK}{e:Expr}{te:TE}{np cpos pos:Pos}(N:pK X.prog X.w X.K X.mg X.base cX fX)(eQ:gI X.K cX fX=true)(tQ:PySem.W.typeIn X.K (.ref fX)=some (.type "function"))(mQ:X.mg "NoText" = some (.ref cX))(hr:bX 2 X.A)(hfl:u6 X E)(hex:X.ex=[])(hh:X.A.handled=none)(hg:Gl X "NoText")(he:PE X e te)
  (hs:starEach [e] X.env=[(false,eval e X.env)]:=by rfl):PS X (.Raise (some (.Call (.Name "NoText" np) [e] [] cpos)) none pos) (uQ te cX "place" E):=by
 obtain⟨fd,G,hb⟩:=N;exact tf eQ tQ G hr hb hfl hex hh hg mQ he (by decide) hs
inductive xS (c:HX) (ck ze:Addr) (vs:List V) (H:Hp) (Q:VK) (E_:XK):Prop
 | mk (e dx:Addr) (_:vs=[.ref e]) (_:H e=some (.ins ze dx [])) (_:∀ (A:EA)(D:KA)(B:HA)(H':Hp),eJ c ck ze H' e A D B ⟨[],[],[],[]⟩->(∀ b o,H b=some o->b≠e->H' b=some o)->(∀ b∈B.fp,H b=none)->H A.kp=none->Q .non H')
def Gu (P:Program)(w:World)(K:PySem.W.Frag)(mg:Str->Option Value)(base:Heap)(c:HX)(ck ze:Addr):Prop:=∃ (fI:Addr)(fd:FuncData),Mk K ze fI/\aR P w K mg base c0 3 fI fd ["self"] (xS c ck ze)/\dE K fd ["self"] []
theorem vZ {X:Cx}{c:HX}{ck ze:Addr}{p pos:Pos}(M:Gu X.prog X.w X.K X.mg X.base c ck ze)(U:Fi X.K X.mg ze)(hr:bX 4 X.A)(hg:Gl X "Evening"):PE X (.Call (.Name "Evening" p) [] [] pos) (tz ze (xS c ck ze) [] E0 iP):=by
 obtain⟨fI,fd,M,G,hb⟩:=M;exact qT M G hr hg U.mE hb .nil c4
def lX (r:List Int):Str:=Txt.join (Str.ofString " ") (r.map bS)
def iw (rs:List (List Int)):Str:=if rs=[] then "none" else Txt.join (Str.ofString ", ") (rs.map lX)
def Do (o:y7):Str:=Str.ofString "no: "++zQ o
inductive wz (c:HX) (vs:List V) (H:Hp) (Q:VK) (E_:XK):Prop
 | mk (p:Addr) (A:HA) (st:bP) (_:vs=[.ref p]) (_:aF c.C H p A st) (_:ff st) (_:st.worn.length<64) (_:(∀ g∈av st.worn,aJ g)) (_:∀ H',ay H H'->Q (.str (iw (cu st.worn))) H')
inductive oJ (vs:List V) (H:Hp) (Q:VK) (E_:XK):Prop
 | mk (w:Addr) (W:List (Int×Int)) (_:vs=[.ref w]) (_:H w=some (.dK (dk W))) (_:W.length<64) (_:wN W) (_:(∀ g∈av W,aJ g)) (_:∀ H',ay H H'->Q (.str (iw (cu W))) H')
inductive k7 where
 | deed (d:aB) | rings | wears (g:Int) | step | state
def k7.w0:k7->Str
 | .deed d=>word d | .rings=>"rings" | .wears _=>"wears" | .step=>"step" | .state=>"state"
def k7.ns:k7->List Int
 | .deed d=>names d | .wears g=>[g] | _=>[]
def sk (c:HX)(ck ze:Addr)(cq:Addr)(H:Hp)(e:Addr)(A:EA)(D:KA)(B:HA)(st:bP)(q:k7)(Q:VK)(E:XK):Prop:=match q with
 | .deed d=>(∀ g∈names d,aJ g)/\(aE st d=.done->∀ H',u7 c ck ze H e A D B (after st d) H'->Q (.str "done") H')/\(aE st d≠.done->gH c E H (aE st d))
 | .rings=>∀ H',ay H H'->Q (.str (iw (cu st.worn))) H'
 | .wears g=>aJ g/\(∀ m,look st.worn g=some m->∀ H',ay H H'->Q (.str (bS m)) H')/\(look st.worn g=none->gH c E H (.noguest g))
 | .step=>∀ H',ay H H'->E (.ref cq) none H'
 | .state=>∀ H',ay H H'->Q (.str "none 0") H'
structure gC (c:HX)(ck ze:Addr)(H:Hp)(e:Addr)(A:EA)(D:KA)(B:HA)(st:bP):Prop where
 ev:eJ c ck ze H e A D B st
 ft:pI st
 hg:ff st
 wl:st.worn.length<64
 sm:∀ g∈av st.worn,aJ g
inductive BF (c:HX) (ck ze cq:Addr) (vs:List V) (H:Hp) (Q:VK) (E:XK):Prop
 | mk (e t:Addr) (A:EA) (D:KA) (B:HA) (st:bP) (q:k7) (_:vs=[.ref e,.ref t]) (_:gC c ck ze H e A D B st) (_:H t=some (.tup (.str q.w0::q.ns.map V.int))) (_:sk c ck ze cq H e A D B st q Q E)
structure kG (z:Str)(q:k7):Prop where
 as:x3 z
 ln:z.length<=900
 wd:gi 32 z=q.w0::q.ns.map bS
 gs:∀ g∈q.ns,uU g
def uY (z:Str):Prop:=x3 z/\z.length<=900/\∃ w0 ws,gi 32 z=w0::ws/\(w0="dance"->ws=[])/\(w0="name"->ws.length<=1)/\((∃ w∈ws,∀ ds,¬ Num w ds)\/((∀ w∈ws,∃ ds,Num w ds)/\jd linesD w0≠.int ((ws.length:Int)+1)))
inductive yG (c:HX) (ck ze cq cX:Addr) (vs:List V) (H:Hp) (Q:VK) (E:XK):Prop
 | ask (e:Addr) (A:EA) (D:KA) (B:HA) (st:bP) (z:Str) (q:k7) (h_0:vs=[.ref e,.str z]) (h_1:gC c ck ze H e A D B st) (h_2:kG z q) (h_3:sk c ck ze cq H e A D B st q Q E):yG c ck ze cq cX vs H Q E
 | bad (e:Addr) (A:EA) (D:KA) (B:HA) (st:bP) (z:Str) (h_0:vs=[.ref e,.str z]) (h_1:gC c ck ze H e A D B st) (h_2:uY z) (h_3:∀ dx H',ay H H'->H' dx=some (.xd [("place",.int 1)])->E (.ref cX) (some dx) H'):yG c ck ze cq cX vs H Q E
def tI (c:HX)(ck ze:Addr)(H:Hp)(e:Addr)(A:EA)(D:KA)(B:HA)(st:bP)(q:k7)(Q:VK):Prop:=match q with
 | .deed d=>(∀ g∈names d,aJ g)/\(aE st d=.done->∀ H',u7 c ck ze H e A D B (after st d) H'->Q (.str "done") H')/\(aE st d≠.done->∀ H',ay H H'->Q (.str (Do (aE st d))) H')
 | .rings=>∀ H',ay H H'->Q (.str (iw (cu st.worn))) H'
 | .wears g=>aJ g/\(∀ m,look st.worn g=some m->∀ H',ay H H'->Q (.str (bS m)) H')/\(look st.worn g=none->∀ H',ay H H'->Q (.str "no: NoGuest") H')
 | .step=>∀ H',ay H H'->Q (.str "no: NoPlan") H'
 | .state=>∀ H',ay H H'->Q (.str "none 0") H'
inductive oK (c:HX) (ck ze:Addr) (vs:List V) (H:Hp) (Q:VK) (E_:XK):Prop
 | ask (e:Addr) (A:EA) (D:KA) (B:HA) (st:bP) (z:Str) (q:k7) (h_0:vs=[.ref e,.str z]) (h_1:gC c ck ze H e A D B st) (h_2:kG z q) (h_3:tI c ck ze H e A D B st q Q):oK c ck ze vs H Q E_
 | bad (e:Addr) (A:EA) (D:KA) (B:HA) (st:bP) (z:Str) (h_0:vs=[.ref e,.str z]) (h_1:gC c ck ze H e A D B st) (h_2:uY z) (h_3:∀ H',ay H H'->Q (.str "no: NoText") H'):oK c ck ze vs H Q E_
inductive Bx (c:HX) (ck ze:Addr) (vs:List V) (H:Hp) (Q:VK) (E:XK):Prop
 | mk (k t:Addr) (A:KA) (s:dh) (B:HA) (st:bP) (d:aB) (_:vs=[.ref k,.ref t]) (_:H t=some (cj d)) (_:Af c ck H k A s B st) (_:pI st) (_:ff st) (_:(∀ g∈names d,aJ g)) (_:sr c ck H k A s B st d Q E)
end Wz
namespace L2
open PySem PySem.Spec PyProof.Rows
theorem EL {X:Cx}{b:Str}{j:Nat}{e1 e2:Expr}{t1 t2:TE}{p1 p2 p3 pos:Pos}(h1:PE X e1 t1)(h2:PE X e2 t2)(hb:b.length<=10) :
  PE X (.JoinedStr [.FormattedValue e1 (-1) none p1,.Constant (.str b) j p2,.FormattedValue e2 (-1) none p3] pos) (fun σ H Q=>t1 σ H fun x H1=>∃ z:Str,x=.str z/\z.length<=1000/\t2 σ H1 fun y H2=>∃ i:Int,y=.int i/\i.natAbs<10 ^ 100/\Q (.str (z++b++Str.ofString (toString i))) H2):=by
 intro pins s σ H Q I hq;have sl:sizeLine=16777216:=JQ;have hsb:PE X (.Constant (.str b) j p2) (tC (.str b)):=am;refine JoinedStr_many ?_
 show wpAny _ _ (joinParts Str.empty (eval (.FormattedValue e1 (-1) none p1) X.env::eval (.Constant (.str b) j p2) X.env::eval (.FormattedValue e2 (-1) none p3) X.env::[])) _ _ s
 refine joinParts_cons (FormattedValue_plain (bq (h1 pins s σ H _ I hq) fun u1 s1 ⟨x1,H1,I1,rx1,z,ez,hz,q⟩=>?_));subst ez;obtain⟨tk,rfl⟩:=rx1
 have e0:Str.empty++z=z:=by cases z with | mk c=>show (⟨#[]++c⟩:Str)=⟨c⟩;rw[Array.empty_append]
 have fin:∀ (s3:Shared),aA X pins σ H1 s3->(Str.empty++z).length<=sizeLine/\wpAny (model X.prog X.w) X.A (joinParts (Str.empty++z) [eval (.Constant (.str b) j p2) X.env,eval (.FormattedValue e2 (-1) none p3) X.env]) (EP X pins σ Q) X.xe s3:=fun s3 I3=>by
  rw[e0];refine⟨by omega,joinParts_cons (bq (hsb pins s3 σ H1 (fun v H'=>v=.str b/\H'=H1) I3 ⟨rfl,rfl⟩) fun u4 s4 ⟨x4,H4,I4,rx4,ex4,eh4⟩=>?_)⟩;subst ex4 eh4;obtain⟨tk4,rfl⟩:=rx4;have l2:(z++b).length=z.length+b.length:=strLen_append _ _;refine⟨by omega,joinParts_cons (FormattedValue_plain (bq (h2 pins s4 σ H4 _ I4 q) fun u5 s5 ⟨x5,H5,I5,rx5,i,ei,hi,q5⟩=>?_))⟩;subst ei;obtain⟨tk5,rfl⟩:=rx5
  have hd:i.natAbs.log2<1920:=by
   by_cases h0:i.natAbs=0
   ·rw[h0];decide
   ·exact (Nat.log2_lt h0).mpr (IT hi (by decide +kernel))
  have li:(Str.ofString (toString i)).length<=1000:=by
   have:=PySem.int_text_length_le10 (a:=i) (k:=100) (by decide) hi;rw[PySem.ofString_length];omega
  have l3:(z++b++Str.ofString (toString i)).length=(z++b).length+(Str.ofString (toString i)).length:=strLen_append _ _;exact wpAny_formatField_int hd ⟨by omega,joinParts_nil ⟨.str _,H5,(I5.tok _).tok _,⟨_,rfl⟩,q5⟩ (by omega)⟩
 exact wpAny_formatField_str (fin _ I1) (fin _ (I1.tok _)) (by omega)
end L2
namespace Wz
open PySem L2
theorem wm {W:List (Int×Int)}(P:wN W)(wl:W.length<64)(sm:∀ g∈av W,aJ g):(cu W).length<=64/\∀ r∈cu W,r.length<=64/\∀ g∈r,aJ g:=by
 obtain⟨h1,h2⟩:=wk P;have fl:=(wN.flat (st:=⟨W,[],[],[]⟩) P).2.1;exact⟨by omega,fun r hr=>⟨by have:=h2 r hr;omega,fun g hg=>sm g (fl g (List.mem_flatten.mpr ⟨r,hr,hg⟩)).1⟩⟩
theorem yE {r:List Int}(h:r.length<=64/\∀ g∈r,aJ g):JoinOk (Str.ofString " ") (r.map bS)=true/\(lX r).length<=130000:=by
 have e:(Str.ofString " ").length=1:=by decide +kernel
 have hb:∀ y∈r.map bS,y.length<=1921:=fun y hy=>by
  obtain⟨g,hg,rfl⟩:=Jf.mp hy;exact yu (h.2 g hg)
 have l1:(r.map bS).length*1921<=64*1921:=Nat.mul_le_mul_right _ (by rw[Iq];exact h.1);have l2:(r.map bS).length*(1921+1)<=64*(1921+1):=Nat.mul_le_mul_right _ (by rw[Iq];exact h.1)
 have l3:(r.map bS).length<=64:=by rw[Iq];exact h.1
 refine⟨t6 hb ?_,?_⟩
 ·rw[e];omega
 ·have:=AJ (sep:=Str.ofString " ") hb
  rw[e]at this;unfold lX;omega
theorem ti {rs:List (List Int)}(hl:rs.length<=64)(h:∀ r∈rs,r.length<=64/\∀ g∈r,aJ g):JoinOk (Str.ofString ", ") (rs.map lX)=true:=by
 have e:(Str.ofString ", ").length=2:=by decide +kernel
 have l3:(rs.map lX).length<=64:=by rw[Iq];exact hl
 obtain⟨B,hB⟩:∃ B,B=130000:=⟨_,rfl⟩;refine t6 (B:=B) (fun y hy=>?_) ?_
 ·obtain⟨r,hr,rfl⟩:=Jf.mp hy
  rw[hB];exact (yE (h r hr)).2
 ·rw[e]
  have:=Nat.mul_le_mul l3 (Nat.le_of_eq hB);omega
theorem qV {K:PySem.W.Frag}{Qf:Hp->Prop}{l q:Addr}{rs:List (List Int)}{H:Hp}(hq:H q=none)(h1:Fm H l rs)(hl:rs.length<=64)(hr:∀ r∈rs,r.length<=64/\∀ g∈r,aJ g)
  (k:∀ (HK:Hp),ay H HK->HK q=some (.lst ((rs.map lX).map V.str))->Qf HK) :
  sy (Dd K l) (jc 0) (C9 wF (F2 K "str" (Bl K) (tC (V.str (Str.ofString " "))) (gB (Dz (AH K (z7 0)) (jc 0) wF (Go (fun xs H Q=>(∃ s,xs=[V.str s]/\Q (V.str s) H)\/∃ i:Int,xs=[V.int i]/\i.natAbs<10 ^ 100/\Q (V.str (Str.ofString (toString i))) H) (gB (z7 0) iP)) [none]) iP)) q) { nx:=fun _ H'=>Qf H',rt:=fun _ _=>False } [none] (upd H q (.lst [])):=by
 obtain⟨as,h3,pa⟩:=h1;have hpl:=IU pa
 refine cp (K:=K) (a:=l) (xs:=as.map V.ref) (fun i σ HK=>∃ v:Option V,σ=[v]/\ay H HK/\HK q=some (.lst (((rs.take i).map lX).map V.str)))
  ⟨none,rfl,ak hq,ac⟩ (fun i σ HK _ ⟨_,_,s2,_⟩=>bx.of (s2 _ _ h3)) ?_ ?_
 ·rintro i y σ HK hi ⟨v,rfl,t1,hq2⟩
  obtain⟨a,ha,rfl⟩:=cf hi;have hil:i<as.length:=(IG.mp ha).1;obtain⟨r,hr0,hA⟩:=bY pa ha;have rok:=hr r (Jc hr0);have hT:=t1 _ _ hA;refine iJ ⟨rfl,_,rfl,a,rfl,⟨_,bx.of hT⟩,fun q2 hq2'=>?_⟩
  refine cp (K:=K) (a:=a) (xs:=r.map V.int) (fun j σ HJ=>∃ v:Option V,σ=[v]/\ay HK HJ/\HJ q2=some (.lst (((r.take j).map bS).map V.str)))
   ⟨none,rfl,ak hq2',ac⟩ (fun j σ HJ _ ⟨_,_,s2,_⟩=>bx.of (s2 _ _ hT)) ?_ ?_
  ·rintro j y σ HJ hj ⟨v,rfl,u1,hu⟩
   obtain⟨g,hg,rfl⟩:=cf hj;refine iJ ⟨_,rfl,.inr ⟨g,rfl,rok.2 g (Jc hg),_,hu,by rw[Iq,Iq,Jm];exact aQ (by omega),?_⟩⟩;refine⟨_,rfl,bz u1 hq2',?_⟩;rw[ac,Jr,hg,Js,IQ,IQ];rfl
  ·rintro σ HJ ⟨v,rfl,u1,hu⟩
   rw[Iq,Jp]at hu;refine⟨_,q2,r.map bS,rfl,rfl,bx.of hu,(yE rok).1,?_⟩;refine⟨_,u1 _ _ hq2,by rw[Iq,Iq,Jm];exact aQ (by omega),_,rfl,bz (t1.trans u1) hq,?_⟩;rw[ac,Jr,hr0,Js,IQ,IQ];rfl
 ·rintro σ HK ⟨v,rfl,t1,hq2⟩
  rw[Iq,hpl,Jp]at hq2;exact k HK t1 hq2
theorem dS {s t:Str}(h:¬ s=t):decide (V.str s=V.str t)=false:=IE fun z=>h (V.str.inj z)
theorem lC {d:aB}{s:Str}(h:¬ ("come" : Str)=s/\¬ ("go" : Str)=s/\¬ ("exchange" : Str)=s):decide (V.str (word d)=V.str s)=false:=by
 cases d with
 | come g=>exact dS h.1
 | go g=>exact dS h.2.1
 | exch a b=>exact dS h.2.2
theorem Ak {q:k7}{s:Str}(h:(¬ ("come" : Str)=s/\¬ ("go" : Str)=s/\¬ ("exchange" : Str)=s)/\¬ ("rings" : Str)=s/\¬ ("wears" : Str)=s/\¬ ("step" : Str)=s/\¬ ("state" : Str)=s):decide (V.str q.w0=V.str s)=false:=by
 cases q with
 | deed d=>exact lC h.1
 | rings=>exact dS h.2.1
 | wears g=>exact dS h.2.2.1
 | step=>exact dS h.2.2.2.1
 | state=>exact dS h.2.2.2.2
theorem Aj {q:k7}{s:Str}(h:(¬ ("come" : Str)=s/\¬ ("go" : Str)=s/\¬ ("exchange" : Str)=s)/\¬ ("rings" : Str)=s/\¬ ("wears" : Str)=s/\¬ ("step" : Str)=s/\¬ ("state" : Str)=s):¬ q.w0=s:=fun e=>by
 have:=Ak (q:=q) h;rw[e,ID rfl]at this;cases this
theorem vd {c:Bool}{A N X:Prop}(hA:c=true->X->A)(hX:X):if c=true then A else if false=true then N else X:=by
 cases c with
 | true=>rw[Iu rfl];exact hA rfl hX
 | false=>rw[Ir Iz,Ir Iz];exact hX
section
variable {c:HX}{ck ze cq:Addr}{H H1:Hp}{e:Addr}{A:EA}{D:KA}{B:HA}{st st':bP}{Q:VK}{E:XK}
theorem u7.back {H':Hp}(s:ay H H1)(m:u7 c ck ze H1 e A D B st' H'):u7 c ck ze H e A D B st' H':=by
 obtain⟨B',i,k,f,t⟩:=m;exact⟨B',i,fun b o e n=>k b o (s b o e) n,fun b h=>(f b h).imp id s.free,(Tr.of_same s).trans t⟩
theorem gC.mono (x:gC c ck ze H e A D B st)(s:ay H H1):gC c ck ze H1 e A D B st:=⟨x.ev.mono s,x.ft,x.hg,x.wl,x.sm⟩
theorem sk.mono {q:k7}(h:sk c ck ze cq H e A D B st q Q E)(s:ay H H1):sk c ck ze cq H1 e A D B st q Q E:=by
 cases q with
 | deed d=>exact⟨h.1,fun j H' m=>h.2.1 j H' (m.back s),fun j=>(h.2.2 j).mono s⟩
 | rings=>exact fun H' x=>h H' (s.trans x)
 | wears g=>exact⟨h.1,fun m e H' x=>h.2.1 m e H' (s.trans x),fun e=>(h.2.2 e).mono s⟩
 | step=>exact fun H' x=>h H' (s.trans x)
 | state=>exact fun H' x=>h H' (s.trans x)
end
theorem Al (q:k7):jd linesD q.w0=.int ((V.str q.w0::q.ns.map V.int).length:Nat):=by
 cases q with
 | deed d =>
  cases d with
  | come g=>show jd linesD (Str.ofString "come")=V.int 2;decide +kernel
  | go g=>show jd linesD (Str.ofString "go")=V.int 2;decide +kernel
  | exch a b=>show jd linesD (Str.ofString "exchange")=V.int 3;decide +kernel
 | rings=>show jd linesD (Str.ofString "rings")=V.int 1;decide +kernel
 | wears g=>show jd linesD (Str.ofString "wears")=V.int 2;decide +kernel
 | step=>show jd linesD (Str.ofString "step")=V.int 1;decide +kernel
 | state=>show jd linesD (Str.ofString "state")=V.int 1;decide +kernel
theorem zm {xs:List (Str×Int)}{z:Str}{i:Int}:ES (jd xs z) (.int i)=true:=by
 unfold jd;cases xs.lookup z<;>rfl
def Da (z:Str):List Str:=(iA 32 (dZ z)).map fun p=>⟨p.toArray⟩
theorem yV (z:Str):gi 32 z=Da z:=ny (by decide) (by
 unfold Da;rw[Jo]
 exact (JA fun p _=>by simp).trans (List.map_id _))
def DV (z:Str):Bool:=z.cps.all (· < 128)&&decide (z.length<=900)&&match Da z with
 | []=>false
 | w0::ws=>(decide (w0≠"dance")||ws.isEmpty)&&(decide (w0≠"name")||decide (ws.length<=1))&&(ws.any (fun w=>!EB (dZ w))||decide (jd linesD w0≠.int ((ws.length:Int)+1)))
theorem B6 {z:Str}(h:DV z=true):uY z:=by
 unfold DV at h
 cases e:Da z with
 | nil=>rw[e,Bool.and_false]at h;cases h
 | cons w0 ws =>
  rw[e]at h;simp only[JD,Bool.or_eq_true,decide_eq_true_eq,List.isEmpty_iff]at h;obtain⟨⟨h1,h2⟩,⟨h3,h4⟩,h5⟩:=h;refine⟨h1,h2,w0,ws,(yV z).trans e,fun y=>h3.resolve_left fun n=>n y,fun y=>h4.resolve_left fun n=>n y,?_⟩
  by_cases al:∀ w∈ws,∃ ds,Num w ds
  ·refine .inr ⟨al,?_⟩
   rcases h5 with h5 | h5
   ·obtain⟨w,hw,n⟩:=List.any_eq_true.mp h5
    obtain⟨ds,N⟩:=al w hw;exact absurd N (CF (by simpa using n) ds)
   ·exact h5
  ·refine .inl (J6 fun n=>al fun w hw=>J6 fun m=>n ⟨w,hw,fun ds N=>m ⟨ds,N⟩⟩)
def bR:List Str:=([""," ","come","come  3","come 3 "," come 3","come 03","come 1000000000000","exchange 1","Come 3","exchange 1 2 3","wears","wears 1 2","wears x","rings 1","state ","step 1","plan 1","plan 1 2 3","dance","name","name hey","rings,","go 3 4","come -3","plan 1 x","none","say 3","STATE","named hey hey","wears 03","wears 1000000000000","plan 01 2","plan 1 02","go 03","exchange 1 02","name ","come 3\n","state\n","\n","come 3\ncome 4","exchange 01 2","wears +3","plan 1 2 ","wears 3 ","go 1000000000000"]:List String).map Str.ofString
theorem zM:bR.all DV=true:=by decide +kernel
inductive wy (vs:List V) (H:Hp) (Q:VK) (E_:XK):Prop
 | mk (c:Int) (_:vs=[.int c]) (_:∀ (z:Str)(H':Hp),uY z->ay H H'->Q (.str z) H')
def zc (o:y7):Str:=if o=.done then "done" else Do o
def rB (W:List (Int×Int))(g:Int):Str:=match look W g with | some m=>bS m | none=>"no: NoGuest"
inductive wC (vs:List V) (H:Hp) (Q:VK) (E_:XK):Prop
 | mk (w:Addr) (W:List (Int×Int)) (g:Int) (_:vs=[.ref w,.int g]) (_:H w=some (.dK (dk W))) (_:∀ m,look W g=some m->aJ m) (_:Q (.str (rB W g)) H)
inductive jr (c:HX) (ck ze:Addr) (vs:List V) (H:Hp) (Q:VK) (E_:XK):Prop
 | mk (e:Addr) (z r:Str) (_:vs=[.ref e,.str z,.str r]) (_:oK c ck ze [.ref e,.str z] H (fun v H1=>∃ y,v=.str y/\Q (.bl (decide (y=r))) H1) E0)
def cH (es:List aB)(d:aB):List aB:=if aE (bf es) d=.done then es++[d] else es
inductive FX (vs:List V) (H:Hp) (Q:VK) (E_:XK):Prop
 | mk (t td w m ls:Addr) (H0:Hp) (es:List aB) (d:aB) (L:List Int) (_:vs=[.ref t,.ref td]) (_:H t=some (.tup [.ref w,.ref m,.ref ls])) (_:o7 H0 H w m ls (bf es) (fH es)) (_:H td=some (cj d)) (_:gl es) (_:L.length<=100) (_:∀ x∈es++[d],∀ g∈names x,g∈L/\aJ g) (_:es.length<300) (_:∀ H',o7 H0 H' w m ls (bf (cH es d)) (fH (cH es d))->(∀ b o,H b=some o->b≠w->b≠m->b≠ls->H' b=some o)->Q (.str (zc (aE (bf es) d))) H')
section
variable {c:HX}{ck ze:Addr}{H:Hp}{Q Q':VK}{E E':XK}{vs:List V}
theorem tI.imp {e:Addr}{A:EA}{D:KA}{B:HA}{st:bP}{q:k7}(h:tI c ck ze H e A D B st q Q)(i:∀ v H1,Q v H1->Q' v H1):tI c ck ze H e A D B st q Q':=by
 cases q with
 | deed d=>exact⟨h.1,fun j H' m=>i _ _ (h.2.1 j H' m),fun j H' s=>i _ _ (h.2.2 j H' s)⟩
 | rings=>exact fun H' s=>i _ _ (h H' s)
 | wears g=>exact⟨h.1,fun m e H' s=>i _ _ (h.2.1 m e H' s),fun e H' s=>i _ _ (h.2.2 e H' s)⟩
 | step=>exact fun H' s=>i _ _ (h H' s)
 | state=>exact fun H' s=>i _ _ (h H' s)
theorem oK.imp (h:oK c ck ze vs H Q E)(i:∀ v H1,Q v H1->Q' v H1):oK c ck ze vs H Q' E':=by
 rcases h with ⟨e,A,D,B,st,z,q,h0,h1,h2,h3⟩ | ⟨e,A,D,B,st,z,h0,h1,h2,h3⟩
 ·exact .ask e A D B st z q h0 h1 h2 (h3.imp i)
 ·exact .bad e A D B st z h0 h1 h2 fun H' s=>i _ _ (h3 H' s)
end
def DS (H:Hp)(F:List Addr):Prop:=∀ b∈F,(∀ C dx fs,H b≠some (.ins C dx fs))/\∀ xs,H b≠some (.tup xs)
theorem eJ.kept {c:HX}{ck ze:Addr}{H H':Hp}{e:Addr}{A:EA}{D:KA}{B:HA}{st:bP}{F:List Addr}(x:eJ c ck ze H e A D B st)(k:Kp F H H')(so:DS H F)(dj:∀ b∈B.fp,b∉F):eJ c ck ze H' e A D B st:=by
 have io:∀ {b C dx:Addr}{fs:List (Str×V)},H b=some (.ins C dx fs)->H' b=some (.ins C dx fs):=fun {b C dx fs} h=>k _ _ h fun z=>(so b z).1 _ _ _ h;refine⟨io x.ob,⟨⟨io x.ki.kp.ob,fun ps e=>(by cases e),fun ps e=>(by cases e)⟩,x.ki.hall.kept k (fun z=>(so _ z).1 _ _ _ x.ki.hall.ob) dj (fun b xs h z=>(so b z).2 _ h),x.ki.kB,fun ps e=>(by cases e)⟩,x.px⟩
def wJ (B:HA)(w m ls:Addr):List Addr:=w::m::ls::B.fp
structure DU where
 e:Addr
 t:Addr
 A:EA
 D:KA
 w:Addr
 m:Addr
 ls:Addr
structure jC (c:HX)(ck ze:Addr)(L:List Int)(H:Hp)(u:DU)(B:HA)(es:List aB):Prop where
 ev:eJ c ck ze H u.e u.A u.D B (bf es)
 tt:H u.t=some (.tup [.ref u.w,.ref u.m,.ref u.ls])
 md:o7 (fun _=>none) H u.w u.m u.ls (bf es) (fH es)
 dn:gl es
 nm:∀ d∈es,∀ g∈names d,g∈L/\aJ g
 wB:∀ b∈[u.w,u.m,u.ls],b∉B.fp
section
variable {c:HX}{ck ze:Addr}{L:List Int}{H H1 H2:Hp}{u:DU}{B:HA}{es:List aB}
theorem jC.mono (x:jC c ck ze L H u B es)(s:ay H H1):jC c ck ze L H1 u B es:=⟨x.ev.mono s,s _ _ x.tt,x.md.on s,x.dn,x.nm,x.wB⟩
theorem jJ {w m ls:Addr}{st:bP}{ml:List (Int×Int)}{H0:Hp}(M:o7 H0 H w m ls st ml):∀ b∈[w,m,ls],(∃ o,H b=some o)/\(∀ C dx fs,H b≠some (.ins C dx fs))/\∀ xs,H b≠some (.tup xs):=fun b hb=>by
 obtain⟨as,h3,_⟩:=M.hs;simp only[IC,J8,or_false]at hb;rcases hb with rfl | rfl | rfl
 ·rw[M.hw];exact⟨⟨_,rfl⟩,by intros;simp,by intros;simp⟩
 ·rw[M.hm];exact⟨⟨_,rfl⟩,by intros;simp,by intros;simp⟩
 ·rw[h3];exact⟨⟨_,rfl⟩,by intros;simp,by intros;simp⟩
theorem dP {b w m ls:Addr}:b∈wJ B w m ls↔b∈[w,m,ls]\/b∈B.fp:=by
 unfold wJ;simp only[IC,J8,or_false];constructor
 ·rintro (h | h | h | h)
  ·exact .inl (.inl h)
  ·exact .inl (.inr (.inl h))
  ·exact .inl (.inr (.inr h))
  ·exact .inr h
 ·rintro ((h | h | h) | h)
  ·exact .inl h
  ·exact .inr (.inl h)
  ·exact .inr (.inr (.inl h))
  ·exact .inr (.inr (.inr h))
theorem jC.soft (x:jC c ck ze L H u B es):DS H (wJ B u.w u.m u.ls):=fun b hb=>by
 rcases dP.mp hb with h | h
 ·exact (jJ x.md b h).2
 ·exact⟨fun C dx fs e=>x.ev.ki.hall.noins h e,fun xs e=>x.ev.ki.hall.tup e h⟩
theorem jC.tracked (x:jC c ck ze L H u B es){b:Addr}(hb:b∈wJ B u.w u.m u.ls):∃ o,H b=some o:=by
 rcases dP.mp hb with h | h
 ·exact (jJ x.md b h).1
 ·exact x.ev.ki.hall.tracked h
theorem ym {w m ls:Addr}{st:bP}{ml:List (Int×Int)}{H0:Hp}{F:List Addr}(M:o7 H0 H w m ls st ml)(k:Kp F H H1)(tu:∀ b xs,H b=some (.tup xs)->b∉F)(dj:∀ b∈[w,m,ls],b∉F):o7 H0 H1 w m ls st ml:=by
 obtain⟨as,h3,hp⟩:=M.hs;refine⟨k _ _ M.hw (dj _ (by simp)),k _ _ M.hm (dj _ (by simp)),⟨as,k _ _ h3 (dj _ (by simp)),Paired.mapP hp fun b y e=>?_⟩,M.w0,M.m0,M.s0⟩;rw[il]at e ⊢;exact k _ _ e (tu _ _ e)
theorem jC.kept {F:List Addr}(x:jC c ck ze L H u B es)(k:Kp F H H1)(so:DS H F)(dj:∀ b∈wJ B u.w u.m u.ls,b∉F):jC c ck ze L H1 u B es :=
 ⟨x.ev.kept k so fun b hb=>dj b (dP.mpr (.inr hb)),k _ _ x.tt fun z=>(so _ z).2 _ x.tt,ym x.md k (fun b xs e z=>(so b z).2 _ e) fun b hb=>dj b (dP.mpr (.inl hb)),x.dn,x.nm,x.wB⟩
theorem jC.asked {d:aB}(x:jC c ck ze L H u B es)(M1:o7 (fun _=>none) H1 u.w u.m u.ls (bf (cH es d)) (fH (cH es d)))(k1:∀ b o,H b=some o->b≠u.w->b≠u.m->b≠u.ls->H1 b=some o):Kp [u.w,u.m,u.ls] H H1/\eJ c ck ze H1 u.e u.A u.D B (bf es)/\Tr H H1:=by
 have k:Kp [u.w,u.m,u.ls] H H1:=fun b o e n=>by
  simp only[IC,J8,or_false,not_or]at n;exact k1 b o e n.1 n.2.1 n.2.2
 refine⟨k,x.ev.kept k (fun b hb=>(jJ x.md b hb).2) fun b hb z=>x.wB b z hb,fun b o e=>?_⟩
 by_cases z:b∈[u.w,u.m,u.ls]
 ·exact (jJ M1 b z).1
 ·exact⟨o,k b o e z⟩
theorem jC.next {d:aB}(x:jC c ck ze L H u B es)(hn:∀ g∈names d,g∈L/\aJ g)(M1:o7 (fun _=>none) H1 u.w u.m u.ls (bf (cH es d)) (fH (cH es d)))(k1:∀ b o,H b=some o->b≠u.w->b≠u.m->b≠u.ls->H1 b=some o)
  (mv:(aE (bf es) d=.done/\u7 c ck ze H1 u.e u.A u.D B (after (bf es) d) H2)\/(aE (bf es) d≠.done/\ay H1 H2)) :
  ∃ B',jC c ck ze L H2 u B' (cH es d)/\Kp (wJ B u.w u.m u.ls) H H2/\∀ b∈wJ B' u.w u.m u.ls,b∈wJ B u.w u.m u.ls\/H b=none:=by
 obtain⟨kk,ev,tr⟩:=x.asked M1 k1;have t1:=kk _ _ x.tt fun z=>(jJ x.md _ z).2.2 _ x.tt
 have dn':gl (cH es d):=by
  unfold cH;split
  ·exact lD x.dn ‹_›
  ·exact x.dn
 have nm':∀ y∈cH es d,∀ g∈names y,g∈L/\aJ g:=fun y hy=>by
  unfold cH at hy;split at hy
  ·rcases IN.mp hy with hy | hy
   ·exact x.nm y hy
   ·rw[IF.mp hy];exact hn
  ·exact x.nm y hy
 rcases mv with ⟨hj,B',e2,k2,f2,t2⟩ | ⟨hj,s2⟩
 ·have es':bf (cH es d)=after (bf es) d:=by unfold cH;rw[Iu hj,tp]
  have wB':∀ b∈[u.w,u.m,u.ls],b∉B'.fp:=fun b hb z=>by
   rcases f2 b z with y | y
   ·exact x.wB b hb y
   ·obtain⟨o,q⟩:=(jJ M1 b hb).1
    rw[q]at y;cases y
  refine⟨B',⟨by rw[es'];exact e2,k2 _ _ t1 (ev.ki.hall.tup t1),ym M1 k2 (fun b xs e=>ev.ki.hall.tup e) x.wB,dn',nm',wB'⟩,fun b o e n=>?_,fun b hb=>?_⟩
  ·have n1:b∉[u.w,u.m,u.ls]:=fun z=>n (dP.mpr (.inl z))
   exact k2 _ _ (kk _ _ e n1) fun z=>n (dP.mpr (.inr z))
  ·rcases dP.mp hb with h | h
   ·exact .inl (dP.mpr (.inl h))
   ·rcases f2 b h with y | y
    ·exact .inl (dP.mpr (.inr y))
    ·exact .inr (tr.free y)
 ·have es':bf (cH es d)=bf es:=by unfold cH;rw[Ir hj]
  refine⟨B,⟨by rw[es'];exact ev.mono s2,s2 _ _ t1,M1.on s2,dn',nm',x.wB⟩,fun b o e n=>s2 _ _ (kk _ _ e fun z=>n (dP.mpr (.inl z))),fun b hb=>.inl hb⟩
theorem jC.pre (x:jC c ck ze L H u B es):DR L es:=by
 have:=uz x.dn x.nm es.length
 rwa [Jp]at this
theorem jC.desk (x:jC c ck ze L H u B es)(hL:L.length<=40)(sm:∀ g∈L,aJ g)(he:es.length<=400)(ev:eJ c ck ze H1 u.e u.A u.D B (bf es)):gC c ck ze H1 u.e u.A u.D B (bf es):=by
 have p:=x.pre;have:=uh p.good p.of;exact⟨ev,Cd p.good p.of (by omega) p.sz he,p.good,by omega,fun g hg=>sm g (p.of.1 g hg)⟩
end
theorem sW (es:List aB)(d:aB):(cH es d).length<=es.length+1:=by
 unfold cH;split
 ·rw[IK];exact Ix _
 ·exact Nat.le_succ _
theorem Ct {d:aB}(h:∀ g∈names d,uU g):kG (ou d) (.deed d):=by
 have ls:=zx h;exact⟨Ai fun c hc=>(ls.1 c hc).2,by rw[o9];omega,xi h,h⟩
theorem AN:kG "rings" .rings:=⟨by unfold x3;decide +kernel,by decide +kernel,by rw[yV];decide +kernel,fun g h=>nomatch h⟩
theorem Cu:kG "step" .step:=⟨by unfold x3;decide +kernel,by decide +kernel,by rw[yV];decide +kernel,fun g h=>nomatch h⟩
theorem AO:kG "state" .state:=⟨by unfold x3;decide +kernel,by decide +kernel,by rw[yV];decide +kernel,fun g h=>nomatch h⟩
theorem AQ {g:Int}(h:uU g):kG (Str.ofString "wears "++bS g) (.wears g):=by
 have e:dZ (Str.ofString "wears "++bS g)=[119,101,97,114,115,32]++dZ (bS g):=by rw[B7];rfl
 have ls:=dG h;refine⟨Ai fun c hc=>?_,by rw[o9,e,IK];show 6+_<=900;omega,ny (by decide) ?_,fun x hx=>by rw[IF.mp hx];exact h⟩
 ·rw[e]at hc
  rcases IN.mp hc with hc | hc
  ·exact (by decide:∀ c∈[119,101,97,114,115,32],c<128) c hc
  ·have:=ls.1 c hc;omega
 ·show _=iA 32 (dZ (Str.ofString "wears "++bS g))
  rw[e]
  show _=iA 32 (119::101::97::114::115::32::dZ (bS g))
  rw[bE,bE,bE,bE,bE,bE,uO (fun hc=>by have:=ls.1 _ hc;omega)];rfl
section
variable {c:HX}{ck ze:Addr}{L:List Int}{H H1 H2:Hp}{u v:DU}{B B':HA}{es es':List aB}{lq:Addr}{as:List Addr}{ds:List aB}{Q:VK}{E:XK}
theorem DB {x y:Str}(h:x=y)(q:Q (.bl true) H):∃ z,V.str x=.str z/\Q (.bl (decide (z=y))) H:=⟨x,rfl,by rw[ID h];exact q⟩
theorem qX (x:jC c ck ze L H u B es)(hL:L.length<=40)(sm:∀ g∈L,aJ g)(he:es.length<=400)(k:∀ H2,ay H H2->Q (.bl true) H2):jr c ck ze [.ref u.e,.str "rings",.str (iw (cu (bf es).worn))] H Q E :=
 ⟨u.e,_,_,rfl,.ask u.e u.A u.D B (bf es) _ .rings rfl (x.desk hL sm he x.ev) AN fun H' s=>DB rfl (k H' s)⟩
theorem zX (x:jC c ck ze L H u B es)(hL:L.length<=40)(sm:∀ g∈L,aJ g)(he:es.length<=400)(k:∀ H2,ay H H2->Q (.bl true) H2):jr c ck ze [.ref u.e,.str "step",.str "no: NoPlan"] H Q E :=
 ⟨u.e,_,_,rfl,.ask u.e u.A u.D B (bf es) _ .step rfl (x.desk hL sm he x.ev) Cu fun H' s=>DB rfl (k H' s)⟩
theorem qY (x:jC c ck ze L H u B es)(hL:L.length<=40)(sm:∀ g∈L,aJ g)(he:es.length<=400)(k:∀ H2,ay H H2->Q (.bl true) H2):jr c ck ze [.ref u.e,.str "state",.str "none 0"] H Q E :=
 ⟨u.e,_,_,rfl,.ask u.e u.A u.D B (bf es) _ .state rfl (x.desk hL sm he x.ev) AO fun H' s=>DB rfl (k H' s)⟩
theorem Bu {z:Str}(x:jC c ck ze L H u B es)(hL:L.length<=40)(sm:∀ g∈L,aJ g)(he:es.length<=400)(b:uY z)(k:∀ H2,ay H H2->Q (.bl true) H2):jr c ck ze [.ref u.e,.str z,.str "no: NoText"] H Q E :=
 ⟨u.e,_,_,rfl,.bad u.e u.A u.D B (bf es) _ rfl (x.desk hL sm he x.ev) b fun H' s=>DB rfl (k H' s)⟩
theorem xM {g:Int}(x:jC c ck ze L H u B es)(hL:L.length<=40)(sm:∀ g∈L,aJ g)(he:es.length<=400)(hg:uU g)(sg:aJ g)(k:∀ H2,ay H H2->Q (.bl true) H2):jr c ck ze [.ref u.e,.str (Str.ofString "wears "++bS g),.str (rB (bf es).worn g)] H Q E :=
 ⟨u.e,_,_,rfl,.ask u.e u.A u.D B (bf es) _ (.wears g) rfl (x.desk hL sm he x.ev) (AQ hg) ⟨sg,fun m hm H' s=>DB (by unfold rB;rw[hm]) (k H' s),fun hm H' s=>DB (by unfold rB;rw[hm]) (k H' s)⟩⟩
structure tL (c:HX)(ck ze:Addr)(L:List Int)(H:Hp)(u v:DU)(B:HA)(es:List aB)(B':HA)(es':List aB)(lq:Addr)(as:List Addr)(ds:List aB):Prop where
 x:jC c ck ze L H u B es
 y:jC c ck ze L H v B' es'
 dj:∀ b∈wJ B u.w u.m u.ls,b∉wJ B' v.w v.m v.ls
 n1:lq∉wJ B u.w u.m u.ls
 n2:lq∉wJ B' v.w v.m v.ls
 hq:H lq=some (.lst (as.map V.ref))
 hp:Paired (fun a x=>H a=some (cj x)) as ds
theorem tL.swap (t:tL c ck ze L H u v B es B' es' lq as ds):tL c ck ze L H v u B' es' B es lq as ds:=⟨t.y,t.x,fun b h1 h2=>t.dj b h2 h1,t.n2,t.n1,t.hq,t.hp⟩
theorem tL.mono (t:tL c ck ze L H u v B es B' es' lq as ds)(s:ay H H1):tL c ck ze L H1 u v B es B' es' lq as ds:=⟨t.x.mono s,t.y.mono s,t.dj,t.n1,t.n2,s _ _ t.hq,Paired.mapP t.hp fun _ _ e=>s _ _ e⟩
theorem tL.said {d:aB}(t:tL c ck ze L H u v B es B' es' lq as ds)(hL:L.length<=40)(sm:∀ g∈L,aJ g)(he:es.length<=400)(hn:∀ g∈names d,g∈L)(gs:∀ g∈names d,uU g)
  (M1:o7 (fun _=>none) H1 u.w u.m u.ls (bf (cH es d)) (fH (cH es d))) (k1:∀ b o,H b=some o->b≠u.w->b≠u.m->b≠u.ls->H1 b=some o)
  (k:∀ B1 H2,tL c ck ze L H2 u v B1 (cH es d) B' es' lq as ds->Q (.bl true) H2):jr c ck ze [.ref u.e,.str (ou d),.str (zc (aE (bf es) d))] H1 Q E:=by
 obtain⟨_,ev,_⟩:=t.x.asked M1 k1;have hn2:∀ g∈names d,g∈L/\aJ g:=fun g hg=>⟨hn g hg,sm g (hn g hg)⟩
 have fin:∀ H2,((aE (bf es) d=.done/\u7 c ck ze H1 u.e u.A u.D B (after (bf es) d) H2)\/(aE (bf es) d≠.done/\ay H1 H2))->Q (.bl true) H2:=fun H2 mv=>by
  obtain⟨B1,X,kp,fr⟩:=t.x.next hn2 M1 k1 mv
  have nw:∀ {b:Addr}{F:List Addr},(∃ o,H b=some o)->b∉wJ B u.w u.m u.ls->b∉wJ B1 u.w u.m u.ls:=fun {b F} ⟨o,e⟩ n z=>by
   rcases fr b z with y | y
   ·exact n y
   ·rw[e]at y;cases y
  refine k B1 H2 ⟨X,t.y.kept kp t.x.soft (fun b hb z=>t.dj b z hb),fun b hb z=>nw (F:=[]) (t.y.tracked z) (fun y=>t.dj b y z) hb,nw (F:=[]) ⟨_,t.hq⟩ t.n1,t.n2,kp _ _ t.hq t.n1,Paired.mapP t.hp fun a y e=>?_⟩;rw[il]at e ⊢;exact kp _ _ e fun z=>(t.x.soft _ z).2 _ e
 refine⟨u.e,_,_,rfl,.ask u.e u.A u.D B (bf es) _ (.deed d) rfl (t.x.desk hL sm he ev) (Ct gs) ⟨fun g hg=>(hn2 g hg).2,fun hj H2 mv=>DB ?_ (fin H2 (.inl ⟨hj,mv⟩)),fun hj H2 s=>DB ?_ (fin H2 (.inr ⟨hj,s⟩))⟩⟩
 ·unfold zc;rw[Iu hj]
 ·unfold zc;rw[Ir hj]
end
section
variable {c:HX}{ck ze:Addr}{L:List Int}{G G1 G2 G3:Hp}{u v:DU}{B B':HA}
theorem sV {w m ls t:Addr}(hw:G w=none)(hm:upd G w (.dK []) m=none)(hl:upd (upd G w (.dK [])) m (.dT []) ls=none)(ht:upd (upd (upd G w (.dK [])) m (.dT [])) ls (.lst []) t=none) :
  ay G (upd (upd (upd (upd G w (.dK [])) m (.dT [])) ls (.lst [])) t (.tup [.ref w,.ref m,.ref ls]))/\o7 (fun _=>none) (upd (upd (upd (upd G w (.dK [])) m (.dT [])) ls (.lst [])) t (.tup [.ref w,.ref m,.ref ls])) w m ls (bf []) (fH [])/\∀ b∈[w,m,ls],G b=none:=by
 have s1:=ak (o:=.dK []) hw;have s2:=ak (o:=.dT []) hm;have s3:=ak (o:=.lst []) hl;have s4:=ak (o:=.tup [.ref w,.ref m,.ref ls]) ht;refine⟨((s1.trans s2).trans s3).trans s4,⟨(s2.trans (s3.trans s4)) _ _ ac,(s3.trans s4) _ _ ac,⟨[],s4 _ _ ac,.nil⟩,rfl,rfl,rfl⟩,fun b hb=>?_⟩;simp only[IC,J8,or_false]at hb;rcases hb with rfl | rfl | rfl
 ·exact hw
 ·exact s1.free hm
 ·exact (s1.trans s2).free hl
theorem jC.new {e t w m ls:Addr}{A:EA}{D:KA}(x:eJ c ck ze G e A D B ⟨[],[],[],[]⟩)(s:ay G G1)(ht:G1 t=some (.tup [.ref w,.ref m,.ref ls]))(M:o7 (fun _=>none) G1 w m ls (bf []) (fH []))(fr:∀ b∈[w,m,ls],G b=none):jC c ck ze L G1 ⟨e,t,A,D,w,m,ls⟩ B [] :=
 ⟨x.mono s,ht,M,vf,fun d h=>(nomatch h),fun b hb z=>by
  obtain⟨o,q⟩:=x.ki.hall.tracked z
  rw[fr b hb]at q;cases q⟩
theorem tL.new {lq:Addr}{as:List Addr}{ds:List aB}(x:jC c ck ze L G1 u B [])(y:jC c ck ze L G2 v B' [])(s:ay G1 G2)(fr:∀ b∈wJ B' v.w v.m v.ls,G1 b=none)(s3:ay G2 G3)(hl:G2 lq=none)(hq:G3 lq=some (.lst (as.map V.ref)))(hp:Paired (fun a x=>G3 a=some (cj x)) as ds):tL c ck ze L G3 u v B [] B' [] lq as ds:=by
 have un:∀ {H:Hp}{b:Addr},(∃ o,H b=some o)->H b=none->False:=fun {H b} ⟨o,q⟩ z=>by rw[z]at q;cases q
 exact⟨x.mono (s.trans s3),y.mono s3,fun b h1 h2=>un (x.tracked h1) (fr b h2),fun z=>un ((x.mono s).tracked z) hl,fun z=>un (y.tracked z) hl,hq,hp⟩
end
theorem br {c:Bool}{R:Hp->Prop}{P:Hp->Prop}{H:Hp}{A N:Prop}(hp:P H)(rest:∀ H',P H'->R H')(yes:c=true->(∀ H',P H'->R H')->A):if c=true then A else if false=true then N else R H:=by
 cases c with
 | true=>rw[Iu rfl];exact yes rfl rest
 | false=>rw[Ir Iz,Ir Iz];exact rest H hp
theorem HS {c:Bool}{A R:Hp->Option V->Prop}{P:Hp->Prop}(rest:∀ H v,P H->R H v)(yes:c=true->(∀ H v,P H->R H v)->∀ H v,P H->A H v):∀ H v,P H->if c=true then A H v else R H v:=fun H v p=>by
 cases c with
 | true=>rw[Iu rfl];exact yes rfl rest H v p
 | false=>rw[Ir Iz];exact rest H v p
theorem tL.wl {c:HX}{ck ze:Addr}{L:List Int}{H:Hp}{u v:DU}{B B':HA}{es es':List aB}{lq:Addr}{as:List Addr}{ds:List aB}(t:tL c ck ze L H u v B es B' es' lq as ds)(hL:L.length<=40):(bf es).worn.length<64:=by
 have p:=t.x.pre;have:=uh p.good p.of;omega
theorem Ef {g:Int}(h:uU g):aJ g:=by
 unfold uU at h
 show g.natAbs<10 ^ 100
 have:(10:Nat) ^ 12<=10 ^ 100:=Nat.pow_le_pow_right (by decide) (by decide);omega
theorem Cg {g:Int}(h:uU g):(Str.ofString "wears ").length+(Str.ofString (toString g)).length<=sizeLine:=by
 have e:(Str.ofString "wears ").length=6:=by decide +kernel
 have l:=(dG h).2;rw[<-o9]at l;have l:(Str.ofString (toString g)).length<=12:=l;have sl:sizeLine=16777216:=JQ;omega
end Wz
set_option maxRecDepth 1000000
set_option maxRecDepth 1000000
set_option maxHeartbeats 8000000
set_option maxRecDepth 1000000
set_option maxHeartbeats 8000000
set_option maxHeartbeats 8000000
namespace L2
open PySem PySem.Spec PyProof.Rows
theorem CZ {X:Cx}(i:Nat){x:Str}{es:List Expr}{ta:TA}{p1 p2 p3:Pos}{rest:List Stmt}{u:TS}(hN:X.N.Nodup)(h1:QA X es ta)(hr:Df X rest u)(hi:X.N[i]? = some x:=by rfl)(hx:De X.env.scope x:=by first | exact Or.inl rfl | exact Or.inr rfl)
  (hf:X.fn x=true\/X.env.scope.names.lookup x=some .local:=by first | exact .inl rfl | exact .inr rfl | assumption) :
  Df X (.Assign [.Name x p1] (.List es p2) p3::rest) (C8 (BI (E1 ta) (jc i)) u) :=
 ⟨ae (bD i hN (dz h1.h) hi hx xX hf) hr.h⟩
theorem iu {X:Cx}(i:Nat){x:Str}{es:List Expr}{ta:TA}{p1 p2 p3 p4 p5:Pos}{rest:List Stmt}{u:TS}(hN:X.N.Nodup)(h1:QA X es ta)(hv:PE X (.Name x p4) (z7 i))(hr:Df X rest u)(hi:X.N[i]? = some x:=by rfl)(hx:De X.env.scope x:=by first | exact Or.inl rfl | exact Or.inr rfl)
  (hf:X.fn x=true\/X.env.scope.names.lookup x=some .local:=by first | exact .inl rfl | exact .inr rfl | assumption) :
  Df X (.Assign [.Name x p1] (.BinOp (.Name x p4) .Add (.List es p2) p5) p3::rest) (C8 (BI (F8 FT (z7 i) (E1 ta)) (jc i)) u) :=
 ⟨ae (bD i hN (aH xE hv (dz h1.h)) hi hx rfl hf) hr.h⟩
theorem Bk {X:Cx}{st:Stmt}{t u:TS}{rest:List Stmt}(h:PS X st t)(hr:Df X rest u):Df X (st::rest) (C8 t u):=⟨ae h hr.h⟩
theorem CY {X:Cx}{st:Stmt}{t:TS}(h:PS X st t):Df X [st] t:=⟨ag h⟩
end L2
namespace Wk50
open PySem L2 Wz
def eV (i:Nat):Stmt:=PySem.Challenge.pw_lastwaltz_k50_the_desk.main.body.getD i (.Pass ⟨0,0,0,0⟩)
structure Txt (mg:Str->Option Value):Prop where
 len:mg "len" = none
 range:mg "range" = none
 isinstance:mg "isinstance" = none
 tuple:mg "tuple" = none
 list:mg "list" = none
 int:mg "int" = none
 bool:mg "bool" = none
 all:mg "all" = none
 any:mg "any" = none
 sorted:mg "sorted" = none
 reversed:mg "reversed" = none
 bset:mg "set" = none
 bmin:mg "min" = none
 bmax:mg "max" = none
 dict:mg "dict" = none
 zip:mg "zip" = none
 enumerate:mg "enumerate" = none
 sum:mg "sum" = none
 str:mg "str" = none
section
variable {P:Program}{w:World}{K:PySem.W.Frag}{mg:Str->Option Value}{base:Heap}{c:HX}{co cq ck f P0 P1 cB cT kd cL cF cs cX fX cb ze dl:Addr}{yy:List Addr}{qz:SzA}{lp:Pos}{ql:Str}{fd:FuncData}
abbrev fb:Stmt:=aZ (eV 15) 0
abbrev qu:List Str:=["self","guest"]
theorem o6:au qu ["self","guest"] (ai fb):=eL
abbrev fZ:Stmt:=aZ (eV 16) 0
abbrev rW:List Str:=["self","place"]
theorem rj:au rW ["self","place"] (ai fZ):=eL
abbrev iC:Stmt:=aZ (eV 18) 0
abbrev vF:List Str:=["self"]
theorem uE:au vF ["self"] (ai iC):=eL
abbrev iB:Stmt:=aZ (eV 18) 1
abbrev vE:List Str:=["self","guest"]
theorem uD:au vE ["self","guest"] (ai iB):=eL
abbrev kU:Stmt:=aZ (eV 18) 2
abbrev zF:List Str:=["self","guest"]
theorem xN:au zF ["self","guest"] (ai kU):=eL
abbrev et:Stmt:=aZ (eV 18) 3
abbrev oU:List Str:=["self","one","other","mask","other_mask"]
theorem eh:au oU ["self","one","other"] (ai et):=eL
abbrev gM:Stmt:=aZ (eV 18) 4
abbrev ue:List Str:=["self","guest","mask"]
theorem sd:au ue ["self","guest","mask"] (ai gM):=eL
abbrev er:Stmt:=aZ (eV 18) 5
abbrev oS:List Str:=["self","one","other","circle"]
theorem hV:au oS ["self","one","other"] (ai er):=eL
abbrev fS:Stmt:=aZ (eV 18) 7
abbrev rP:List Str:=["self"]
theorem rc:au rP ["self"] (ai fS):=eL
abbrev gO:Stmt:=aZ (eV 18) 8
abbrev uf:List Str:=["self","guest"]
theorem se:au uf ["self","guest"] (ai gO):=eL
abbrev js:Stmt:=aZ (eV 18) 10
abbrev xo:List Str:=["self","one","other"]
theorem wq:au xo ["self","one","other"] (ai js):=eL
abbrev fT:Stmt:=aZ (eV 18) 14
abbrev rQ:List Str:=["self"]
theorem re:au rQ ["self"] (ai fT):=eL
abbrev dB:Stmt:=aZ (eV 31) 0
abbrev lM:List Str:=["self"]
theorem kT:au lM ["self"] (ai dB):=eL
abbrev dY:Stmt:=eV 37
abbrev km:List Str:=["word"]
theorem rn:au km ["word"] (ai dY):=eL
abbrev kW:Stmt:=eV 46
abbrev zG:List Str:=["hall","deed"]
theorem xO:au zG ["hall","deed"] (ai kW):=eL
abbrev fA:Stmt:=eV 48
abbrev oz:List Str:=["line","words","numbers"]
theorem iy:au oz ["line"] (ai fA):=eL
abbrev jR:Stmt:=eV 50
abbrev vM:List Str:=["hall"]
theorem zY:au vM ["hall"] (ai jR):=eL
abbrev iI:Stmt:=eV 51
abbrev vL:List Str:=["hall","guest","ring","mask"]
theorem fu:au vL ["hall","guest"] (ai iI):=eL
abbrev jx:Stmt:=eV 52
abbrev xw:List Str:=["hall","placed","rings","guest","ring","other"]
theorem dI:au xw ["hall"] (ai jx):=eL
abbrev fV:Stmt:=aZ (eV 69) 0
abbrev rS:List Str:=["self","hall"]
theorem rh:au rS ["self","hall"] (ai fV):=eL
abbrev e9:Stmt:=aZ (eV 69) 2
abbrev qt:List Str:=["self"]
theorem o5:au qt ["self"] (ai e9):=eL
abbrev c6:Stmt:=aZ (eV 69) 4
abbrev jV:List Str:=["self"]
theorem jp:au jV ["self"] (ai c6):=eL
abbrev fW:Stmt:=aZ (eV 69) 5
abbrev rT:List Str:=["self"]
theorem ri:au rT ["self"] (ai fW):=eL
abbrev gP:Stmt:=aZ (eV 69) 6
abbrev ug:List Str:=["self"]
theorem sf:au ug ["self"] (ai gP):=eL
abbrev fY:Stmt:=aZ (eV 69) 7
abbrev rV:List Str:=["self","pair"]
theorem jq:au rV ["self"] (ai fY):=eL
abbrev fU:Stmt:=aZ (eV 69) 8
abbrev rR:List Str:=["self","guest"]
theorem rg:au rR ["self","guest"] (ai fU):=eL
abbrev fw:Stmt:=aZ (eV 69) 9
abbrev ox:List Str:=["self","guest"]
theorem uF:au ox ["self","guest"] (ai fw):=eL
abbrev dC:Stmt:=aZ (eV 69) 10
abbrev lN:List Str:=["self","one","other","pair"]
theorem fM:au lN ["self","one","other"] (ai dC):=eL
abbrev eI:Stmt:=eV 72
abbrev lP:List Str:=["hall","rings"]
theorem kx:au lP ["hall"] (ai eI):=eL
abbrev e8:Stmt:=aZ (eV 73) 0
abbrev qr:List Str:=["self"]
theorem o4:au qr ["self"] (ai e8):=eL
abbrev fR:Stmt:=aZ (eV 73) 1
abbrev rO:List Str:=["self","line"]
theorem q8:au rO ["self","line"] (ai fR):=eL
abbrev dU:Stmt:=aZ (eV 73) 2
abbrev m5:List Str:=["self","line","first","blank","rest","words"]
theorem bV:au m5 ["self","line"] (ai dU):=eL
abbrev cG:Stmt:=aZ (eV 73) 5
abbrev iO:List Str:=["self","words","one","other"]
theorem cD:au iO ["self","words"] (ai cG):=eL
abbrev gf:Stmt:=eV 75
abbrev rX:List Str:=["_law_script","_law_k"]
theorem rk:au rX ["_law_script","_law_k"] (ai gf):=eL
abbrev jw:Stmt:=eV 76
abbrev xv:List Str:=["_law_cell"]
theorem wt:au xv ["_law_cell"] (ai jw):=eL
abbrev iF:Stmt:=eV 77
abbrev vI:List Str:=["_law_cell","_law_many","_law_base","_law_left","_law_row","_law_count","_law_k","_law_now"]
theorem bi:au vI ["_law_cell","_law_many","_law_base"] (ai iF):=eL
abbrev dX:Stmt:=eV 78
abbrev m6:List Str:=["_law_script","_law_start","_law_most","_law_base","_law_row","_law_cell","_law_drawn"]
theorem cY:au m6 ["_law_script","_law_start","_law_most","_law_base"] (ai dX):=eL
abbrev iG:Stmt:=eV 79
abbrev vJ:List Str:=["_law_k","_law_cell","_law_left","_law_turn","_law_number"]
theorem fq:au vJ ["_law_k","_law_cell"] (ai iG):=eL
abbrev kY:Stmt:=eV 80
abbrev zI:List Str:=["_law_one","_law_other"]
theorem xP:au zI ["_law_one","_law_other"] (ai kY):=eL
abbrev kX:Stmt:=eV 81
abbrev zH:List Str:=["_law_worn","_law_met","_law_deed_here","_law_guest_here"]
theorem rm:au zH ["_law_worn","_law_met","_law_deed_here"] (ai kX):=eL
abbrev iD:Stmt:=eV 82
abbrev vG:List Str:=["_law_worn","_law_met","_law_deed_here","_law_kept"]
theorem lY:au vG ["_law_worn","_law_met","_law_deed_here"] (ai iD):=eL
abbrev jt:Stmt:=eV 83
abbrev xr:List Str:=["_law_drawn","_law_many","_law_cell","_law_one"]
theorem oG:au xr ["_law_drawn","_law_many","_law_cell"] (ai jt):=eL
abbrev iE:Stmt:=eV 84
abbrev vH:List Str:=["_law_cell"]
theorem uG:au vH ["_law_cell"] (ai iE):=eL
abbrev dW:Stmt:=eV 85
abbrev jg:List Str:=["_law_script","_law_cell","_law_many","_law_first","_law_deeds_here"]
theorem dR:au jg ["_law_script"] (ai dW):=eL
abbrev fz:Stmt:=eV 86
abbrev oy:List Str:=["_law_worn"]
theorem uH:au oy ["_law_worn"] (ai fz):=eL
abbrev iH:Stmt:=eV 87
abbrev vK:List Str:=["_law_worn","_law_seen","_law_rings_here","_law_guest_here","_law_ring","_law_here"]
theorem cE:au vK ["_law_worn"] (ai iH):=eL
abbrev ju:Stmt:=eV 88
abbrev xt:List Str:=["_law_state","_law_deeds_here","_law_worn","_law_met","_law_story","_law_deed_here"]
theorem eU:au xt ["_law_state","_law_deeds_here"] (ai ju):=eL
abbrev dD:Stmt:=eV 89
abbrev lO:List Str:=["_law_state","_law_deed_here","_law_due_here"]
theorem fP:au lO ["_law_state","_law_deed_here"] (ai dD):=eL
abbrev cZ:Stmt:=eV 90
abbrev hJ:List Str:=["_law_worn","_law_rings_here"]
theorem gA:au hJ ["_law_worn"] (ai cZ):=eL
abbrev dq:Stmt:=eV 91
abbrev kL:List Str:=["_law_worn","_law_guest_here"]
theorem jX:au kL ["_law_worn","_law_guest_here"] (ai dq):=eL
abbrev jv:Stmt:=eV 92
abbrev xu:List Str:=["_law_evening","_law_line","_law_due_here","_law_found"]
theorem oH:au xu ["_law_evening","_law_line","_law_due_here"] (ai jv):=eL
abbrev eC:Stmt:=eV 93
abbrev oV:List Str:=["_law_cell","_law_bad"]
theorem aY:au oV ["_law_cell"] (ai eC):=eL
abbrev uP:Stmt:=eV 94
abbrev Dm:List Str:=["_law_script","_law_desk","_law_state","_law_other","_law_second","_law_cell","_law_bend","_law_place","_law_deed_here","_law_line","_law_guest_here"]
theorem fO:au Dm ["_law_script"] (ai uP):=eL
variable (T:Txt mg)(U:HT K mg c)(VM:HM K c)(UO:Fh K mg w c cq cX fX ck cb ze dl yy)
include T U VM UO
theorem oZ (F:dt K "__init__" "NoGuest.__init__" fb f fd) : aR P w K mg base c0 1 f fd ["self","guest"] (BD c.cN "guest"):=by
 refine F.ok o6 (fun vs H Q E h=>?_) (fun cdv A outer s H vs Q E hr h=>?_)
 ·obtain⟨ea,g,rfl,_⟩:=h
  rfl
 ·obtain⟨ea,g,rfl,hg,hx,k⟩:=h
  refine⟨_,ae (aN (v2 (fI:=c.fN) rfl U.mW U.wS U.wR U.wI (ar (pv 0) (ar (ir (bC (eF (pv 1)) (bC am (kP)))) aD)))) (
   ag (wg (pv 0) (pv 1) rfl)),?_⟩
  refine⟨_,rfl,_,rfl,g,rfl,hg,fun y hy=>⟨y,rfl,hy,_,rfl,by decide,fun z=>⟨ea,c.cN,_,rfl,hx,U.eN,?_⟩⟩⟩;exact⟨_,rfl,_,rfl,ea,c.cN,rfl,hx,U.gN,k⟩
theorem qL (F:dt K "__init__" "NoText.__init__" fZ f fd) : aR P w K mg base c0 1 f fd ["self","place"] (BD cX "place"):=by
 refine F.ok rj (fun vs H Q E h=>?_) (fun cdv A outer s H vs Q E hr h=>?_)
 ·obtain⟨ea,g,rfl,_⟩:=h
  rfl
 ·obtain⟨ea,g,rfl,hg,hx,k⟩:=h
  refine⟨_,ae (aN (v2 (fI:=fX) rfl U.mW U.wS U.wR U.wI (ar (pv 0) (ar (ir (bC am (bC (eF (pv 1)) (bC am (kP))))) aD)))) (
   ag (wg (pv 0) (pv 1) rfl)),?_⟩
  refine⟨_,rfl,_,rfl,by decide,_,rfl,g,rfl,hg,fun y hy=>⟨y,rfl,hy,_,rfl,by decide,fun z=>⟨ea,cX,_,rfl,hx,UO.eQ,?_⟩⟩⟩;exact⟨_,rfl,_,rfl,ea,cX,rfl,hx,UO.gQ,k⟩
theorem uj (F:dt K "__init__" "Hall.__init__" iC f fd) : aR P w K mg base c0 1 f fd ["self"] (BE c.C):=by
 refine F.ok uE (fun vs H Q E h=>?_) (fun cdv A outer s H vs Q E hr h=>?_)
 ·obtain⟨p,dx,rfl,_⟩:=h
  rfl
 ·obtain⟨p,dx,rfl,hp,k⟩:=h
  refine⟨_,ae (di (pv 0) c5 rfl) (
   ae (di (pv 0) c5 rfl) (
   ae (di (pv 0) c5 rfl) (
   ag (di (pv 0) (dz aD) rfl)))),?_⟩
  intro w hw;have n1:p≠w:=ah hp hw;refine⟨_,rfl,p,c.C,dx,[],rfl,(by rw[af n1];exact hp),U.cl,U.nW,(by show 0<1000;decide),?_⟩;intro h hh;have n2:p≠h:=ah ac hh;refine⟨_,rfl,p,c.C,dx,_,rfl,(by rw[af n2,ac]),U.cl,U.nH,(by show 1<1000;decide),?_⟩;intro cc hc;have n3:p≠cc:=ah ac hc;refine⟨_,rfl,p,c.C,dx,_,rfl,(by rw[af n3,ac]),U.cl,U.nC,(by show 2<1000;decide),?_⟩;refine⟨by show 0<=sizeLine;exact Jg _,fun d hd=>?_⟩;have n4:p≠d:=ah ac hd;refine⟨_,rfl,p,c.C,dx,_,rfl,(by rw[af n4,ac]),U.cl,U.nD,(by show 3<1000;decide),?_⟩;rw[af (IJ n2)]at hh;have wh:w≠h:=ah ac hh;rw[af (IJ n3)]at hc;have hcw:h≠cc:=ah ac hc;rw[af (IJ hcw),af (IJ n3)]at hc;have hwc:w≠cc:=ah ac hc;rw[af (IJ n4)]at hd;have hdc:cc≠d:=ah ac hd;rw[af (IJ hdc),af (IJ n4)]at hd;have hdh:h≠d:=ah ac hd;rw[af (IJ hdh),af (IJ n4)]at hd;have hdw:w≠d:=ah ac hd;rw[af (IJ hdw)]at hd;rw[af (IJ hwc)]at hc;rw[af (IJ wh)]at hh;refine k ⟨dx,w,h,cc,d,[]⟩ _ ⟨ac,?_,?_,?_,?_,.nil,[],?_,.nil⟩ (fun b o e hb=>?_) fun b hb=>?_
  ·simp[HA.fp,wh,hwc,hdw,hcw,hdh,hdc]
  ·rw[af (IJ n1),af hdw,af (IJ n1),af hwc,af (IJ n1),af wh,af (IJ n1),ac]
   rfl
  ·rw[af (IJ n2),af hdh,af (IJ n2),af hcw,af (IJ n2),ac]
   rfl
  ·rw[af (IJ n3),af hdc,af (IJ n3),ac]
   rfl
  ·rw[af (IJ n4),ac]
   rfl
  ·rw[af hb,af (ah e hd),af hb,af (ah e hc),af hb,af (ah e hh),af hb,af (ah e hw)]
   exact e
  ·simp[HA.fp]at hb
   rcases hb with rfl | rfl | rfl | rfl
   ·exact hw
   ·exact hh
   ·exact hc
   ·exact hd
theorem ui (F:dt K "come" "Hall.come" iB f fd)(cx:aM P w K mg base c0 c.C "dress" 1 ["self","guest","mask"] (uK c.C)) : aR P w K mg base (h9 P w) 2 f fd ["self","guest"] (Bw c):=by
 refine F.okX uD (fun vs H Q E h=>?_) (fun cdv A outer s H vs Q E hr h=>?_)
 ·obtain⟨p,B,st,g,rfl,_⟩:=h
  rfl
 ·obtain⟨p,B,st,g,rfl,S,ft,hg,k⟩:=h
  have hu:=eO hr
  refine⟨_,ae (aO (ed (qQ hu (pv 1) (aX (pv 0) rfl))) (ag (jm U.eA fF rfl hr.hd rfl U.mA (ir (bC (eF (pv 1)) (bC am (kP)))))) ax) (
   ae (aN (cU cx (pv 0) U.cl hr c4 (ar (pv 1) (ar (pv 1) aD)))) (
   ag (aN (eR Jd Ja Jb bK (aX (pv 0) rfl) (ar (bZ (ar (am) (ar (pv 1) (aD)))) aD))))),?_⟩
  have g1:c3 H B.w (.int g) ((look st.worn g).map V.int):=by rw[<-db];exact c3.k (k:=Sum.inl g) S.w
  refine⟨_,rfl,_,rfl,p,c.C,B.dx,_,_,rfl,S.ob,U.cl,U.nW,zq _,B.w,_,rfl,g1,_,rfl,?_⟩
  cases e:look st.worn g with
  | some m =>
   refine bc ⟨_,rfl,g,rfl,hg,fun y hy=>⟨y,rfl,hy,_,rfl,by decide,fun z=>?_⟩⟩;exact fE (o:=.already) k (by simp[aE,e]) (by simp) _ (fun _ _ z=>z)
  | none =>
   refine aw ⟨_,rfl,p,B.dx,_,rfl,S.ob,tY _ (by decide +kernel),_,rfl,_,rfl,p,B,st,g,g,rfl,S,by have:=ft.w;omega,by have:=ft.h;omega,?_⟩;have S1:=tW (tX S (put st.worn g g)) (put st.hold g g);have k1:Kp B.fp H (upd (upd H B.w (.dK (dk (put st.worn g g)))) B.h (.dK (dk (put st.hold g g)))):=(fG yo).on (fG yn);have t1:Tr H (upd (upd H B.w (.dK (dk (put st.worn g g)))) B.h (.dK (dk (put st.hold g g)))):=(Tr.refl.upd _ _).upd _ _;generalize upd (upd H B.w (.dK (dk (put st.worn g g)))) B.h (.dK (dk (put st.hold g g)))=H1 at S1 k1 t1;obtain⟨as,hd,hp⟩:=id S1.d;have hl:as.length=st.deeds.length:=IU hp;refine⟨_,rfl,p,c.C,B.dx,_,_,rfl,S1.ob,U.cl,U.nD,Ci _,.inl ⟨rfl,_,bx.of hd⟩,_,rfl,by show 2<=sizeLine;decide,fun t ht=>?_⟩;have td:B.d≠t:=ah hd ht;refine⟨B.d,_,_,rfl,rfl,by rw[af td];exact hd,by rw[Iq];exact aQ (by have:=ft.d;omega),?_⟩;refine mG k (by simp[aE,e]) _ ⟨B,mJ S1 hd hp (.come g) ht,(k1.on (xc ht)).on (fG AU),fun b hb=>.inl hb,(t1.upd _ _).upd _ _⟩
theorem xA (F:dt K "go" "Hall.go" kU f fd)(aI:aM P w K mg base (h9 P w) c.C "wears" 3 ["self","guest"] (iz c)) : aR P w K mg base (h9 P w) 4 f fd ["self","guest"] (FY c):=by
 refine F.okX xN (fun vs H Q E h=>?_) (fun cdv A outer s H vs Q E hr h=>?_)
 ·obtain⟨p,B,st,g,rfl,_⟩:=h
  rfl
 ·obtain⟨p,B,st,g,rfl,S,ft,hg,hm,k⟩:=h
  refine⟨_,ae (aO (az ji (cU aI (pv 0) U.cl hr bU (ar (pv 1) aD)) (pv 1) (aG _)) (ag (jm U.eM fF rfl hr.hd rfl U.mM (ir (bC (eF (pv 1)) (bC am (bC (eF (cU aI (pv 0) U.cl hr bU (ar (pv 1) aD))) (kP))))))) ax) (
   ae (aN (qS (aX (pv 0) rfl) (pv 1) ⟨rfl,rfl,rfl,rfl⟩)) (
   ae (aN (qS (aX (pv 0) rfl) (pv 1) ⟨rfl,rfl,rfl,rfl⟩)) (
   ag (aN (eR Jd Ja Jb bK (aX (pv 0) rfl) (ar (bZ (ar (am) (ar (pv 1) (aD)))) aD)))))),?_⟩
  have no:=AF B (m:="wears") (by decide +kernel) (by decide +kernel) (by decide +kernel) (by decide +kernel);refine⟨_,rfl,p,B.dx,_,rfl,S.ob,no,_,rfl,p,B,st,g,rfl,S,hg,?_⟩
  cases e:look st.worn g with
  | none=>exact fE (o:=.noguest g) k (by simp[aE,e]) (by simp)
  | some m =>
   obtain⟨hs,hh⟩:=hm m e;refine⟨_,rfl,rfl,_,rfl,?_⟩
   by_cases em:m=g
   ·subst em
    rw[ID rfl];refine aw ?_
    have hv:da (dk st.worn) (Sum.inl m:ca)=some (V.int m):=by rw[db,e];rfl
    obtain⟨m2,e2⟩:=Jn.mp (hh rfl)
    have hv2:da (dk st.hold) (Sum.inl m:ca)=some (V.int m2):=by rw[db,e2];rfl
    refine⟨_,rfl,p,c.C,B.dx,_,_,rfl,S.ob,U.cl,U.nW,zq _,B.w,rfl,.inl ⟨_,.inl S.w⟩,_,rfl,_,Sum.inl m,_,S.w,rfl,hv,?_⟩;rw[pX];have S0:=tX S (cv st.worn m);refine⟨_,rfl,p,c.C,B.dx,_,_,rfl,S0.ob,U.cl,U.nH,FB _,B.h,rfl,.inl ⟨_,.inl S0.h⟩,_,rfl,_,Sum.inl m,_,S0.h,rfl,hv2,?_⟩;rw[pX];have S1:=tW S0 (cv st.hold m);have k1:Kp B.fp H (upd (upd H B.w (.dK (dk (cv st.worn m)))) B.h (.dK (dk (cv st.hold m)))):=(fG yo).on (fG yn);have t1:Tr H (upd (upd H B.w (.dK (dk (cv st.worn m)))) B.h (.dK (dk (cv st.hold m)))):=(Tr.refl.upd _ _).upd _ _;generalize upd (upd H B.w (.dK (dk (cv st.worn m)))) B.h (.dK (dk (cv st.hold m)))=H1 at S1 k1 t1;obtain⟨as,hd,hp⟩:=id S1.d;have hl:as.length=st.deeds.length:=IU hp;refine⟨_,rfl,p,c.C,B.dx,_,_,rfl,S1.ob,U.cl,U.nD,Ci _,.inl ⟨rfl,_,bx.of hd⟩,_,rfl,by show 2<=sizeLine;decide,fun t ht=>?_⟩;have td:B.d≠t:=ah hd ht;refine⟨B.d,_,_,rfl,rfl,by rw[af td];exact hd,by rw[Iq];exact aQ (by have:=ft.d;omega),?_⟩;refine mG k (by simp[aE,e]) _ ⟨B,mJ S1 hd hp (.go m) ht,(k1.on (xc ht)).on (fG AU),fun b hb=>.inl hb,(t1.upd _ _).upd _ _⟩
   ·rw[IE (fun z=>em (V.int.inj z))]
    refine bc ⟨_,rfl,g,rfl,hg,fun y hy=>⟨y,rfl,hy,_,rfl,by decide,?_⟩⟩;refine⟨_,rfl,p,B.dx,_,rfl,S.ob,no,_,rfl,p,B,st,g,rfl,S,hg,?_⟩;rw[e];refine⟨m,rfl,hs,fun y hy=>⟨y,rfl,hy,fun z=>?_⟩⟩;exact fE (o:=.masked) k (by simp[aE,e,em]) (by simp) _ (fun _ _ z=>z)
theorem ng (F:dt K "exchange" "Hall.exchange" et f fd)(aI:aM P w K mg base (h9 P w) c.C "wears" 3 ["self","guest"] (iz c))(kH:aM P w K mg base c0 c.C "met" 1 ["self","one","other"] (Dy c.C))(cx:aM P w K mg base c0 c.C "dress" 1 ["self","guest","mask"] (uK c.C))(dw:aM P w K mg base c0 c.C "acquaint" 1 ["self","one","other"] (Dv c.C)) : aR P w K mg base (h9 P w) 4 f fd ["self","one","other"] (By c):=by
 refine F.okX eh (fun vs H Q E h=>?_) (fun cdv A outer s H vs Q E hr h=>?_)
 ·obtain⟨p,B,st,a,b,rfl,_⟩:=h
  rfl
 ·obtain⟨p,B,st,a,b,rfl,S,ft,ha,hb,k⟩:=h
  have hr1:bX 1 _:=hr.mono (by decide)
  refine⟨_,ae (dm (i:=3) eh.nd rfl (Or.inl rfl) (cU aI (pv 0) U.cl hr bU (ar (pv 1) aD))) (
   ae (dm (i:=4) eh.nd rfl (Or.inl rfl) (cU aI (pv 0) U.cl hr bU (ar (pv 2) aD))) (
   ae (aO (az bT (pv 1) (pv 2) (aG _)) (ag (jm U.eS fF rfl hr.hd rfl U.mS (ir (bC (eF (pv 1)) (bC am (kP)))))) ax) (
   ae (aO (fK (cU kH (pv 0) U.cl hr1 c4 (ar (pv 1) (ar (pv 2) aD)))) (ag (jm U.eT fF rfl hr.hd rfl U.mT (ir (bC (eF (pv 1)) (bC am (bC (eF (pv 2)) (bC am (kP)))))))) ax) (
   ae (aN (cU cx (pv 0) U.cl hr1 c4 (ar (pv 1) (ar (pv 4) aD)))) (
   ae (aN (cU cx (pv 0) U.cl hr1 c4 (ar (pv 2) (ar (pv 3) aD)))) (
   ae (aN (cU dw (pv 0) U.cl hr1 c4 (ar (pv 1) (ar (pv 2) aD)))) (
   ae (aN (cU dw (pv 0) U.cl hr1 c4 (ar (pv 2) (ar (pv 1) aD)))) (
   ag (aN (eR Jd Ja Jb bK (aX (pv 0) rfl) (ar (bZ (ar (am) (ar (pv 1) (ar (pv 2) (aD))))) aD))))))))))),?_⟩
  have no:∀ (B:HA)(m:Str),m∈(["wears","met","dress","acquaint"]:List Str)->(bB B).lookup m=none:=fun B m hm=>by
   simp only[IC,J8,or_false]at hm;rcases hm with rfl | rfl | rfl | rfl<;>exact tY B (by decide +kernel)
  have n1:∀ B:HA,(bB B).lookup ("wears" : Str)=none:=fun B=>no B _ (by simp);have n2:∀ B:HA,(bB B).lookup ("met" : Str)=none:=fun B=>no B _ (by simp);have n3:∀ B:HA,(bB B).lookup ("dress" : Str)=none:=fun B=>no B _ (by simp);have n4:∀ B:HA,(bB B).lookup ("acquaint" : Str)=none:=fun B=>no B _ (by simp);refine⟨_,rfl,p,B.dx,_,rfl,S.ob,n1 B,_,rfl,p,B,st,a,rfl,S,ha,?_⟩
  cases ea:look st.worn a with
  | none=>exact fE (o:=.noguest a) k (by simp[aE,ea]) (by simp)
  | some ma =>
   refine⟨_,rfl,p,B.dx,_,rfl,S.ob,n1 B,_,rfl,p,B,st,b,rfl,S,hb,?_⟩
   cases eb:look st.worn b with
   | none=>exact fE (o:=.noguest b) k (by simp[aE,ea,eb]) (by simp)
   | some mb =>
    refine⟨_,rfl,_,rfl,rfl,_,rfl,?_⟩
    by_cases eab:a=b
    ·rw[ID (by rw[eab])]
     refine bc ⟨_,rfl,a,rfl,ha,fun y hy=>⟨y,rfl,hy,_,rfl,by decide,fun z=>?_⟩⟩;exact fE (o:=.same) k (by simp[aE,ea,eb,eab]) (by simp) _ (fun _ _ z=>z)
    ·rw[IE (fun z=>eab (V.int.inj z))]
     refine aw ⟨_,rfl,p,B.dx,_,rfl,S.ob,n2 B,_,rfl,_,rfl,p,B,st,a,b,rfl,S,fun H1 s1=>⟨_,rfl,?_⟩⟩
     cases em:jf st.circ a b with
     | true =>
      refine bc ⟨_,rfl,a,rfl,ha,fun y hy=>⟨y,rfl,hy,_,rfl,by decide,_,rfl,b,rfl,hb,fun y hy=>⟨y,rfl,hy,_,rfl,by decide,fun z=>?_⟩⟩⟩;exact fE (o:=.met) k (by simp[aE,ea,eb,eab,em]) (by simp) _ s1
     | false =>
      refine aw ?_;have S1:=S.mono s1;have kd:=mG k (by simp[aE,ea,eb,eab,em])
      have wa:wr st.worn a=ma:=by unfold wr;rw[ea];rfl
      have wb:wr st.worn b=mb:=by unfold wr;rw[eb];rfl
      have l1:=uc st.worn a mb;have l2:=uc st.hold mb a;have f1:=ft.w;have f2:=ft.h;refine⟨_,rfl,p,B.dx,_,rfl,S1.ob,n3 B,_,rfl,_,rfl,p,B,st,a,mb,rfl,S1,by omega,by omega,?_⟩;have S2:=tW (tX S1 (put st.worn a mb)) (put st.hold mb a);have k2:Kp B.fp H (upd (upd H1 B.w (.dK (dk (put st.worn a mb)))) B.h (.dK (dk (put st.hold mb a)))):=((Kp.of_same s1).on (fG yo)).on (fG yn);have t2:Tr H (upd (upd H1 B.w (.dK (dk (put st.worn a mb)))) B.h (.dK (dk (put st.hold mb a)))):=((Tr.of_same s1).upd _ _).upd _ _;generalize upd (upd H1 B.w (.dK (dk (put st.worn a mb)))) B.h (.dK (dk (put st.hold mb a)))=H2 at S2 k2 t2;refine⟨_,rfl,p,B.dx,_,rfl,S2.ob,n3 B,_,rfl,_,rfl,p,B,_,b,ma,rfl,S2,by show (put st.worn a mb).length<2000;omega,by show (put st.hold mb a).length<2000;omega,?_⟩;have S3:=tW (tX S2 (put (put st.worn a mb) b ma)) (put (put st.hold mb a) ma b);have k3:Kp B.fp H (upd (upd H2 B.w (.dK (dk (put (put st.worn a mb) b ma)))) B.h (.dK (dk (put (put st.hold mb a) ma b)))):=(k2.on (fG yo)).on (fG yn);dsimp only at S3 ⊢;have t3:Tr H (upd (upd H2 B.w (.dK (dk (put (put st.worn a mb) b ma)))) B.h (.dK (dk (put (put st.hold mb a) ma b)))):=(t2.upd _ _).upd _ _;generalize upd (upd H2 B.w (.dK (dk (put (put st.worn a mb) b ma)))) B.h (.dK (dk (put (put st.hold mb a) ma b)))=H3 at S3 k3 t3;refine⟨_,rfl,p,B.dx,_,rfl,S3.ob,n4 B,_,rfl,_,rfl,p,B,_,a,b,rfl,S3,by have:=ft.c;show st.circ.length<2000;omega,fun x hx=>by have:=ft.k x hx;omega,fun H4 ⟨B4,S4,k4,p4,t4⟩=>?_⟩;dsimp only at S4;refine⟨_,rfl,p,B4.dx,_,rfl,S4.ob,n4 B4,_,rfl,_,rfl,p,B4,_,b,a,rfl,S4,by have:=ft.c;have:=lL st.circ a b;show (bM st.circ a b).length<2000;omega,fun x hx=>by have:=pN (n:=999) (fun x hx=>by have:=ft.k x hx;omega) (by decide) x hx;omega,fun H5 ⟨B5,S5,k5,p5,t5⟩=>?_⟩
      dsimp only at S5;have k4':Kp B.fp H H4:=k3.on k4
      have f4:∀ x∈B4.fp,x∈B.fp\/H x=none:=fun x hx=>by
       rcases p4 x hx with z | z
       ·exact .inl z
       ·by_cases hq:x∈B.fp
        ·exact .inl hq
        ·refine .inr ?_
         cases e:H x with
         | none=>rfl
         | some o=>rw[k3 x o e hq]at z;cases z
      have k5':Kp B.fp H H5:=k4'.trans k5 f4
      have f5:∀ x∈B5.fp,x∈B.fp\/H x=none:=fun x hx=>by
       rcases p5 x hx with z | z
       ·exact f4 x z
       ·by_cases hq:x∈B.fp
        ·exact .inl hq
        ·refine .inr ?_
         cases e:H x with
         | none=>rfl
         | some o=>rw[k4' x o e hq]at z;cases z
      obtain⟨as,hd,hp⟩:=id S5.d;have hl:as.length=st.deeds.length:=IU hp;refine⟨_,rfl,p,c.C,B5.dx,_,_,rfl,S5.ob,U.cl,U.nD,Ci _,.inl ⟨rfl,_,bx.of hd⟩,_,rfl,_,rfl,by show 3<=sizeLine;decide,fun t ht=>?_⟩;have td:B5.d≠t:=ah hd ht;refine⟨B5.d,_,_,rfl,rfl,by rw[af td];exact hd,by rw[Iq];exact aQ (by have:=ft.d;omega),?_⟩;have S6:=mJ S5 hd hp (.exch a b) ht;refine kd _ ⟨B5,?_,?_,f5,(((t3.trans t4).trans t5).upd _ _).upd _ _⟩
      ·show aF c.C _ p B5 { worn:=put (put st.worn a (wr st.worn b)) b (wr st.worn a),hold:=put (put st.hold (wr st.worn b) a) (wr st.worn a) b,circ:=bM (bM st.circ a b) b a,deeds:=st.deeds++[.exch a b] }
       rw[wa,wb];exact S6
      ·intro x o e hx
       have h5:=k5' x o e hx
       have hx5:x≠B5.d:=fun z=>by
        rcases f5 B5.d AU with q | q
        ·exact hx (by rw[z];exact q)
        ·rw[z,q]at e;cases e
       show upd (upd H5 t _) B5.d _ x=some o
       rw[af hx5,af (ah h5 ht)];exact h5
theorem rY (F:dt K "dress" "Hall.dress" gM f fd) : aR P w K mg base c0 1 f fd ["self","guest","mask"] (uK c.C):=by
 refine F.ok sd (fun vs H Q E h=>?_) (fun cdv A outer s H vs Q E hr h=>?_)
 ·obtain⟨p,B,st,g,m,rfl,_⟩:=h
  rfl
 ·obtain⟨p,B,st,g,m,rfl,S,hw,hh,k⟩:=h
  have hu:=eO hr
  have nwh:B.w≠B.h:=by have:=S.nd;simp[HA.fp]at this;exact this.1.1
  have npw:p≠B.w:=bQ S.ob S.w (by intro z;cases z)
  refine⟨_,ae (gz hu (aX (pv 0) rfl) (pv 1) (pv 2) rfl) (
   ag (gz hu (aX (pv 0) rfl) (pv 2) (pv 1) rfl)),?_⟩
  refine⟨_,rfl,_,rfl,p,c.C,B.dx,_,_,rfl,S.ob,U.cl,U.nW,zq _,_,rfl,B.w,_,rfl,kD.k (k:=Sum.inl g) S.w (by rw[xg];exact IT hw (by decide)),?_⟩;rw[lV];refine⟨_,rfl,_,rfl,p,c.C,B.dx,_,_,rfl,(by rw[af npw];exact S.ob),U.cl,U.nH,FB _,_,rfl,B.h,_,rfl,kD.k (k:=Sum.inl m) (by rw[af (IJ nwh)];exact S.h) (by rw[xg];exact IT hh (by decide)),?_⟩;rw[lV];exact k
theorem nc (F:dt K "acquaint" "Hall.acquaint" er f fd) : aR P w K mg base c0 1 f fd ["self","one","other"] (Dv c.C):=by
 refine F.ok hV (fun vs H Q E h=>?_) (fun cdv A outer s H vs Q E hr h=>?_)
 ·obtain⟨p,B,st,a,b,rfl,_⟩:=h
  rfl
 ·obtain⟨p,B,st,a,b,rfl,S,hl1,hl2,k⟩:=h
  have hu:=eO hr
  refine⟨_,ae (dm (i:=3) hV.nd rfl (Or.inl rfl) (A9 (aX (pv 0) rfl) (pv 1) c5 ⟨rfl,rfl,rfl,rfl⟩)) (
   ag (gz hu (pv 3) (pv 2) kr rfl)),?_⟩
  refine⟨_,rfl,p,c.C,B.dx,_,_,rfl,S.ob,U.cl,U.nC,FA _,B.c,rfl,.inl ⟨_,.inl S.c⟩,_,rfl,fun l hl=>?_⟩;have s1:ay H (upd H l (.dK [])):=ak hl;have S1:=S.mono s1;have ap:=S.apart;have lenc:B.cs.length=st.circ.length:=IU S.cs
  have lc:(dL B.cs st.circ).length<sizeLine:=by rw[sQ lenc];exact IT hl1 (by decide)
  have np:=S.pne;simp only[HA.fp,IC,not_or]at np;refine⟨_,Sum.inl a,S1.c,rfl,lc,fun v hv=>?_,fun hv=>?_⟩
  ·rcases jD a S1.cs with ⟨h1,h2,h3⟩ | ⟨ad,h1,h2,h3,h4⟩
   ·rw[h1]at hv;cases hv
   ·rw[h2]at hv
    cases hv
    have lk:(mq (mz st.circ a)).length<sizeLine:=by
     have e:∀ ci:List (Int×List Int),(∀ x∈ci,x.2.length<2000)->(mz ci a).length<2000:=by
      intro ci
      induction ci with
      | nil=>intro _;show 0<2000;decide
      | cons x r ih =>
       intro h;unfold mz;split
       ·exact h x IB
       ·exact ih fun y hy=>h y (Iy _ hy)
     unfold mq;rw[Iq];exact IT (e _ hl2) (by decide)
    refine⟨_,rfl,_,rfl,ad,_,rfl,kD.k (k:=Sum.inl b) h3 lk,?_⟩;rw[yA]
    have adfp:ad∈B.fp:=by simp[HA.fp,h1]
    have nn:∀ x,x∉B.cs->x≠ad:=fun x hx z=>hx (by rw[z];exact h1);obtain⟨q1,q2⟩:=h4 b (upd (upd H l (.dK [])) ad (.dK (mq (iN (mz st.circ a) b)))) ap.cs (fun x _ hx o e=>by rw[af hx];exact e) ac;refine k _ ⟨B,⟨by rw[af (nn _ np.2.2.2.2)];exact S1.ob,S.nd,by rw[af (nn _ ap.w)];exact S1.w,by rw[af (nn _ ap.h)];exact S1.h,by rw[af (nn _ ap.c),S1.c,q2],q1,?_⟩,(xc hl).on (fG adfp),fun x hx=>.inl hx,(Tr.refl.upd _ _).upd _ _⟩;obtain⟨as,hd,hp⟩:=S1.d;refine⟨as,by rw[af (nn _ ap.d)];exact hd,Paired.mapP hp fun t x e=>?_⟩;obtain⟨xs,ex⟩:=dM x;rw[af (fun z=>S1.tup (xs:=xs) (by rw[<-ex];exact e) (by rw[z];exact adfp))];exact e
  ·rcases jD a S1.cs with ⟨h1,h2,h3⟩ | ⟨ad,h1,h2,h3,h4⟩
   ·have lB:l∉B.fp:=fun z=>by obtain⟨o,e⟩:=S.tracked z;rw[hl]at e;cases e
    have lB':=lB;simp only[HA.fp,IC,not_or]at lB';obtain⟨l1,l2,l3,l4,l5⟩:=lB';refine⟨_,rfl,_,rfl,l,_,rfl,kD.k (k:=Sum.inl b) (by rw[af l3];exact ac) (by show 0<sizeLine;decide),?_⟩;rw[show gj [] (Sum.inl b:ca) (V.bl true)=mq [b] from rfl,Bh _ hv]
    have e1:∀ x o,H x=some o->x≠B.c->x≠l->(upd (upd (upd H l (.dK [])) B.c (.dK (dL B.cs st.circ++[(Sum.inl a,V.ref l)]))) l (.dK (mq [b]))) x=some o:=fun x o e hx hy=>by
     rw[af hy,af hx,af hy];exact e
    have nl:∀ x o,H x=some o->x≠l:=fun x o e=>ah e hl;refine k _ ⟨⟨B.dx,B.w,B.h,B.c,B.d,B.cs++[l]⟩,⟨?_,?_,e1 _ _ S.w ap.wc (nl _ _ S.w),e1 _ _ S.h ap.hc (nl _ _ S.h),?_,?_,?_⟩,?_,fun x hx=>?_,((Tr.refl.upd _ _).upd _ _).upd _ _⟩
    ·exact e1 _ _ S.ob np.2.2.1 (nl _ _ S.ob)
    ·refine x2.fp ⟨ap.wh,ap.wc,ap.wd,ap.hc,ap.hd,ap.cd,?_,?_,?_,?_,?_⟩
     ·simp[ap.w,IJ l1]
     ·simp[ap.h,IJ l2]
     ·simp[ap.c,IJ l3]
     ·simp[ap.d,IJ l4]
     ·exact pj ap.cs l5
    ·show (upd (upd (upd H l (.dK [])) B.c (.dK (dL B.cs st.circ++[(Sum.inl a,V.ref l)]))) l (.dK (mq [b]))) B.c=some (.dK (dL (B.cs++[l]) (bM st.circ a b)))
     rw[af (IJ l3),ac,h3 b,pQ a [b] l lenc]
    ·show Gs _ (B.cs++[l]) (bM st.circ a b)
     rw[h3 b];exact bJ (lA S.cs fun x hx o e=>e1 x o e (fun z=>ap.c (by rw[<-z];exact hx)) (nl x o e)) (.cons ac .nil)
    ·obtain⟨as,hd,hp⟩:=S.d
     refine⟨as,e1 _ _ hd (IJ ap.cd) (nl _ _ hd),Paired.mapP hp fun t x e=>?_⟩;obtain⟨xs,ex⟩:=dM x;exact e1 t _ e (fun z=>S.tup (xs:=xs) (by rw[<-ex];exact e) (by rw[z];exact Dl)) (nl t _ e)
    ·intro x o e hx
     exact e1 x o e (fun z=>hx (by rw[z];exact Dl)) (nl x o e)
    ·simp only[HA.fp,IC,IN]at hx ⊢
     rcases hx with hx | hx | hx | hx | hx | hx | hx
     ·exact .inl (.inl hx)
     ·exact .inl (.inr (.inl hx))
     ·exact .inl (.inr (.inr (.inl hx)))
     ·exact .inl (.inr (.inr (.inr (.inl hx))))
     ·exact .inl (.inr (.inr (.inr (.inr hx))))
     ·exact .inr (by rw[hx];exact hl)
     ·cases hx
   ·rw[h2]at hv;cases hv
theorem qF (F:dt K "guests" "Hall.guests" fS f fd) : aR P w K mg base c0 1 f fd ["self"] (ww c.C):=by
 refine F.ok rc (fun vs H Q E h=>?_) (fun cdv A outer s H vs Q E hr h=>?_)
 ·obtain⟨p,B,st,rfl,_⟩:=h
  rfl
 ·obtain⟨p,B,st,rfl,S,hl,k⟩:=h
  refine⟨_,ag (aq (cr (lz rfl) (by rfl) T.sorted PyProof.Rows.boot_sorted (ar (aX (pv 0) rfl) aD))),?_⟩;refine⟨_,rfl,p,c.C,B.dx,_,_,rfl,S.ob,U.cl,U.nW,zq _,B.w,_,av st.worn,rfl,S.w,?_,by unfold av;rw[Iq];exact hl,k⟩;unfold dk av;rw[Jo,Jo];rfl
theorem rZ (F:dt K "wears" "Hall.wears" gO f fd)(NG:pJ P w K mg base c) : aR P w K mg base (h9 P w) 3 f fd ["self","guest"] (iz c):=by
 refine F.okX se (fun vs H Q E h=>?_) (fun cdv A outer s H vs Q E hr h=>?_)
 ·obtain⟨p,B,st,g,rfl,_⟩:=h
  rfl
 ·obtain⟨p,B,st,g,rfl,S,hg,k⟩:=h
  have hu:=eO hr
  refine⟨_,ae (aO (ed (jO hu (pv 1) (aX (pv 0) rfl))) (ag (A4 NG U hr fF rfl hr.hd rfl (pv 1))) ax) (
   ag (aq (iq hu (aX (pv 0) rfl) (pv 1) (fun _ _=>rfl)))),?_⟩
  have g1:c3 H B.w (.int g) ((look st.worn g).map V.int):=by rw[<-db];exact c3.k (k:=Sum.inl g) S.w
  refine⟨_,rfl,_,rfl,p,c.C,B.dx,_,_,rfl,S.ob,U.cl,U.nW,zq _,B.w,_,rfl,g1,_,rfl,?_⟩
  cases e:look st.worn g with
  | none =>
   rw[e]at k;exact bc ⟨_,rfl,g,rfl,hg,fun dx hdx=>k dx _ (ak hdx) ac⟩
  | some m =>
   rw[e]at k;refine aw ⟨_,rfl,p,c.C,B.dx,_,_,rfl,S.ob,U.cl,U.nW,zq _,_,rfl,B.w,_,rfl,(by rw[e]at g1;exact g1),k⟩
theorem vT (F:dt K "met" "Hall.met" js f fd) : aR P w K mg base c0 1 f fd ["self","one","other"] (Dy c.C):=by
 refine F.ok wq (fun vs H Q E h=>?_) (fun cdv A outer s H vs Q E hr h=>?_)
 ·obtain⟨p,B,st,a,b,rfl,_⟩:=h
  rfl
 ·obtain⟨p,B,st,a,b,rfl,S,k⟩:=h
  have hu:=eO hr;refine⟨_,ag (aq (EK (qQ hu (pv 2) (A8 hu (aX (pv 0) rfl) (pv 1) c5 ⟨rfl,rfl,rfl,rfl⟩)))),?_⟩;refine⟨_,rfl,_,rfl,p,c.C,B.dx,_,_,rfl,S.ob,U.cl,U.nC,FA _,B.c,rfl,.inl ⟨_,.inl S.c⟩,_,rfl,fun l hl=>?_⟩;have s1:ay H (upd H l (.dK [])):=ak hl;have S1:=S.mono s1;refine⟨_,c3.k (k:=Sum.inl a) S1.c,?_⟩;rcases jD a S1.cs with ⟨h1,h2,h3⟩ | ⟨ad,h1,h2,h3,h4⟩
  ·rw[h1]
   refine⟨l,_,rfl,c3.k (k:=Sum.inl b) ac,?_⟩;have:=k _ s1;unfold jf at this;rw[h2]at this;exact this
  ·rw[h2]
   refine⟨ad,_,rfl,c3.k (k:=Sum.inl b) h3,?_⟩;rw[uR];exact k _ s1
theorem qG (F:dt K "moment" "Hall.moment" fT f fd) : aR P w K mg base c0 1 f fd ["self"] (rA c.C):=by
 refine F.ok re (fun vs H Q E h=>?_) (fun cdv A outer s H vs Q E hr h=>?_)
 ·obtain⟨p,B,st,rfl,_⟩:=h
  rfl
 ·obtain⟨p,B,st,rfl,S,k⟩:=h
  refine⟨_,ag (aq (cr cC (by rfl) T.len JU (ar (aX (pv 0) rfl) aD))),?_⟩;obtain⟨as,hd,hp⟩:=S.d;refine⟨_,rfl,p,c.C,B.dx,_,_,rfl,S.ob,U.cl,U.nD,Ci _,B.d,_,rfl,.inl (bx.of hd),?_⟩;rw[Iq,IU hp];exact k
theorem kM (F:dt K "__init__" "FigureBook.__init__" dB f fd) : aR P w K mg base c0 1 f fd ["self"] (xQ cb):=by
 refine F.ok kT (fun vs H Q E h=>?_) (fun cdv A outer s H vs Q E hr h=>?_)
 ·obtain⟨b,dx,rfl,_⟩:=h
  rfl
 ·obtain⟨b,dx,rfl,hb,k⟩:=h
  refine⟨_,ae (di (pv 0) (c5) rfl) (
   ae (di (pv 0) (c5) rfl) (
   ag (di (pv 0) (c5) rfl))),?_⟩
  intro d1 h1;have n1:b≠d1:=ah hb h1;refine⟨_,rfl,b,cb,dx,[],rfl,(by rw[af n1];exact hb),UO.f.cl,UO.f.nF,(by show 0<1000;decide),?_⟩;intro d2 h2
  have n2:b≠d2:=fun z=>by rw[<-z,ac]at h2;cases h2
  refine⟨_,rfl,b,cb,dx,_,rfl,(by rw[af n2,ac]),UO.f.cl,UO.f.nL,(by show 1<1000;decide),?_⟩;intro d3 h3
  have n3:b≠d3:=fun z=>by rw[<-z,ac]at h3;cases h3
  refine⟨_,rfl,b,cb,dx,_,rfl,(by rw[af n3,ac]),UO.f.cl,UO.f.nR,(by rw[DX];show 2<1000;decide),?_⟩;rw[Ft]
  have h2':upd H d1 (.dK []) d2=none:=by rw[af (IJ n2)]at h2;exact h2
  have h3':upd (upd H d1 (.dK [])) d2 (.dK []) d3=none:=by
   rw[af (IJ n3)]at h3
   by_cases z:d3=d2
   ·rw[z,ac]at h3;cases h3
   ·rw[af z,af (IJ n3)]at h3;rw[af z];exact h3
  have s1:=ak (o:=.dK []) h1;have s2:=ak (o:=.dK []) h2';have s3:=ak (o:=.dK []) h3'
  have keep:∀ a o,upd (upd (upd H d1 (.dK [])) d2 (.dK [])) d3 (.dK []) a=some o->a≠b->upd (upd (upd (upd (upd (upd H d1 (.dK [])) b (.ins cb dx (aV "figures" (.ref d1) []))) d2 (.dK [])) b (.ins cb dx (aV "lengths" (.ref d2) (aV "figures" (.ref d1) [])))) d3 (.dK [])) b (.ins cb dx (Gk (.ref d1) (.ref d2) (.ref d3))) a=some o:=fun a o e n=>by
   rw[af n]
   by_cases z3:a=d3
   ·rw[z3,ac]at e ⊢;exact e
   ·rw[af z3]at e ⊢
    rw[af n]
    by_cases z2:a=d2
    ·rw[z2,ac]at e ⊢;exact e
    ·rw[af z2]at e ⊢
     rw[af n];exact e
  refine k ⟨dx,d1,d2,d3⟩ _ (fun a o e n=>keep a o (s3 _ _ (s2 _ _ (s1 _ _ e))) n) ⟨ac,?_⟩;exact keep d1 _ (s3 _ _ (s2 _ _ ac)) (IJ n1)
theorem qN (F:dt K "read_number" "read_number" dY f fd) : aR P w K mg base c0 1 f fd ["word"] F0:=by
 refine F.ok rn (fun vs H Q E h=>?_) (fun cdv A outer s H vs Q E hr h=>?_)
 ·obtain⟨z,rfl,_⟩:=h
  rfl
 ·obtain⟨z,rfl,asc,len,k1,k2⟩:=h
  have hu:=eO hr
  refine⟨_,ae (aO (PW.pt (yB (fJ (Be Dp Dp (aj) (cr tT (by rfl) T.len JU (eE (pv 0))) (we (by rfl) UO.md))) (uC (fJ (fK (cr (zd rfl) (by rfl) T.all PyProof.Rows.boot_all (eE (fm (so:=ai dY) (N:=km) (N':=["sign"]) (src:=[none]) rfl rfl B8 rfl (EQ (pv 0)) (fun cl C s2 H2 ex=>⟨oC 0 (show (["sign"]:List Str).Nodup by decide +kernel),fo,ux sZ (pv 0) (we (by rfl) UO.dg) rfl⟩))))))))) (ag (aq (e6))) (ax)) (
   ae (aO (PW.pt (gL (az bT (aT Eh (pv 0) (aj) (fun _ _=>rfl)) (am) (aG _)) (eG (az ji (pv 0) (am) (aG _))))) (ag (aq (e6))) (ax)) (
   ag (aq (dH zg (by rfl) T.int PyProof.Rows.boot_int (eE (pv 0)))))),?_⟩
  have sl:sizeLine=16777216:=JQ
  have zl:z.length<=sizeLine:=by omega
  have hz:z.length=z.cps.toList.length:=by rw[Jj];rfl
  have zz:(Str.ofString "0").cps.toList=[48]:=by decide +kernel
  refine⟨_,rfl,z,rfl,zl,_,_,rfl,rfl,_,rfl,?_⟩
  by_cases h1:1<=z.length
  ·rw[ID (show (1:Int)<=(z.length:Int) by omega)]
   refine bc ⟨_,_,rfl,rfl,_,rfl,?_⟩
   by_cases h2:z.length<=12
   ·rw[ID (show (z.length:Int)<=12 by omega)]
    refine aw ⟨_,rfl,z,rfl,asc,fun q hq=>?_⟩;refine z4 (f:=lH) hq (by omega) (fun c HK Q' sK kk=>?_) (fun H1 s1 hq1=>?_)
    ·refine⟨_,rfl,_,_,rfl,rfl,?_⟩
     rw[DZ];exact kk HK (ay.refl _)
    refine⟨q,_,rfl,bx.of hq1,_,rfl,?_⟩
    by_cases h3:∀ c∈z.cps.toList,lH c=true
    ·rw[show (z.cps.toList.map lH).all id=true from Ju.mpr fun b hb=>by obtain⟨c,hc,rfl⟩:=Jf.mp hb;exact h3 c hc]
     obtain⟨c,l,hcl⟩:∃ c l,z.cps.toList=c::l:=by
      cases e:z.cps.toList with
      | nil=>rw[hz,e]at h1;exact absurd h1 (by decide)
      | cons c l=>exact⟨c,l,rfl⟩
     refine aw ⟨_,rfl,z,_,c,rfl,rfl,zl,by rw[hcl];exact cz (j:=0) rfl,rfl,_,rfl,?_⟩;rw[BG,zz]
     show if decide ([c]=[48])=true then _ else _
     have fin:¬ (z.cps.toList.head? = some 48/\z.cps.toList≠[48])->∃ ds,Num z ds:=fun h4=>(jK z).mpr ⟨h1,h2,h3,h4⟩
     by_cases h4:c=48
     ·rw[ID (by rw[h4])]
      refine bc ⟨_,rfl,rfl,_,rfl,?_⟩;rw[BG,zz]
      by_cases h5:z.cps.toList=[48]
      ·rw[ID h5]
       obtain⟨ds,N⟩:=fin fun q=>q.2 h5;exact aw ⟨_,rfl,z,ds,rfl,N,k1 ds H1 N s1⟩
      ·rw[IE h5]
       exact bc (k2 (fun ds N=>((jK z).mp ⟨ds,N⟩).2.2.2 ⟨by rw[hcl,h4];rfl,h5⟩) H1 s1)
     ·rw[IE (fun q=>h4 (List.cons.inj q).1)]
      obtain⟨ds,N⟩:=fin fun q=>h4 (by have:=q.1;rw[hcl]at this;exact IA this);exact aw (aw ⟨_,rfl,z,ds,rfl,N,k1 ds H1 N s1⟩)
    ·rw[show (z.cps.toList.map lH).all id=false from Bool.eq_false_iff.mpr fun q=>h3 fun c hc=>Ju.mp q _ (List.mem_map_of_mem hc)]
     exact bc (k2 (fun ds N=>h3 ((jK z).mp ⟨ds,N⟩).2.2.1) H1 s1)
   ·rw[IE (show ¬ (z.length:Int)<=12 by omega)]
    exact bc (k2 (fun ds N=>h2 ((jK z).mp ⟨ds,N⟩).2.1) H (ay.refl _))
  ·rw[IE (show ¬ (1:Int)<=(z.length:Int) by omega)]
   exact aw ⟨_,rfl,bc (k2 (fun ds N=>h1 ((jK z).mp ⟨ds,N⟩).1) H (ay.refl _))⟩
theorem xB (F:dt K "do_deed" "do_deed" kW f fd)(gE:aM P w K mg base (h9 P w) ck "come" 3 ["self","guest"] (yK c ck))(ja:aM P w K mg base (h9 P w) ck "go" 5 ["self","guest"] (Dx c ck))(bA:aM P w K mg base (h9 P w) ck "exchange" 5 ["self","one","other"] (uL c ck)) : aR P w K mg base (h9 P w) 6 f fd ["hall","deed"] (Bx c ck ze):=by
 refine F.okX xO (fun vs H Q E h=>?_) (fun cdv A outer s H vs Q E hr h=>?_)
 ·obtain⟨k,t,D,s,B,st,d,rfl,_⟩:=h
  rfl
 ·obtain⟨k,t,D,s,B,st,d,rfl,ht0,I,ft,hg,sm,q⟩:=h
  have ht:H t=some (.tup (de d)):=by rw[<-il];exact ht0
  have T0:c7 K H t (de d):=c7.of ht;refine⟨_,ag (aO (az bT (aT aK (pv 1) (aj) (fun _ _=>rfl)) (am) (aG _)) (ag (aN (cU gE (pv 0) UO.k.cl hr.m bU (eE (aT aK (pv 1) (aj) (fun _ _=>rfl)))))) (ag (aO (az bT (aT aK (pv 1) (aj) (fun _ _=>rfl)) (am) (aG _)) (ag (aN (cU ja (pv 0) UO.k.cl hr.m bU (eE (aT aK (pv 1) (aj) (fun _ _=>rfl)))))) (ag (aN (cU bA (pv 0) UO.k.cl hr.m bU (jN (aT aK (pv 1) (aj) (fun _ _=>rfl)) (aT aK (pv 1) (aj) (fun _ _=>rfl))))))))),?_⟩
  cases d with
  | come g =>
   refine⟨_,rfl,t,_,_,_,rfl,rfl,T0,rfl,rfl,_,rfl,?_⟩;rw[show decide (V.str (word (.come g))=V.str "come")=true from cc];exact bc ⟨_,rfl,k,D.dx,_,rfl,I.kp.ob,gX (by decide +kernel),_,rfl,t,_,_,_,rfl,rfl,T0,rfl,k,D,s,B,st,g,rfl,I,ft,sm g (by simp[names]),q⟩
  | go g =>
   refine⟨_,rfl,t,_,_,_,rfl,rfl,T0,rfl,rfl,_,rfl,?_⟩;rw[show decide (V.str (word (.go g))=V.str "come")=false from gc];refine aw ⟨_,rfl,t,_,_,_,rfl,rfl,T0,rfl,rfl,_,rfl,?_⟩;rw[show decide (V.str (word (.go g))=V.str "go")=true from gg];exact bc ⟨_,rfl,k,D.dx,_,rfl,I.kp.ob,gX (by decide +kernel),_,rfl,t,_,_,_,rfl,rfl,T0,rfl,k,D,s,B,st,g,rfl,I,ft,sm g (by simp[names]),(fun m hm=>⟨hg.sm g m hm,fun e=>by rw[e]at hm;rw[(hg.wh g g).mp hm];rfl⟩),q⟩
  | exch a b =>
   refine⟨_,rfl,t,_,_,_,rfl,rfl,T0,rfl,rfl,_,rfl,?_⟩;rw[show decide (V.str (word (.exch a b))=V.str "come")=false from ec];refine aw ⟨_,rfl,t,_,_,_,rfl,rfl,T0,rfl,rfl,_,rfl,?_⟩;rw[show decide (V.str (word (.exch a b))=V.str "go")=false from eg];exact aw ⟨_,rfl,k,D.dx,_,rfl,I.kp.ob,gX (by decide +kernel),_,rfl,t,_,_,_,rfl,rfl,T0,rfl,_,rfl,t,_,_,_,rfl,rfl,T0,rfl,k,D,s,B,st,a,b,rfl,I,ft,sm a (by simp[names]),sm b (by simp[names]),q⟩
theorem uv (F:dt K "read_line" "read_line" fA f fd)(ic:bb P w K mg base "read_number" 1 ["word"] F0) : aR P w K mg base c0 2 f fd ["line"] FZ:=by
 refine F.ok iy (fun vs H Q E h=>?_) (fun cdv A outer s H vs Q E hr h=>?_)
 ·obtain⟨z,w0,ws,rfl,_⟩:=h
  rfl
 ·obtain⟨z,w0,ws,rfl,asc,len,hw,k1,k2⟩:=h
  have hu:=eO hr
  refine⟨_,ae (bD 1 iy.nd (Bb (pv 0) (am))) (
   ae (uA (ix:=2) (so:=ai fA) (N:=oz) (N':=["word"]) (src:=[none]) rfl rfl B8 rfl (cR (jj uI (pv 1) (jQ (aj)) pq)) (fun cl C s2 H2 ex=>⟨oC 0 (show (["word"]:List Str).Nodup by decide +kernel),fo,ba ic hr.m rfl (eE (pv 0))⟩) iy.nd rfl rfl) (
   ae (aO (az sY (e6) (pv 2) rfl) (ag (aq (e6))) (ax)) (
   ag (aq (aH CL (bZ (eE (aT pe (pv 1) (aj) (fun _ _=>rfl)))) (dH rK (by rfl) T.tuple PyProof.Rows.boot_tuple (eE (pv 2)))))))),?_⟩
  have sl:sizeLine=16777216:=JQ
  have sp:(Str.ofString " ")=⟨#[32]⟩:=by decide +kernel
  obtain⟨wl,wok⟩:=Ab (c:=32) (by decide) asc;rw[hw]at wl wok;have wl:ws.length+1<=z.length+1:=wl;refine⟨_,rfl,rfl,z,_,rfl,rfl,by rw[sp];rfl,by omega,fun lw hlw=>?_⟩;rw[show (Txt.split z (Str.ofString " "))=w0::ws by rw[sp];exact hw];have s1:=ak (o:=.lst ((w0::ws).map V.str)) hlw;have h1:upd H lw (.lst ((w0::ws).map V.str)) lw=some (.lst ((w0::ws).map V.str)):=ac;generalize upd H lw (.lst ((w0::ws).map V.str))=H1 at s1 h1 ⊢;refine⟨_,rfl,_,rfl,xy ⟨lw,_,rfl,bx.of h1,fun l3 hl3=>?_⟩⟩;rw[Fv,show ((w0::ws).map V.str).drop 1=ws.map V.str from rfl];have s2:=ak (o:=.lst (ws.map V.str)) hl3;have h3:upd H1 l3 (.lst (ws.map V.str)) l3=some (.lst (ws.map V.str)):=ac;have h2:=s2 _ _ h1;have s02:=s1.trans s2;generalize upd H1 l3 (.lst (ws.map V.str))=H2 at s2 h3 h2 s02 ⊢;refine⟨l3,rfl,⟨_,bx.of h3⟩,fun ln hln=>?_⟩;refine zB (K:=K) V.str (rs:=ws) (f:=numW) hln h3 (by omega) (fun r HK Q' hr0 sK kk=>?_) (fun H3 s3 h4=>?_)
  ·obtain⟨ra,rl⟩:=wok r (Iy _ hr0)
   refine⟨_,rfl,r,rfl,ra,by omega,fun ds H' N s'=>?_,fun n H' s'=>?_⟩
   ·have:=kk H' s'
    rw[qC N]at this;exact this
   ·have:=kk H' s'
    rw[vS n]at this;exact this
  have s03:=s02.trans s3;have h2:=s3 _ _ h2
  have fl:(ws.map numW).all kh=true:=Ju.mpr fun v hv=>by
   obtain⟨w,_,rfl⟩:=Jf.mp hv;exact kK (m9 w)
  refine⟨_,rfl,ln,_,rfl,.inl (bx.of h4),rfl,fl,_,rfl,?_⟩
  have ein:Fd V.non (ws.map numW)=true↔∃ w∈ws,∀ ds,¬ Num w ds:=by
   unfold Fd;rw[List.any_eq_true];constructor
   ·rintro⟨v,hv,e⟩
    obtain⟨w,hw0,rfl⟩:=Jf.mp hv;have e:=(tU (m9 w) rfl).mp e;refine⟨w,hw0,fun ds N=>?_⟩;rw[qC N]at e;cases e
   ·rintro⟨w,hw0,n⟩
    refine⟨_,List.mem_map_of_mem hw0,(tU (m9 w) rfl).mpr (vS n)⟩
  cases hb:Fd V.non (ws.map numW) with
  | true =>
   rw[show (if false=true then !true else true)=true from rfl];exact bc (k2 (ein.mp hb) H3 s03)
  | false =>
   have al:∀ w∈ws,∃ ds,Num w ds:=fun w hw0=>J6 fun n=>by
    rw[ein.mpr ⟨w,hw0,fun ds N=>n ⟨ds,N⟩⟩]at hb;cases hb
   rw[show (if false=true then !false else false)=false from rfl];refine aw ⟨_,rfl,lw,_,_,_,rfl,rfl,bx.of h2,cz (j:=0) rfl,(show 1<=sizeLine by decide),fun t1 ht1=>?_⟩;have s4:=ak (o:=.tup [V.str w0]) ht1;have h5:upd H3 t1 (.tup [V.str w0]) t1=some (.tup [V.str w0]):=ac;have h6:=s4 _ _ h4;have s04:=s03.trans s4;have ht0:=s03.free ht1;generalize upd H3 t1 (.tup [V.str w0])=H4 at s4 h5 h6 s04 ⊢;refine⟨_,rfl,ln,_,rfl,.inl ⟨bx.of h6,fun t2 ht2=>?_⟩⟩;have s5:=ak (o:=.tup (ws.map numW)) ht2;have h7:upd H4 t2 (.tup (ws.map numW)) t2=some (.tup (ws.map numW)):=ac;have h8:=s5 _ _ h5;have s05:=s04.trans s5;generalize upd H4 t2 (.tup (ws.map numW))=H5 at s5 h7 h8 s05 ⊢;refine⟨t1,t2,_,_,rfl,rfl,c7.of h8,c7.of h7,by simp,by rw[Iq];show 1+ws.length<=_;omega,fun e=>?_,fun _ t3 ht3=>?_⟩
   ·refine k1 al t1 H5 ht0 s05 ?_
    rw[e];exact h8
   ·exact k1 al t3 _ (s05.free ht3) (s05.trans (ak ht3)) ac
theorem zO (F:dt K "strays" "strays" jR f fd)(gD:aM P w K mg base c0 c.C "guests" 1 ["self"] (ww c.C))(aI:aM P w K mg base (h9 P w) c.C "wears" 3 ["self","guest"] (iz c)) : aR P w K mg base c0 4 f fd ["hall"] (wA c):=by
 refine F.ok zY (fun vs H Q E h=>?_) (fun cdv A outer s H vs Q E hr h=>?_)
 ·obtain⟨p,B,st,rfl,_⟩:=h
  rfl
 ·obtain⟨p,B,st,rfl,S,G,h64,sm,k⟩:=h
  have hu:=eO hr;refine⟨_,ag (aq (fm (so:=ai jR) (N:=vM) (N':=["guest","hall"]) (src:=[none,some 0]) rfl rfl B8 rfl (cR (e7 gD (pv 0) U.cl hr.m c4)) (fun cl C s2 H2 ex=>⟨oC 0 (show (["guest","hall"]:List Str).Nodup by decide +kernel),uB (az ji (cU aI (pv 1) U.cl hr.m Dq (eE (pv 0))) (pv 0) (aG _)),pv 0⟩))),?_⟩;have nos:∀ (B:HA)(m:Str),¬ m="worn"->¬ m="holders"->¬ m="circles"->¬ m="deeds"->(bB B).lookup m=none:=fun B m h1 h2 h3 h4=>AF B h1 h2 h3 h4;have nG:∀ B:HA,(bB B).lookup ("guests" : Str)=none:=fun B=>tY B (by decide +kernel);have nM:∀ B:HA,(bB B).lookup ("moment" : Str)=none:=fun B=>tY B (by decide +kernel);have nI:∀ B:HA,(bB B).lookup ("inside" : Str)=none:=fun B=>tY B (by decide +kernel);have nS:∀ B:HA,(bB B).lookup ("story" : Str)=none:=fun B=>tY B (by decide +kernel);have nW:∀ B:HA,(bB B).lookup ("wears" : Str)=none:=fun B=>tY B (by decide +kernel);have nR:∀ B:HA,(bB B).lookup ("wearer" : Str)=none:=fun B=>tY B (by decide +kernel);have nT:∀ B:HA,(bB B).lookup ("met" : Str)=none:=fun B=>tY B (by decide +kernel);have nP:∀ B:HA,(bB B).lookup ("pairs" : Str)=none:=fun B=>tY B (by decide +kernel);have nQ:∀ B:HA,(bB B).lookup ("partners" : Str)=none:=fun B=>tY B (by decide +kernel)
  have two:(2:Nat)<=sizeLine:=by decide
  have nil0:(0:Nat)<=sizeLine:=Jg _
  have dkk:∀ wl:List (Int×Int),(dk wl).map (·.1)=(av wl).map Sum.inl:=fun wl=>by unfold dk av;rw[Jo,Jo];rfl
  have ksl:(df (av st.worn)).length<64:=by rw[mX,qk];exact h64
  have ksm:∀ g,g∈df (av st.worn)↔g∈av st.worn:=fun g=>sU;refine⟨_,rfl,p,B.dx,_,rfl,S.ob,nG B,p,B,_,rfl,S,h64,fun lg hlg=>?_⟩;have sg:=ak (o:=.lst ((df (av st.worn)).map V.int)) hlg;have hg1:upd H lg (.lst ((df (av st.worn)).map V.int)) lg=some (.lst ((df (av st.worn)).map V.int)):=ac;generalize upd H lg (.lst ((df (av st.worn)).map V.int))=H1 at sg hg1 ⊢;refine⟨lg,rfl,⟨_,bx.of hg1⟩,fun lm hlm=>?_⟩;have ew:aW st.worn=(df (av st.worn)).filter fun g=>decide (wr st.worn g≠g):=rfl;rw[ew]at k;generalize df (av st.worn)=ks at hg1 ksl ksm k
  refine cp (K:=K) (a:=lg) (xs:=ks.map V.int) (fun i σ HH=>∃ v:Option V,σ=[v,some (.ref p)]/\ay H1 HH/\HH lm=some (.lst (((ks.take i).filter fun g=>decide (wr st.worn g≠g)).map V.int)))
   ⟨none,rfl,ak hlm,ac⟩ (fun i σ HH _ ⟨_,_,s,_⟩=>bx.of (s _ _ hg1)) ?_ ?_
  ·rintro i y σ HH hi ⟨v,rfl,s2,hm2⟩
   obtain⟨g,hg,rfl⟩:=cf hi;have hil:i<ks.length:=(IG.mp hg).1;have gk:=(ksm g).mp (Jc hg);have S2:=(S.mono sg).mono s2
   have tk:ks.take (i+1)=ks.take i++[g]:=by rw[Jr,hg,Js]
   have ll:((ks.take i).filter fun g=>decide (wr st.worn g≠g)).length<=64:=IY (JO _ _) (by rw[Jm];omega);refine xY ⟨_,rfl,p,B.dx,_,rfl,S2.ob,nW B,_,rfl,p,B,st,g,rfl,S2,sm g gk,?_⟩;rw[gu gk];refine⟨_,rfl,rfl,_,rfl,?_⟩
   by_cases hm:wr st.worn g=g
   ·rw[show (!decide (V.int (wr st.worn g)=V.int g))=false by rw[hm];simp]
    refine aw ⟨_,rfl,s2,?_⟩
    have fg:List.filter (fun g=>decide (wr st.worn g≠g)) [g]=[]:=by rw[JM,Ir (fun z=>(Jq z) hm)];rfl
    rw[tk,JW,fg];simpa using hm2
   ·rw[show (!decide (V.int (wr st.worn g)=V.int g))=true by simpa using hm]
    refine bc ⟨_,rfl,_,hm2,by rw[Iq];exact aQ (by omega),?_⟩;refine⟨_,rfl,bz s2 hlm,?_⟩
    have fg:List.filter (fun g=>decide (wr st.worn g≠g)) [g]=[g]:=by rw[JM,Iu (ID hm)];rfl
    rw[ac,tk,JW,fg,IQ];rfl
  ·rintro σ HH ⟨v,rfl,s2,hm2⟩
   rw[Iq,Jp]at hm2;exact k lm HH (sg.free hlm) (sg.trans s2) hm2
theorem uw (F:dt K "ring_with" "ring_with" iI f fd)(aI:aM P w K mg base (h9 P w) c.C "wears" 3 ["self","guest"] (iz c)) : aR P w K mg base (h9 P w) 5 f fd ["hall","guest"] (yO c):=by
 refine F.okX fu (fun vs H Q E h=>?_) (fun cdv A outer s H vs Q E hr h=>?_)
 ·obtain⟨p,B,st,g,rfl,_⟩:=h
  rfl
 ·obtain⟨p,B,st,g,rfl,S,G,h64,smk,sm,k⟩:=h
  have hu:=eO hr
  refine⟨_,ae (bD 2 fu.nd (dz (eE (pv 1)))) (
   ae (bD 3 fu.nd (cU aI (pv 0) U.cl hr.m bU (eE (pv 1)))) (
   ae (wj PassesOwn.leaving (az ji (pv 3) (pv 1) (aG _)) (ae (aN (eR Jd Ja Jb bK (pv 2) (eE (pv 3)))) (
   ag (bD 3 fu.nd (cU aI (pv 0) U.cl hr.m bU (eE (pv 3))))))) (
   ag (aq (pv 2))))),?_⟩
  have nW:(bB B).lookup ("wears" : Str)=none:=tY B (by decide +kernel);refine⟨_,rfl,by show 1<=sizeLine;decide,fun l hl=>?_⟩;have s1:=ak (o:=.lst [V.int g]) hl;have hl1:upd H l (.lst [V.int g]) l=some (.lst ((bd (wr st.worn) g 1).map V.int)):=ac;generalize upd H l (.lst [V.int g])=H1 at s1 hl1 ⊢;have S1:=S.mono s1;refine⟨_,rfl,p,B.dx,_,rfl,S1.ob,nW,_,rfl,p,B,st,g,rfl,S1,sm,?_⟩
  by_cases hg:g∈av st.worn
  ·have P:=jk G
   have R:=P.ring hg;have ol:=P.ord_le hg;rw[Iu (bN.mpr hg)]at k;rw[gu hg];unfold cV at k;generalize r9 (wr st.worn) st.worn.length g=M at R k ol;have i1:aS (wr st.worn) 1 g=wr st.worn g:=rfl;rw[<-i1];refine⟨fun n σ HH=>∃ i,n=M-i/\1<=i/\i<=M/\σ=[some (.ref p),some (.int g),some (.ref l),some (.int (aS (wr st.worn) i g))]/\ay H HH/\HH l=some (.lst ((bd (wr st.worn) g i).map V.int)),⟨_,1,rfl,Ix _,R.1,rfl,s1,hl1⟩,?_⟩;rintro n σ HH ⟨i,rfl,h1,hM,rfl,s2,hl2⟩;refine⟨_,rfl,_,rfl,rfl,_,rfl,?_⟩
   by_cases e:aS (wr st.worn) i g=g
   ·rw[show (!decide (V.int (aS (wr st.worn) i g)=V.int g))=false by rw[e];simp]
    have:i=M:=by
     by_cases hlt:i<M
     ·exact absurd e (R.2.2 i (by omega) hlt)
     ·omega
    rw[this]at hl2;exact aw ⟨_,rfl,k l HH hl s2 hl2⟩
   ·rw[show (!decide (V.int (aS (wr st.worn) i g)=V.int g))=true by simpa using e]
    have hlt:i<M:=by
     by_cases hlt:i<M
     ·exact hlt
     ·have:i=M:=by omega
      rw[this]at e;exact absurd R.2.1 e
    have ik:aS (wr st.worn) i g∈av st.worn:=jF P.cl hg i;refine bc ⟨fun σ' H'=>σ'=[some (.ref p),some (.int g),some (.ref l),some (.int (aS (wr st.worn) (i+1) g))]/\ay H H'/\H' l=some (.lst ((bd (wr st.worn) g (i+1)).map V.int)),fun σ' H' ⟨a1,a2,a3⟩=>⟨M-(i+1),by omega,i+1,rfl,by omega,by omega,a1,a2,a3⟩,?_⟩;refine⟨_,rfl,.inl ⟨rfl,_,bx.of hl2⟩,_,rfl,l,_,_,rfl,rfl,hl2,by rw[Iq,jI];exact aQ (by omega),?_⟩;have s3:ay H (upd HH l (.lst ((bd (wr st.worn) g i).map V.int++[V.int (aS (wr st.worn) i g)]))):=bz s2 hl
    have hl3:upd HH l (.lst ((bd (wr st.worn) g i).map V.int++[V.int (aS (wr st.worn) i g)])) l=some (.lst ((bd (wr st.worn) g (i+1)).map V.int)):=by rw[ac,kR,IQ];rfl
    generalize upd HH l (.lst ((bd (wr st.worn) g i).map V.int++[V.int (aS (wr st.worn) i g)]))=H3 at s3 hl3 ⊢;have S3:=S.mono s3;refine⟨_,rfl,p,B.dx,_,rfl,S3.ob,nW,_,rfl,p,B,st,_,rfl,S3,smk _ ik,?_⟩;rw[gu ik];exact⟨rfl,s3,hl3⟩
  ·have en:look st.worn g=none:=by
    cases e:look st.worn g with
    | none=>rfl
    | some m=>exact absurd (bN.mp (by rw[e];rfl)) hg
   rw[Ir (by rw[en];simp)]at k;rw[en];exact fun dx H' s hx=>k dx H' (s1.trans s) hx
theorem vY (F:dt K "rings_of" "rings_of" jx f fd)(tH:bb P w K mg base "strays" 4 ["hall"] (wA c))(kC:o8 P w K mg base "ring_with" 5 ["hall","guest"] (yO c)) : aR P w K mg base c0 6 f fd ["hall"] (yP c):=by
 refine F.ok dI (fun vs H Q E h=>?_) (fun cdv A outer s H vs Q E hr h=>?_)
 ·obtain⟨p,B,st,rfl,_⟩:=h
  rfl
 ·obtain⟨p,B,st,rfl,S,G,h64,smk,k⟩:=h
  have hu:=eO hr;have nil0:(0:Nat)<=sizeLine:=Jg _
  refine⟨_,ae (bD 1 dI.nd (xH zh (by rfl) T.bset PyProof.Rows.boot_set)) (
   ae (bD 2 dI.nd (dz aD)) (
   ae (gK Jy rfl (cR (ba tH hr.m rfl (eE (pv 0)))) (oC 3 dI.nd) (ag (aO (az zP (pv 3) (pv 1) rfl) (ae (bD 4 dI.nd (Bi kC hr.m rfl Dq (jN (pv 0) (pv 3)))) (
   ae (gK Jy rfl (cR (pv 4)) (oC 5 dI.nd) (ag (aN (eR PySem.F.plainAttrs_set PySem.F.slot_set_add PySem.F.type_set_add CA (pv 1) (eE (pv 5)))))) (
   ag (aN (eR Jd Ja Jb bK (pv 2) (eE (pv 4))))))) (ax)))) (
   ag (aq (pv 2))))),?_⟩
  have P:=jk G;obtain⟨w1,w2,w3,w4⟩:=P.wrong;refine⟨rfl,fun lp hlp=>?_⟩;have sA:=ak (o:=.set (fun _=>false) 0) hlp;have hp1:upd H lp (.set (fun _=>false) 0) lp=some (.set (fun _=>false) 0):=ac;generalize upd H lp (.set (fun _=>false) 0)=H1 at sA hp1 ⊢;refine⟨nil0,fun lr hlr=>?_⟩;have sB:=ak (o:=.lst []) hlr;have lr0:H lr=none:=sA.free hlr;have hr1:upd H1 lr (.lst []) lr=some (.lst (([]:List Addr).map V.ref)):=ac;have hp2:=sB _ _ hp1;generalize upd H1 lr (.lst [])=H2 at sB hr1 hp2 ⊢;refine⟨_,rfl,p,B,st,rfl,(S.mono sA).mono sB,G,h64,smk,fun ls H3 hls s3 h3=>?_⟩;have lplr:lp≠lr:=bQ hp2 hr1 (by intro z;cases z)
  have lsr:ls≠lr:=fun z=>by rw[z,hr1]at hls;cases hls
  have lsp:ls≠lp:=fun z=>by rw[z,hp2]at hls;cases hls
  refine⟨ls,rfl,⟨_,bx.of h3⟩,cp (K:=K) (a:=ls) (xs:=(aW st.worn).map V.int) (fun i σ HH=>∃ (Sf:Int->Bool)(n:Nat)(as:List Addr)(v3 v4 v5:Option V),σ=[some (.ref p),some (.ref lp),some (.ref lr),v3,v4,v5]/\ay H HH/\HH ls=some (.lst ((aW st.worn).map V.int))/\HH lp=some (.set Sf n)/\(∀ y,Sf y=decide (y∈(qR st.worn i).1))/\n<=(qR st.worn i).1.length /\
    HH lr=some (.lst (as.map V.ref))/\Paired (fun a (r:List Int)=>HH a=some (.lst (r.map V.int))) as (qR st.worn i).2/\(∀ a∈as,H a=none)/\lr∉as)
   ⟨_,0,[],none,none,none,rfl,(sA.trans sB).trans s3,h3,s3 _ _ hp2,fun y=>rfl,Ix _,s3 _ _ hr1,.nil,(fun a h=>nomatch h),(fun h=>nomatch h)⟩ (fun i σ HH _ ⟨_,_,_,_,_,_,_,_,h,_⟩=>bx.of h) ?_ ?_⟩
  ·rintro i y σ HH hi ⟨Sf,n,as,v3,v4,v5,rfl,s4,hls4,hp4,hS4,hn4,hr4,hpa,has,hnr⟩
   obtain⟨g,hg,rfl⟩:=cf hi;have hil:i<(aW st.worn).length:=(IG.mp hg).1;obtain⟨gk,gw⟩:=w1 g (Jc hg);obtain⟨q1,q2,q3,q4,q5⟩:=Bj P i;have qn:=yC hg;have lpa:=IU hpa;refine⟨_,rfl,_,rfl,lp,Sf,n,g,rfl,rfl,hp4,_,rfl,?_⟩;rw[hS4]
   by_cases hq:g∈(qR st.worn i).1
   ·rw[ID hq]
    have e:qR st.worn (i+1)=qR st.worn i:=by rw[qn];unfold mh;rw[Iu hq]
    refine aw ⟨Sf,n,as,_,_,_,rfl,s4,hls4,hp4,?_,?_,hr4,?_,has,hnr⟩
    ·rw[e];exact hS4
    ·rw[e];exact hn4
    ·rw[e];exact hpa
   ·rw[IE hq]
    have e:qR st.worn (i+1)=((qR st.worn i).1++cV (wr st.worn) st.worn.length g,(qR st.worn i).2++[cV (wr st.worn) st.worn.length g]):=by rw[qn];unfold mh;rw[Ir hq]
    refine bc ⟨_,rfl,_,rfl,p,B,st,g,rfl,S.mono s4,G,h64,smk,smk g gk,?_⟩;rw[Iu (bN.mpr gk)];intro l H5 hl s5 h5
    have rl:(cV (wr st.worn) st.worn.length g).length<=st.worn.length:=by rw[sR];exact P.ord_le gk
    generalize cV (wr st.worn) st.worn.length g=r at e h5 rl
    have llr:l≠lr:=fun z=>by rw[z,hr4]at hl;cases hl
    have llp:l≠lp:=fun z=>by rw[z,hp4]at hl;cases hl
    refine⟨_,rfl,l,rfl,⟨_,bx.of h5⟩,cp (K:=K) (a:=l) (xs:=r.map V.int) (fun j σ HK=>∃ (Sg:Int->Bool)(n':Nat)(v5:Option V),σ=[some (.ref p),some (.ref lp),some (.ref lr),some (.int g),some (.ref l),v5]/\HK lp=some (.set Sg n')/\(∀ y,Sg y=decide (y∈(qR st.worn i).1++r.take j))/\n'<=(qR st.worn i).1.length+j/\(∀ b o,H5 b=some o->b≠lp->HK b=some o))
     ⟨Sf,n,_,rfl,s5 _ _ hp4,(fun y=>by rw[List.take_zero,Kb];exact hS4 y),hn4,fun b o z _=>z⟩ (fun j σ HK _ ⟨_,_,_,_,_,_,_,kk⟩=>bx.of (kk _ _ h5 llp)) ?_ ?_⟩
    ·rintro j y σ HK hj ⟨Sg,n',v5,rfl,hp6,hS6,hn6,kk⟩
     obtain⟨x,hx,rfl⟩:=cf hj;have hjl:j<r.length:=(IG.mp hx).1;refine⟨_,rfl,.inr (.inr (.inr ⟨rfl,Sg,n',hp6⟩)),_,rfl,lp,Sg,n',x,rfl,rfl,hp6,by omega,?_⟩;refine⟨_,_,_,rfl,ac,fun y=>?_,?_,fun b o z nb=>by rw[af nb];exact kk b o z nb⟩
     ·rw[hS6,Jr,hx,Js,<-List.append_assoc,<-Bool.decide_or]
      congr 1
      rw[IN (s:=(qR st.worn i).1++r.take j),IF]
     ·split<;>omega
    ·rintro σ HK ⟨Sg,n',v5,rfl,hp6,hS6,hn6,kk⟩
     rw[Iq]at hn6;have hr6:=kk _ _ (s5 _ _ hr4) (IJ lplr);refine⟨_,rfl,.inl ⟨rfl,_,bx.of hr6⟩,_,rfl,lr,_,_,rfl,rfl,hr6,by rw[Iq];exact aQ (by omega),?_⟩
     have up:∀ b o,HK b=some o->b≠lr->upd HK lr (.lst (as.map V.ref++[V.ref l])) b=some o:=fun b o z nb=>by rw[af nb];exact z
     refine⟨Sg,n',as++[l],_,_,_,rfl,fun b o z=>up b o (kk b o ((s4.trans s5) b o z) (ah z hlp)) (ah z lr0),up _ _ (kk _ _ (s5 _ _ hls4) lsp) lsr,up _ _ hp6 lplr,fun y=>?_,?_,by rw[ac,IQ];rfl,?_,fun a ha=>?_,fun z=>?_⟩
     ·rw[hS6,e,Iq,Jp]
     ·rw[e];show n'<=((qR st.worn i).1++r).length;rw[IK];exact hn6
     ·rw[e]
      refine bJ (Wz.Paired.mapP' hpa fun a q ha z=>up a _ (kk a _ (s5 _ _ z) (bQ z hp4 (by intro q;cases q))) fun q=>hnr (by rw[<-q];exact ha)) (.cons (up _ _ (kk _ _ h5 llp) llr) .nil)
     ·rcases IN.mp ha with z | z
      ·exact has a z
      ·rw[IF.mp z];exact s4.free hl
     ·rcases IN.mp z with z | z
      ·exact hnr z
      ·exact llr (IF.mp z).symm
  ·rintro σ HH ⟨Sf,n,as,v3,v4,v5,rfl,s4,hls4,hp4,hS4,hn4,hr4,hpa,has,hnr⟩
   rw[xK st.worn (by rw[Iq];exact Ix _)]at hpa;exact⟨_,rfl,k lr as HH lr0 s4 hr4 hpa has⟩
theorem qI (F:dt K "__init__" "Keeper.__init__" fV f fd) : aR P w K mg base c0 1 f fd ["self","hall"] (xU ck):=by
 refine F.ok rh (fun vs H Q E h=>?_) (fun cdv A outer s H vs Q E hr h=>?_)
 ·obtain⟨k,dx,p,rfl,_⟩:=h
  rfl
 ·obtain⟨k,dx,p,rfl,hk,q⟩:=h
  refine⟨_,ae (di (pv 0) (pv 1) rfl) (
   ae (di (pv 0) (e6) rfl) (
   ae (di (pv 0) (aj) rfl) (
   ag (di (pv 0) (e6) rfl)))),?_⟩
  refine⟨_,rfl,_,rfl,k,ck,dx,[],rfl,hk,UO.k.cl,UO.k.nH,(by show 0<1000;decide),?_⟩;refine⟨_,rfl,k,ck,dx,_,rfl,ac,UO.k.cl,UO.k.nP,(by show 1<1000;decide),?_⟩;refine⟨_,rfl,k,ck,dx,_,rfl,ac,UO.k.cl,UO.k.nD,(by rw[Dk];show 2<1000;decide),?_⟩;refine⟨_,rfl,k,ck,dx,_,rfl,ac,UO.k.cl,UO.k.nB,(by rw[FF];show 3<1000;decide),?_⟩;rw[jT,jT,jT,sP];exact q
theorem oY (F:dt K "state" "Keeper.state" e9 f fd) : aR P w K mg base c0 1 f fd ["self"] (pz ck):=by
 refine F.ok o5 (fun vs H Q E h=>?_) (fun cdv A outer s H vs Q E hr h=>?_)
 ·obtain⟨k,B,s,rfl,_⟩:=h
  rfl
 ·obtain⟨k,B,s,rfl,S,q⟩:=h
  refine⟨_,ae (aO (ed (xG (aX (pv 0) rfl))) (ag (aq (am))) (ax)) (
   ae (aO (ed (yx (aX (pv 0) rfl))) (ag (aq (am))) (ax)) (
   ae (aO (az bT (aX (pv 0) rfl) (cr cC (by rfl) T.len JU (eE (aX (pv 0) rfl))) (aG _)) (ag (aq (am))) (ax)) (
   ag (aq (am))))),?_⟩
  obtain⟨pl,dn,br⟩:=s;refine⟨_,rfl,k,ck,B.dx,_,_,rfl,S.ob,UO.k.cl,UO.k.nP,lJ,_,rfl,?_⟩
  cases pl with
  | none=>exact bc q
  | some ps =>
   refine aw ⟨_,rfl,k,ck,B.dx,_,_,rfl,S.ob,UO.k.cl,UO.k.nB,vx,_,rfl,?_⟩
   cases br with
   | some b=>exact bc q
   | none =>
    obtain⟨as,h1,h2⟩:=S.pl ps rfl;have al:=IU h2;refine aw ⟨_,rfl,k,ck,B.dx,_,_,rfl,S.ob,UO.k.cl,UO.k.nD,jG,_,rfl,k,ck,B.dx,_,_,rfl,S.ob,UO.k.cl,UO.k.nP,lJ,B.pl,_,rfl,.inl (bx.of h1),rfl,_,rfl,?_⟩;rw[Iq,al];have q:Q (.str (if dn=ps.length then "done" else "standing")) H:=q
    by_cases z:dn=ps.length
    ·rw[Iu z]at q
     rw[ID (show V.int (dn:Int)=V.int (ps.length:Int) by rw[z])];exact bc q
    ·rw[Ir z]at q
     rw[IE (show ¬ V.int (dn:Int)=V.int (ps.length:Int) from fun y=>z (by have:=V.int.inj y;omega))];exact aw q
theorem jh (F:dt K "pairs_left" "Keeper.pairs_left" c6 f fd)(bh:aM P w K mg base c0 ck "state" 1 ["self"] (pz ck)) : aR P w K mg base c0 2 f fd ["self"] (uM ck):=by
 refine F.ok jp (fun vs H Q E h=>?_) (fun cdv A outer s H vs Q E hr h=>?_)
 ·obtain⟨k,B,s,rfl,_⟩:=h
  rfl
 ·obtain⟨k,B,s,rfl,S,q⟩:=h
  refine⟨_,ae (aO (az ji (e7 bh (pv 0) UO.k.cl hr.m c4) (am) (aG _)) (ag (aq (dz aD))) (ax)) (
   ag (aq (jj uI (aX (pv 0) rfl) (jQ (aX (pv 0) rfl)) pq))),?_⟩
  refine⟨_,rfl,k,B.dx,_,rfl,S.ob,gX (by decide +kernel),k,B,s,rfl,S,rfl,_,rfl,?_⟩
  by_cases w:s.word="standing"
  ·rw[ID (show V.str s.word=V.str "standing" by rw[w])]
   obtain⟨ps,e1,e2,e3⟩:=dh.stands w;rw[dh.rest_of e1 e2]at q;refine aw ⟨_,rfl,k,ck,B.dx,_,_,rfl,S.ob,UO.k.cl,UO.k.nP,lJ,_,rfl,k,ck,B.dx,_,_,rfl,S.ob,UO.k.cl,UO.k.nD,jG,(s.dn:Int),rfl,xy ?_⟩
   have e4:s.planV B=.ref B.pl:=by unfold dh.planV;rw[e1]
   rw[e4];exact Bt s.dn (S.pl ps e1) fun p H1 hp s1 r1=>q p H1 hp s1 r1
  ·rw[IE (show ¬ V.str s.word=V.str "standing" from fun y=>w (V.str.inj y))]
   rw[dh.stands_not w]at q;exact bc ⟨Jg _,fun p hp=>q p _ hp (ak hp) ⟨[],ac,.nil⟩⟩
theorem qJ (F:dt K "left" "Keeper.left" fW f fd)(bj:aM P w K mg base c0 ck "pairs_left" 2 ["self"] (uM ck)) : aR P w K mg base c0 3 f fd ["self"] (yL ck):=by
 refine F.ok ri (fun vs H Q E h=>?_) (fun cdv A outer s H vs Q E hr h=>?_)
 ·obtain⟨k,B,s,rfl,_⟩:=h
  rfl
 ·obtain⟨k,B,s,rfl,S,q⟩:=h
  refine⟨_,ag (aq (cr cC (by rfl) T.len JU (eE (e7 bj (pv 0) UO.k.cl hr.m c4)))),?_⟩;refine⟨_,rfl,k,B.dx,_,rfl,S.ob,gX (by decide +kernel),k,B,s,rfl,S,fun l H1 hl s1 r1=>?_⟩;obtain⟨as,h1,h2⟩:=r1;refine⟨l,_,rfl,.inl (bx.of h1),?_⟩;rw[Iq,IU h2];exact q H1 s1
theorem r0 (F:dt K "due" "Keeper.due" gP f fd)(bh:aM P w K mg base c0 ck "state" 1 ["self"] (pz ck)) : aR P w K mg base c0 2 f fd ["self"] (xT ck):=by
 refine F.ok sf (fun vs H Q E h=>?_) (fun cdv A outer s H vs Q E hr h=>?_)
 ·obtain⟨k,B,s,rfl,_⟩:=h
  rfl
 ·obtain⟨k,B,s,rfl,S,q⟩:=h
  refine⟨_,ae (aO (az ji (e7 bh (pv 0) UO.k.cl hr.m c4) (am) (aG _)) (ag (aq (e6))) (ax)) (
   ag (aq (aT pe (aX (pv 0) rfl) (aX (pv 0) rfl) (fun _ _=>rfl)))),?_⟩
  refine⟨_,rfl,k,B.dx,_,rfl,S.ob,gX (by decide +kernel),k,B,s,rfl,S,rfl,_,rfl,?_⟩
  by_cases w:s.word="standing"
  ·rw[ID (show V.str s.word=V.str "standing" by rw[w])]
   obtain⟨ps,e1,e2,e3⟩:=dh.stands w;have le:=(S.le ps e1).1
   have e4:s.planV B=.ref B.pl:=by unfold dh.planV;rw[e1]
   obtain⟨p,hp⟩:∃ p,ps[s.dn]? = some p:=⟨_,IM (by omega)⟩;rw[dh.due_of e1 e2,hp]at q;obtain⟨as,h1,h2⟩:=S.pl ps e1;obtain⟨b,hb,hB⟩:=oB h2 hp;refine aw ⟨_,rfl,k,ck,B.dx,_,_,rfl,S.ob,UO.k.cl,UO.k.nP,lJ,_,rfl,k,ck,B.dx,_,_,rfl,S.ob,UO.k.cl,UO.k.nD,jG,B.pl,_,_,_,e4,rfl,bx.of h1,cz (j:=s.dn) (by rw[Ji,hb];rfl),q b hB⟩
  ·rw[IE (show ¬ V.str s.word=V.str "standing" from fun y=>w (V.str.inj y))]
   rw[show s.due=none by unfold dh.due;rw[dh.stands_not w];rfl]at q;exact bc q
theorem qK (F:dt K "step" "Keeper.step" fY f fd)(c9:aM P w K mg base c0 ck "due" 2 ["self"] (xT ck))(bA:aM P w K mg base (h9 P w) ck "exchange" 5 ["self","one","other"] (uL c ck)) : aR P w K mg base (h9 P w) 6 f fd ["self"] (yM c ck cq):=by
 refine F.okX jq (fun vs H Q E h=>?_) (fun cdv A outer s H vs Q E hr h=>?_)
 ·obtain⟨k,D,s,B,st,rfl,_⟩:=h
  rfl
 ·obtain⟨k,D,s,B,st,rfl,I,ft,sp,q1,q2⟩:=h
  refine⟨_,ae (bD 1 jq.nd (e7 c9 (pv 0) UO.k.cl hr.m c4)) (
   ae (aO (ed (xG (pv 1))) (ag (jm UO.eP fF rfl hr.hd rfl UO.mP (am))) (ax)) (
   ae (aN (cU bA (pv 0) UO.k.cl hr.m bU (jN (aT aK (pv 1) (aj) (fun _ _=>rfl)) (aT aK (pv 1) (aj) (fun _ _=>rfl))))) (
   ag (aq (pv 1))))),?_⟩
  refine⟨_,rfl,k,D.dx,_,rfl,I.kp.ob,gX (by decide +kernel),k,D,s,rfl,I.kp,vh fun v hv=>?_⟩
  cases e:s.due with
  | none =>
   rw[e]at hv;rw[show v=.non from hv];exact⟨_,rfl,_,rfl,bc (q1 e _ (ay.refl _))⟩
  | some p =>
   rw[e]at hv;obtain⟨b,rfl,hb⟩:=hv;obtain⟨sa,sb,hj⟩:=sp p e;refine⟨_,rfl,_,rfl,aw ⟨_,rfl,k,D.dx,_,rfl,I.kp.ob,gX (by decide +kernel),_,rfl,b,_,_,_,rfl,rfl,c7.of hb,rfl,_,rfl,b,_,_,_,rfl,rfl,c7.of hb,rfl,k,D,s,B,st,p.1,p.2,rfl,I,ft,sa,sb,?_⟩⟩;rw[Iu (show aE st (.exch p.1 p.2)=.done from hj)];intro H1 mv;obtain⟨_,_,_,k1,_⟩:=id mv;exact⟨_,rfl,q2 p e _ H1 ⟨b,rfl,k1 _ _ hb (I.hall.tup hb) fun z=>by rw[z,I.kp.ob]at hb;cases hb⟩ mv⟩
theorem qH (F:dt K "come" "Keeper.come" fU f fd)(i9:aM P w K mg base (h9 P w) c.C "come" 2 ["self","guest"] (Bw c)) : aR P w K mg base (h9 P w) 3 f fd ["self","guest"] (yK c ck):=by
 refine F.okX rg (fun vs H Q E h=>?_) (fun cdv A outer s H vs Q E hr h=>?_)
 ·obtain⟨k,D,s,B,st,g,rfl,_⟩:=h
  rfl
 ·obtain⟨k,D,s,B,st,g,rfl,I,ft,sg,q⟩:=h
  refine⟨_,ag (aN (cU i9 (aX (pv 0) rfl) U.cl hr.m bU (eE (pv 1)))),?_⟩;have nX:(bB B).lookup ("come" : Str)=none:=tY B (by decide +kernel);refine⟨_,rfl,k,ck,D.dx,_,_,rfl,I.kp.ob,UO.k.cl,UO.k.nH,jH,D.p,B.dx,_,rfl,I.hall.ob,nX,_,rfl,D.p,B,st,g,rfl,I.hall,ft,sg,?_⟩;unfold rG;unfold sr at q
  by_cases hj:aE st (.come g)=.done
  ·rw[Iu hj]at q ⊢
   rintro H1 ⟨B1,S1,k1,f1,t1⟩;exact q H1 (m4 I S1 k1 f1 t1 (ay.refl _))
  ·rw[Ir hj]at q ⊢
   exact q
theorem uk (F:dt K "go" "Keeper.go" fw f fd)(my:aM P w K mg base (h9 P w) c.C "go" 4 ["self","guest"] (FY c))(bj:aM P w K mg base c0 ck "pairs_left" 2 ["self"] (uM ck))(cI:aM P w K mg base c0 c.C "moment" 1 ["self"] (rA c.C)) : aR P w K mg base (h9 P w) 5 f fd ["self","guest"] (Dx c ck):=by
 refine F.okX uF (fun vs H Q E h=>?_) (fun cdv A outer s H vs Q E hr h=>?_)
 ·obtain⟨k,D,s,B,st,g,rfl,_⟩:=h
  rfl
 ·obtain⟨k,D,s,B,st,g,rfl,I,ft,sg,hm,q⟩:=h
  refine⟨_,ae (aN (cU my (aX (pv 0) rfl) U.cl hr.m bU (eE (pv 1)))) (
   ag (aO (fK (cr (zf rfl) (by rfl) T.any PyProof.Rows.boot_any (eE (fm (so:=ai fw) (N:=ox) (N':=["pair","guest"]) (src:=[none,some 1]) rfl rfl B8 rfl (cR (e7 bj (pv 0) UO.k.cl hr.m c4)) (fun cl C s2 H2 ex=>⟨oC 0 (show (["pair","guest"]:List Str).Nodup by decide +kernel),fo,ux (EG K) (pv 1) (pv 0) rfl⟩))))) (ag (di (pv 0) (e7 cI (aX (pv 0) rfl) U.cl hr.m c4) rfl)) (ax))),?_⟩
  have nX:(bB B).lookup ("go" : Str)=none:=tY B (by decide +kernel);refine⟨_,rfl,k,ck,D.dx,_,_,rfl,I.kp.ob,UO.k.cl,UO.k.nH,jH,D.p,B.dx,_,rfl,I.hall.ob,nX,_,rfl,D.p,B,st,g,rfl,I.hall,ft,sg,hm,?_⟩;unfold rG;unfold sr at q
  by_cases hj:aE st (.go g)=.done
  ·rw[Iu hj]at q ⊢
   rintro H1 ⟨B1,S1,k1,f1,t1⟩;have K1:cJ ck H1 k D s:=I.kp.kept k1 I.kB I.pB fun b xs e=>I.hall.tup e;refine⟨_,rfl,k,D.dx,_,rfl,K1.ob,gX (by decide +kernel),k,D,s,rfl,K1,fun l H2 hl s2 r2=>?_⟩;obtain⟨as2,h2,_⟩:=id r2;refine⟨l,rfl,⟨_,bx.of h2⟩,fun q1 hq1=>wT (K:=K) (f:=AE g) (rest:=[some (.int g)]) hq1 r2 (IY (dh.rest_len K1.le) (by decide)) (fun p b HK Q' _ hB _ kq=>⟨_,rfl,_,rfl,b,_,rfl,.inr (c7.of hB),rfl,rfl,kq HK (ay.refl _)⟩) fun H3 s3 h3=>?_⟩;refine⟨q1,_,rfl,bx.of h3,_,rfl,?_⟩;rw[List.any_map];have g3:=s2.trans s3;have K3:=K1.mono g3;have S3:=S1.mono g3
   have nxt:s.nextD (.go g) (st.deeds.length+1)=if s.rest.any (AE g)=true then { s with brk:=some (st.deeds.length+1) } else s:=rfl
   show if s.rest.any (AE g)=true then _ else _
   by_cases z:s.rest.any (AE g)=true
   ·rw[Iu z]at nxt
    have nM:(bB B1).lookup ("moment" : Str)=none:=tY B1 (by decide +kernel);rw[Iu z];refine⟨_,rfl,k,ck,D.dx,_,_,rfl,K3.ob,UO.k.cl,UO.k.nH,jH,D.p,B1.dx,_,rfl,S3.ob,nM,D.p,B1,_,rfl,S3,_,rfl,k,ck,D.dx,_,rfl,K3.ob,UO.k.cl,UO.k.nB,(by show 4<1000;decide),?_⟩;rw[show qi D s=rF _ _ _ _ from rfl,kj];refine q _ ?_;rw[nxt]
    have dl:(after st (.go g)).deeds.length=st.deeds.length+1:=by unfold after;simp
    rw[show ((after st (.go g)).deeds.length:Int)=(st.deeds.length:Int)+1 by rw[dl];rfl];exact qp I S1 k1 f1 t1 g3 { s with brk:=some ((st.deeds.length:Int)+1) } rfl fun ps e=>(I.kp.le ps e).1
   ·rw[Ir z]at nxt ⊢
    refine q _ ?_;rw[nxt];exact m4 I S1 k1 f1 t1 g3
  ·rw[Ir hj]at q ⊢
   exact q
theorem kN (F:dt K "exchange" "Keeper.exchange" dC f fd)(c9:aM P w K mg base c0 ck "due" 2 ["self"] (xT ck))(eX:aM P w K mg base (h9 P w) c.C "exchange" 4 ["self","one","other"] (By c))(cI:aM P w K mg base c0 c.C "moment" 1 ["self"] (rA c.C)) : aR P w K mg base (h9 P w) 5 f fd ["self","one","other"] (uL c ck):=by
 refine F.okX fM (fun vs H Q E h=>?_) (fun cdv A outer s H vs Q E hr h=>?_)
 ·obtain⟨k,D,s,B,st,a,b,rfl,_⟩:=h
  rfl
 ·obtain⟨k,D,s,B,st,a,b,rfl,I,ft,sa,sb,q⟩:=h
  have two:(2:Nat)<=sizeLine:=by decide
  refine⟨_,ae (bD 3 fM.nd (e7 c9 (pv 0) UO.k.cl hr.m c4)) (
   ae (aN (cU eX (aX (pv 0) rfl) U.cl hr.m bU (jN (pv 1) (pv 2)))) (
   ag (aO (az (EF 2 (FC hr (by decide))) (pv 3) (bZ (jN (bZ (jN (pv 1) (pv 2))) (bZ (jN (pv 2) (pv 1))))) rfl) (ag (zU (pv 0) (aj) Eg)) (ag (aO (ed (yx (pv 3))) (ag (di (pv 0) (e7 cI (aX (pv 0) rfl) U.cl hr.m c4) rfl)) (ax)))))),?_⟩
  refine⟨_,rfl,k,D.dx,_,rfl,I.kp.ob,gX (by decide +kernel),k,D,s,rfl,I.kp,vh fun v hv=>?_⟩;have nX:(bB B).lookup ("exchange" : Str)=none:=tY B (by decide +kernel);refine⟨_,rfl,k,ck,D.dx,_,_,rfl,I.kp.ob,UO.k.cl,UO.k.nH,jH,D.p,B.dx,_,rfl,I.hall.ob,nX,_,rfl,_,rfl,D.p,B,st,a,b,rfl,I.hall,ft,sa,sb,?_⟩;unfold rG
  by_cases hj:aE st (.exch a b)=.done
  ·rw[Iu hj]at q ⊢
   intro H1 mv;obtain⟨B1,S1,k1,f1,t1⟩:=mv;have hv:=hv.mono (H':=H1) fun b xs e=>k1 _ _ e (I.hall.tup e);have K1:cJ ck H1 k D s:=I.kp.kept k1 I.kB I.pB fun b xs e=>I.hall.tup e;refine⟨_,rfl,_,rfl,_,rfl,two,fun t2 h2=>⟨_,rfl,_,rfl,two,fun t3 h3=>⟨two,fun t4 h4=>?_⟩⟩⟩;have g2:=ak (o:=.tup [.int a,.int b]) h2;have e2:upd H1 t2 (.tup [.int a,.int b]) t2=some (.tup [.int a,.int b]):=ac;generalize upd H1 t2 (.tup [.int a,.int b])=H2 at g2 e2 h3 h4 ⊢;have g3:=ak (o:=.tup [.int b,.int a]) h3;have e3:upd H2 t3 (.tup [.int b,.int a]) t3=some (.tup [.int b,.int a]):=ac;generalize upd H2 t3 (.tup [.int b,.int a])=H3 at g3 e3 h4 ⊢;have g4:=ak (o:=.tup [.ref t2,.ref t3]) h4;have e4:upd H3 t4 (.tup [.ref t2,.ref t3]) t4=some (.tup ([t2,t3].map V.ref)):=ac;generalize upd H3 t4 (.tup [.ref t2,.ref t3])=H4 at g4 e4 ⊢;have g14:=(g2.trans g3).trans g4;refine⟨t4,[t2,t3],_,_,rfl,.inr (c7.of e4),D4 (hv.mono fun b xs e=>g14 _ _ e),.cons (qU (g4 _ _ (g3 _ _ e2)) (mH _ _)) (.cons (qU (g4 _ _ e3) (mH _ _)) .nil),fun kb hkb=>⟨_,rfl,?_⟩⟩;have hkb:=hkb.trans Au;have K4:=K1.mono g14
   show if kb=true then _ else _
   have nxt:s.next a b (st.deeds.length+1)=match s.due with | none=>s | some p=>if qZ p a b=true then { s with dn:=s.dn+1 } else { s with brk:=some (st.deeds.length+1) }:=rfl
   cases kb with
   | true =>
    obtain⟨p,ep,es⟩:=hkb.mp rfl;rw[ep]at nxt;dsimp only at nxt;rw[Iu es]at nxt;refine bc ⟨_,rfl,k,ck,D.dx,_,_,rfl,K4.ob,UO.k.cl,UO.k.nD,jG,_,_,rfl,rfl,D.dx,_,K4.ob,(by show 4<1000;decide),?_⟩;rw[show qi D s=rF _ _ _ _ from rfl,vA];refine q _ ?_;rw[nxt];refine qp I S1 k1 f1 t1 g14 { s with dn:=s.dn+1 } rfl fun ps e=>?_;have e:s.plan=some ps:=e
    show s.dn+1<=ps.length
    have le:=(I.kp.le ps e).1;refine Nat.lt_of_le_of_ne le fun z=>?_
    have:s.rest=[]:=by
     unfold dh.rest;rw[e]
     cases s.brk with
     | none=>show ps.drop s.dn=[];rw[z,List.drop_length]
     | some _=>rfl
    unfold dh.due at ep;rw[this]at ep;cases ep
   | false =>
    refine aw ⟨_,rfl,_,rfl,?_⟩
    cases eo:s.due with
    | none =>
     rw[eo]at hv nxt;rw[show v=.non from hv];refine aw (q _ ?_);rw[nxt];exact m4 I S1 k1 f1 t1 g14
    | some p =>
     rw[eo]at hv nxt
     have ns:¬ qZ p a b=true:=fun z=>by have:=hkb.mpr ⟨p,eo,z⟩;cases this
     dsimp only at nxt;rw[Ir ns]at nxt;obtain⟨bp,ev,_⟩:=hv;rw[ev];have nM:(bB B1).lookup ("moment" : Str)=none:=tY B1 (by decide +kernel);have S4:=S1.mono g14;refine bc ⟨_,rfl,k,ck,D.dx,_,_,rfl,K4.ob,UO.k.cl,UO.k.nH,jH,D.p,B1.dx,_,rfl,S4.ob,nM,D.p,B1,_,rfl,S4,_,rfl,k,ck,D.dx,_,rfl,K4.ob,UO.k.cl,UO.k.nB,(by show 4<1000;decide),?_⟩;rw[show qi D s=rF _ _ _ _ from rfl,kj];refine q _ ?_;rw[nxt]
     have dl:(after st (.exch a b)).deeds.length=st.deeds.length+1:=by unfold after;simp
     rw[show ((after st (.exch a b)).deeds.length:Int)=(st.deeds.length:Int)+1 by rw[dl];rfl];exact qp I S1 k1 f1 t1 g14 { s with brk:=some ((st.deeds.length:Int)+1) } rfl fun ps e=>(I.kp.le ps e).1
  ·rw[Ir hj]at q ⊢
   exact q
theorem r6 (F:dt K "rings_line" "rings_line" eI f fd)(mw:bb P w K mg base "rings_of" 6 ["hall"] (yP c)) : aR P w K mg base c0 7 f fd ["hall"] (wz c):=by
 refine F.ok kx (fun vs H Q E h=>?_) (fun cdv A outer s H vs Q E hr h=>?_)
 ·obtain⟨p,B,st,rfl,_⟩:=h
  rfl
 ·obtain⟨p,B,st,rfl,S,hg,wl,sm,q⟩:=h
  refine⟨_,ae (uA (ix:=1) (so:=ai eI) (N:=lP) (N':=["ring"]) (src:=[none]) rfl rfl B8 rfl (cR (ba mw hr.m rfl (eE (pv 0)))) (fun cl C s2 H2 ex=>⟨oC 0 (show (["ring"]:List Str).Nodup by decide +kernel),fo,lT K (am) (fm (so:=_) (N:=["ring"]) (N':=["guest"]) (src:=[none]) rfl rfl Fu rfl (wf K (pv 0)) (fun cl C s2 H2 ex=>⟨oC 0 (show (["guest"]:List Str).Nodup by decide +kernel),fo,dH gW (by rfl) T.str JC (eE (pv 0))⟩))⟩) kx.nd rfl rfl) (
   ae (aO (az (EE 1 (FC hr (by decide))) (pv 1) (dz aD) (aG _)) (ag (aq (am))) (ax)) (
   ag (aq (lT K (am) (pv 1))))),?_⟩
  refine⟨_,rfl,p,B,st,rfl,S,hg,wl,sm,fun l as H1 hl s1 h1 p1 f1=>?_⟩;have PW:=jk hg;have al:=IU p1;obtain⟨rl,rsz⟩:=wm PW wl sm;refine⟨l,rfl,⟨_,bx.of h1⟩,fun q2 hq2=>qV (K:=K) hq2 ⟨as,h1,p1⟩ rl rsz fun H2 s2 h2=>?_⟩;refine⟨_,rfl,Jg _,fun l3 hl3=>?_⟩;have s3:=ak (o:=.lst []) hl3;refine⟨q2,l3,_,_,rfl,rfl,RD.succ (yD (s3 _ _ h2)),RD.succ (yD (ws:=[]) ac),fun b hb=>⟨_,rfl,?_⟩⟩;rw[show (if false=true then !b else b)=b from rfl];have sF:=(s1.trans s2).trans s3
  by_cases z:cu st.worn=[]
  ·rw[hb.mpr (by rw[z];rfl)]
   refine bc (show Q (.str "none") _ from ?_);have:=q _ sF;unfold iw at this;rw[Iu z]at this;exact this
  ·have nb:b=false:=by
    cases b with
    | false=>rfl
    | true =>
     have:=hb.mp rfl;injection this with _ this
     cases e:cu st.worn with
     | nil=>exact absurd e z
     | cons r rs=>rw[e]at this;cases this
   rw[nb];refine aw ⟨rfl,_,rfl,_,q2,(cu st.worn).map lX,rfl,rfl,bx.of (s3 _ _ h2),ti rl rsz,?_⟩;have:=q _ sF;unfold iw at this;rw[Ir z]at this;exact this
theorem oX (F:dt K "__init__" "Evening.__init__" e8 f fd)(MH:Gw P w K mg base c)(MK:Gx P w K mg base ck)(MF:Gv P w K mg base cb) : aR P w K mg base c0 3 f fd ["self"] (xS c ck ze):=by
 refine F.ok o4 (fun vs H Q E h=>?_) (fun cdv A outer s H vs Q E hr h=>?_)
 ·obtain⟨e,dx,rfl,_⟩:=h
  rfl
 ·obtain⟨e,dx,rfl,he,q⟩:=h
  refine⟨_,ae (di (pv 0) (FP MH U hr.m rfl) rfl) (
   ae (di (pv 0) (CN MK UO.k hr.m rfl (eE (aX (pv 0) rfl))) rfl) (
   ag (di (pv 0) (FO MF UO.f hr.m rfl) rfl))),?_⟩
  intro x hx1 nx nhx nex;refine⟨x,hx1,rfl,ac,fun B H1 S1 kp1 fr1=>⟨rfl,?_⟩⟩
  have s0:ay H (upd (upd H hx1 (.own x)) x (.ins c.C hx1 [])):=fun b o e'=>by rw[af (ah e' nx),af (ah e' nhx)];exact e'
  have ex:e≠x:=ah he nx;have he1:H1 e=some (.ins ze dx []):=kp1 _ _ (s0 _ _ he) ex;have s1:ay H H1:=fun b o e'=>kp1 b o (s0 b o e') (ah e' nx);have eB:e∉B.fp:=fun z=>S1.noins z he1;refine⟨_,rfl,e,ze,dx,[],rfl,he1,UO.e.cl,UO.e.nH,(by show 0<1000;decide),?_⟩;have st:∀ {G:Hp}{fs gs:List (Str×V)}{y:bP},aF c.C G x B y->G e=some (.ins ze dx fs)->aF c.C (upd G e (.ins ze dx gs)) x B y:=fun {G fs gs y} S ge=>S.kept (fp:=[e]) (fun b o e' n=>by rw[af (fun z=>n (by rw[z];exact IF.mpr rfl))];exact e') (fun z=>ex (IF.mp z).symm) (fun b hb z=>eB (by rw[<-IF.mp z];exact hb)) (fun b xs e' z=>by rw[IF.mp z,ge]at e';cases e');have S2:=st (gs:=aV "hall" (.ref x) []) S1 he1;have he2:upd H1 e (.ins ze dx (aV "hall" (.ref x) [])) e=some (.ins ze dx (aV "hall" (.ref x) [])):=ac
  have k2:∀ b o,H1 b=some o->b≠e->upd H1 e (.ins ze dx (aV "hall" (.ref x) [])) b=some o:=fun b o e' n=>by rw[af n];exact e'
  have t2:∀ {b:Addr},upd H1 e (.ins ze dx (aV "hall" (.ref x) [])) b=none->H1 b=none:=fun {b} z=>by
   cases e':H1 b with
   | none=>rfl
   | some o =>
    by_cases y:b=e
    ·rw[y,he2]at z;cases z
    ·rw[k2 b o e' y]at z;cases z
  generalize upd H1 e (.ins ze dx (aV "hall" (.ref x) []))=H2 at S2 he2 k2 t2 ⊢;refine⟨_,rfl,e,ze,dx,_,_,rfl,he2,UO.e.cl,UO.e.nH,by rw[ao,Iu rfl],fun kp kdx hkp hkdx nkd=>⟨kp,kdx,x,rfl,ac,rfl,?_⟩⟩;rw[jT];have tr2:∀ {b:Addr}{o:HO},H2 b=some o->b≠kp/\b≠kdx:=fun {b o} e'=>⟨(fun z=>(by rw[z,hkp]at e';cases e')),(fun z=>(by rw[z,hkdx]at e';cases e'))⟩
  have s3:ay H2 (upd (upd H2 kdx (.own kp)) kp (.ins ck kdx (rF (.ref x) .non (.int 0) .non))):=fun b o e'=>by rw[af (tr2 e').1,af (tr2 e').2];exact e'
  have K3:cJ ck (upd (upd H2 kdx (.own kp)) kp (.ins ck kdx (rF (.ref x) .non (.int 0) .non))) kp ⟨kdx,x,kp⟩ oW:=⟨ac,fun ps e'=>(by cases e'),fun ps e'=>(by cases e')⟩
  have kB:kp∉B.fp:=fun z=>by obtain⟨o,q'⟩:=S2.tracked z;rw[hkp]at q';cases q'
  have ke:e≠kp:=(tr2 he2).1;generalize upd (upd H2 kdx (.own kp)) kp (.ins ck kdx (rF (.ref x) .non (.int 0) .non))=H3 at s3 K3 ⊢;have he3:=s3 _ _ he2;refine⟨_,rfl,e,ze,dx,_,rfl,he3,UO.e.cl,UO.e.nK,(by show 1<1000;decide),?_⟩;have S4:=st (gs:=aV "keeper" (.ref kp) (aV "hall" (.ref x) [])) (S2.mono s3) he3;have he4:upd H3 e (.ins ze dx (aV "keeper" (.ref kp) (aV "hall" (.ref x) []))) e=some (.ins ze dx (aV "keeper" (.ref kp) (aV "hall" (.ref x) []))):=ac
  have k4:∀ b o,H3 b=some o->b≠e->upd H3 e (.ins ze dx (aV "keeper" (.ref kp) (aV "hall" (.ref x) []))) b=some o:=fun b o e' n=>by rw[af n];exact e'
  generalize upd H3 e (.ins ze dx (aV "keeper" (.ref kp) (aV "hall" (.ref x) [])))=H4 at S4 he4 k4 ⊢;intro b bdx nb nbd neb;refine⟨b,bdx,rfl,ac,fun A5 H5 kp5 B5=>⟨rfl,?_⟩⟩;have s5:ay H4 H5:=fun y o e'=>kp5 y o (by rw[af (ah e' nb),af (ah e' nbd)];exact e') (ah e' nb);have he5:=s5 _ _ he4;refine⟨_,rfl,e,ze,dx,_,rfl,he5,UO.e.cl,UO.e.nB,(by rw[Di];show 2<1000;decide),?_⟩;rw[yd];have S6:=st (gs:=Dh (.ref x) (.ref kp) (.ref b)) (S4.mono s5) he5
  have k6:∀ y o,H3 y=some o->y≠e->upd H5 e (.ins ze dx (Dh (.ref x) (.ref kp) (.ref b))) y=some o:=fun y o e' n=>by rw[af n];exact s5 _ _ (k4 y o e' n)
  refine q ⟨dx,x,kp,b⟩ ⟨kdx,x,kp⟩ B _ ⟨ac,⟨⟨k6 _ _ K3.ob (IJ ke),fun ps e'=>(by cases e'),fun ps e'=>(by cases e')⟩,S6,kB,fun ps e'=>(by cases e')⟩,rfl⟩ (fun y o e' n=>k6 _ _ (s3 _ _ (k2 _ _ (s1 _ _ e') n)) n) (fun y hy=>s0.free (fr1 y hy)) (s1.free (t2 hkp))
theorem qE (F:dt K "say" "Evening.say" fR f fd)(M_Evening_answer:aM P w K mg base (h9 P w) ze "answer" 9 ["self","line"] (yG c ck ze cq cX)) : aR P w K mg base c0 10 f fd ["self","line"] (oK c ck ze):=by
 refine F.ok q8 (fun vs H Q E h=>?_) (fun cdv A outer s H vs Q E hr h=>?_)
 ·rcases h with ⟨e,D0,D,B,st,z,q,rfl,_⟩ | ⟨e,D0,D,B,st,z,rfl,_⟩<;>rfl
 ·have hn:∃ (e:Addr)(z:Str),vs=[.ref e,.str z]:=by
   rcases h with ⟨e,D0,D,B,st,z,q,rfl,_⟩ | ⟨e,D0,D,B,st,z,rfl,_⟩<;>exact⟨e,z,rfl⟩
  obtain⟨e0,z0,rfl⟩:=hn;refine⟨_,ag (CW rfl rfl (fun pins E=>ag (aq (cU M_Evening_answer (pv 0) UO.e.cl hr.m FQ (eE (pv 1))))) (cP rfl U.mA (fun ea oe=>ag (aq (am))) (cP rfl U.mM (fun ea oe=>ag (aq (am))) (cP rfl U.mS (fun ea oe=>ag (aq (am))) (cP rfl U.mT (fun ea oe=>ag (aq (am))) (cP rfl UO.mN (fun ea oe=>ag (aq (am))) (cP rfl UO.m (fun ea oe=>ag (aq (am))) (cP rfl UO.mP (fun ea oe=>ag (aq (am))) (cP rfl UO.mB (fun ea oe=>ag (aq (am))) (cP rfl UO.mT (fun ea oe=>ag (aq (am))) (cP rfl UO.mU (fun ea oe=>ag (aq (am))) (cP rfl UO.mL (fun ea oe=>ag (aq (am))) (cP rfl UO.mF (fun ea oe=>ag (aq (am))) (cP rfl U.mN (fun ea oe=>ag (aq (am))) (cP rfl UO.mQ (fun ea oe=>ag (aq (am))) EO))))))))))))))),?_⟩;rcases h with ⟨e,D0,D,B,st,z,q,hv,I,L,k⟩ | ⟨e,D0,D,B,st,z,hv,I,b,k⟩
  ·cases hv
   refine⟨_,rfl,e0,D0.dx,_,rfl,I.ev.ob,vi (by decide +kernel),_,rfl,.ask e0 D0 D B st z0 q rfl I L ?_⟩
   cases q with
   | deed d =>
    obtain⟨k1,k2,k3⟩:=k;refine⟨k1,k2,fun hd=>?_⟩;have k3:=k3 hd
    cases ej:aE st d with
    | done=>exact absurd ej hd
    | already =>
     rw[ej,show Do .already=Str.ofString "no: AlreadyIn" by decide +kernel]at k3;exact fun H' s2 σ' _=>⟨_,VM.aa,bc (k3 H' s2)⟩
    | masked =>
     rw[ej,show Do .masked=Str.ofString "no: Masked" by decide +kernel]at k3;exact fun H' s2 σ' _=>⟨_,VM.ma,aw ⟨_,VM.mm,bc (k3 H' s2)⟩⟩
    | same =>
     rw[ej,show Do .same=Str.ofString "no: Same" by decide +kernel]at k3;exact fun H' s2 σ' _=>⟨_,VM.sa,aw ⟨_,VM.sm,aw ⟨_,VM.ss,bc (k3 H' s2)⟩⟩⟩
    | met =>
     rw[ej,show Do .met=Str.ofString "no: Met" by decide +kernel]at k3;exact fun H' s2 σ' _=>⟨_,VM.ta,aw ⟨_,VM.tm,aw ⟨_,VM.ts,aw ⟨_,VM.tt,bc (k3 H' s2)⟩⟩⟩⟩
    | noguest g =>
     rw[ej,show Do (.noguest g)=Str.ofString "no: NoGuest" from (by decide +kernel:Do (.noguest 0)=Str.ofString "no: NoGuest")]at k3;exact fun dx H' s2 hx σ' _=>⟨_,VM.na,aw ⟨_,VM.nm,aw ⟨_,VM.ns,aw ⟨_,VM.nt,aw ⟨_,UO.xn _ (by simp),aw ⟨_,UO.xn _ (by simp),aw ⟨_,UO.xn _ (by simp),aw ⟨_,UO.xn _ (by simp),aw ⟨_,UO.xn _ (by simp),aw ⟨_,UO.xn _ (by simp),aw ⟨_,UO.xn _ (by simp),aw ⟨_,UO.xn _ (by simp),aw ⟨_,VM.nn,bc (k3 H' s2)⟩⟩⟩⟩⟩⟩⟩⟩⟩⟩⟩⟩⟩
   | rings=>exact k
   | wears g =>
    obtain⟨k1,k2,k3⟩:=k;exact⟨k1,k2,fun h dx H' s2 hx σ' _=>⟨_,VM.na,aw ⟨_,VM.nm,aw ⟨_,VM.ns,aw ⟨_,VM.nt,aw ⟨_,UO.xn _ (by simp),aw ⟨_,UO.xn _ (by simp),aw ⟨_,UO.xn _ (by simp),aw ⟨_,UO.xn _ (by simp),aw ⟨_,UO.xn _ (by simp),aw ⟨_,UO.xn _ (by simp),aw ⟨_,UO.xn _ (by simp),aw ⟨_,UO.xn _ (by simp),aw ⟨_,VM.nn,bc (k3 h H' s2)⟩⟩⟩⟩⟩⟩⟩⟩⟩⟩⟩⟩⟩⟩
   | step =>
    exact fun H' s2 σ' _=>⟨_,UO.xp _ (by simp),aw ⟨_,UO.xp _ (by simp),aw ⟨_,UO.xp _ (by simp),aw ⟨_,UO.xp _ (by simp),aw ⟨_,UO.xp _ (by simp),aw ⟨_,UO.xp _ (by simp),aw ⟨_,UO.pp,bc (k H' s2)⟩⟩⟩⟩⟩⟩⟩
   | state=>exact k
  ·cases hv
   refine⟨_,rfl,e0,D0.dx,_,rfl,I.ev.ob,vi (by decide +kernel),_,rfl,.bad e0 D0 D B st z0 rfl I b ?_⟩;exact fun dx H' s2 hx σ' _=>⟨_,UO.xq _ (by simp),aw ⟨_,UO.xq _ (by simp),aw ⟨_,UO.xq _ (by simp),aw ⟨_,UO.xq _ (by simp),aw ⟨_,UO.xq _ (by simp),aw ⟨_,UO.xq _ (by simp),aw ⟨_,UO.xq _ (by simp),aw ⟨_,UO.xq _ (by simp),aw ⟨_,UO.xq _ (by simp),aw ⟨_,UO.xq _ (by simp),aw ⟨_,UO.xq _ (by simp),aw ⟨_,UO.xq _ (by simp),aw ⟨_,UO.xq _ (by simp),aw ⟨_,UO.qq,bc (k H' s2)⟩⟩⟩⟩⟩⟩⟩⟩⟩⟩⟩⟩⟩⟩
theorem lQ (F:dt K "answer" "Evening.answer" dU f fd)(kA:bb P w K mg base "read_line" 2 ["line"] FZ)(M_Evening_number_line:aM P w K mg base (h9 P w) ze "number_line" 8 ["self","words"] (BF c ck ze cq))(NT:pK P w K mg base cX fX) : aR P w K mg base (h9 P w) 9 f fd ["self","line"] (yG c ck ze cq cX):=by
 refine F.okX bV (fun vs H Q E h=>?_) (fun cdv A outer s H vs Q E hr h=>?_)
 ·rcases h with ⟨e,D0,D,B,st,z,q,rfl,_⟩ | ⟨e,D0,D,B,st,z,rfl,_⟩<;>rfl
 ·have main:∃ (e:Addr)(D0:EA)(D:KA)(B:HA)(st:bP)(z w0:Str)(ws:List Str),vs=[.ref e,.str z]/\gC c ck ze H e D0 D B st/\x3 z/\z.length<=900/\gi 32 z=w0::ws/\(w0="dance"->ws=[])/\(w0="name"->ws.length<=1)/\((∃ q:k7,w0=q.w0/\ws=q.ns.map bS/\(∀ g∈q.ns,uU g)/\sk c ck ze cq H e D0 D B st q Q E)\/(((∃ w∈ws,∀ ds,¬ Num w ds)\/((∀ w∈ws,∃ ds,Num w ds)/\jd linesD w0≠.int ((ws.length:Int)+1)))/\∀ dx H',ay H H'->H' dx=some (.xd [("place",.int 1)])->E (.ref cX) (some dx) H')):=by
   rcases h with ⟨e,D0,D,B,st,z,q,rfl,I,L,k⟩ | ⟨e,D0,D,B,st,z,rfl,I,⟨as,ln,w0,ws,wd,n1,n2,b⟩,k⟩
   ·exact⟨e,D0,D,B,st,z,_,_,rfl,I,L.as,L.ln,L.wd,fun y=>absurd y (Aj (by decide +kernel)),fun y=>absurd y (Aj (by decide +kernel)),.inl ⟨q,rfl,rfl,L.gs,k⟩⟩
   ·exact⟨e,D0,D,B,st,z,w0,ws,rfl,I,as,ln,wd,n1,n2,.inr ⟨b,k⟩⟩
  clear h;obtain⟨e,D0,D,B,st,z,w0,ws,rfl,I,as,ln,wd,n1,n2,k⟩:=main;have sl:sizeLine=16777216:=JQ
  refine⟨_,ae (xJ (CU (pv 1) (am)) (uy rfl (du (oC 2 bV.nd) (du (oC 3 bV.nd) (du (oC 4 bV.nd) pk))))) (
   ae (aO (PW.pt (gL (az bT (pv 2) (am) (aG _)) (eG (az bT (pv 3) (am) (aG _))))) (nu) (ax)) (
   ae (aO (PW.pt (gL (az bT (pv 2) (am) (aG _)) (eG (az sZ (am) (pv 4) rfl)))) (nu) (ax)) (
   ae (bD 5 bV.nd (ba kA hr.m rfl (eE (pv 1)))) (
   ae (aO (PW.pt (yB (ed (xG (pv 5))) (uC (az ji (CP UO.gd (by rfl) UO.ms (aT aK (pv 5) (aj) (fun _ _=>rfl)) ⟨rfl,rfl,rfl,rfl⟩) (cr cC (by rfl) T.len JU (eE (pv 5))) (aG _))))) (ag (A6 NT UO.eQ UO.tQ UO.mQ (hr.mono (by decide)) fF rfl hr.hd rfl (aj))) (ax)) (
   ag (aq (cU M_Evening_number_line (pv 0) UO.e.cl hr.m bU (eE (pv 5))))))))),?_⟩
  have sp:(Str.ofString " ")=⟨#[32]⟩:=by decide +kernel
  refine⟨_,rfl,rfl,z,32,rfl,by rw[sp],by omega,fun l hl=>?_⟩;obtain⟨p1,p2,p3⟩:=xF wd;rw[p1,p2];generalize hrs:(⟨(bO 32 z.cps.toList).2.2.toArray⟩:Str)=rs at p3 ⊢;have s1:=ak (o:=.tup [.str w0,.str (if ws=[] then Str.empty else ⟨#[32]⟩),.str rs]) hl;have h1:upd H l (.tup [.str w0,.str (if ws=[] then Str.empty else ⟨#[32]⟩),.str rs]) l=some (.tup [.str w0,.str (if ws=[] then Str.empty else ⟨#[32]⟩),.str rs]):=ac;generalize upd H l (.tup [.str w0,.str (if ws=[] then Str.empty else ⟨#[32]⟩),.str rs])=H1 at s1 h1 ⊢;refine⟨l,_,rfl,c7.of h1,rfl,_,_,rfl,_,_,rfl,_,_,rfl,rfl,?_⟩;refine⟨_,rfl,rfl,_,rfl,vd (fun y hx=>?_) ?_⟩
  ·rw[Iu (n1 (V.str.inj (Jq y)))]at hx ⊢
   refine⟨_,rfl,rfl,_,rfl,?_⟩;rw[show decide (V.str Str.empty=V.str (Str.ofString " "))=false from dS (by decide +kernel)];exact aw hx
  refine⟨_,rfl,rfl,_,rfl,vd (fun y hx=>?_) ?_⟩
  ·refine⟨_,rfl,_,_,rfl,rfl,_,rfl,?_⟩
   rw[sp,p3.mpr (n2 (V.str.inj (Jq y)))];exact aw hx
  clear p1 p2 p3 hrs;refine⟨_,rfl,z,w0,ws,rfl,as,ln,wd,fun al t H2 ht s2 h2=>?_,fun bad H2 s2=>?_⟩
  ·have s02:=s1.trans s2
   have at0:x6 (V.str w0::ws.map numW) 0=some (V.str w0):=cz (j:=0) rfl;refine⟨_,rfl,_,rfl,aw ⟨_,rfl,t,_,_,_,rfl,rfl,c7.of h2,at0,_,rfl,_,rfl,t,_,rfl,.inr (c7.of h2),?_⟩⟩;rcases k with ⟨q,rfl,rfl,gs,ok⟩ | ⟨b,ok⟩
   ·have e1:(q.ns.map bS).map numW=q.ns.map V.int:=by
     rw[Jo];exact JA fun g hg=>EC (gs g hg)
    rw[e1,Al];rw[e1]at h2;refine⟨rfl,_,rfl,?_⟩;rw[ID rfl];exact aw ⟨_,rfl,e,D0.dx,_,rfl,s02 _ _ I.ev.ob,vi (by decide +kernel),_,rfl,e,t,D0,D,B,st,q,rfl,I.mono s02,h2,ok.mono s02⟩
   ·have ne:jd linesD w0≠.int ((ws.length:Int)+1):=by
     rcases b with ⟨w,hw,n⟩ | b
     ·obtain⟨ds,N⟩:=al w hw
      exact absurd N (n ds)
     ·exact b.2
    have hl:((V.str w0::ws.map numW).length:Int)=(ws.length:Int)+1:=by rw[IX,Iq];rfl
    rw[hl];refine⟨zm,_,rfl,?_⟩;rw[IE ne];exact bc ⟨1,rfl,by decide,fun dx hdx=>ok dx _ (s02.trans (ak hdx)) ac⟩
  ·rcases k with ⟨q,rfl,rfl,gs,ok⟩ | ⟨b,ok⟩
   ·obtain⟨w,hw,n⟩:=bad
    obtain⟨g,hg,rfl⟩:=Jf.mp hw;obtain⟨e,N,_⟩:=qB (gs g hg);exact absurd N (n e)
   ·refine⟨_,rfl,_,rfl,bc (bc ⟨1,rfl,by decide,fun dx hdx=>ok dx _ ((s1.trans s2).trans (ak hdx)) ac⟩)⟩
theorem ip (F:dt K "number_line" "Evening.number_line" cG f fd)(gG:aM P w K mg base (h9 P w) ck "step" 6 ["self"] (yM c ck cq))(bh:aM P w K mg base c0 ck "state" 1 ["self"] (pz ck))(gF:aM P w K mg base c0 ck "left" 3 ["self"] (yL ck))(aI:aM P w K mg base (h9 P w) c.C "wears" 3 ["self","guest"] (iz c))(iX:bb P w K mg base "rings_line" 7 ["hall"] (wz c))(pA:o8 P w K mg base "do_deed" 6 ["hall","deed"] (Bx c ck ze)) : aR P w K mg base (h9 P w) 8 f fd ["self","words"] (BF c ck ze cq):=by
 refine F.okX cD (fun vs H Q E h=>?_) (fun cdv A outer s H vs Q E hr h=>?_)
 ·obtain⟨e,t,D0,D,B,st,q,rfl,_⟩:=h
  rfl
 ·obtain⟨e,t,D0,D,B,st,q,rfl,I,ht,k⟩:=h
  refine⟨_,ae (aO (az bT (aT aK (pv 1) (aj) (fun _ _=>rfl)) (am) (aG _)) (nu) (ax)) (
   ae (aO (az bT (aT aK (pv 1) (aj) (fun _ _=>rfl)) (am) (aG _)) (ae (xJ (e7 gG (aX (pv 0) rfl) UO.k.cl hr.m bU) (uy rfl (du (oC 2 cD.nd) (du (oC 3 cD.nd) pk)))) (
   ag (aq (ir (bC am (bC (eF (pv 2)) (bC am (bC (eF (pv 3)) kP)))))))) (ax)) (
   ae (aO (az bT (aT aK (pv 1) (aj) (fun _ _=>rfl)) (am) (aG _)) (ag (aq (EL (e7 bh (aX (pv 0) rfl) UO.k.cl hr.m c4) (e7 gF (aX (pv 0) rfl) UO.k.cl hr.m c4) (by decide +kernel)))) (ax)) (
   ae (aO (az bT (aT aK (pv 1) (aj) (fun _ _=>rfl)) (am) (aG _)) (ag (aq (dH gW (by rfl) T.str JC (eE (cU aI (aX (pv 0) rfl) U.cl hr.m bU (eE (aT aK (pv 1) (aj) (fun _ _=>rfl)))))))) (ax)) (
   ae (aO (az bT (aT aK (pv 1) (aj) (fun _ _=>rfl)) (am) (aG _)) (ag (aq (ba iX hr.m rfl (eE (aX (pv 0) rfl))))) (ax)) (
   ae (aN (Bi pA hr.m rfl bU (jN (aX (pv 0) rfl) (pv 1)))) (
   ag (aq (am)))))))),?_⟩
  have T0:c7 K H t (.str q.w0::q.ns.map V.int):=c7.of ht;have at0:x6 (.str q.w0::q.ns.map V.int) 0=some (.str q.w0):=cz (j:=0) rfl;refine⟨_,rfl,t,_,_,_,rfl,rfl,T0,at0,rfl,_,rfl,?_⟩;rw[Ak (by decide +kernel)];refine aw ⟨_,rfl,t,_,_,_,rfl,rfl,T0,at0,rfl,_,rfl,?_⟩;have ki:=I.ev.ki
  cases q with
  | step =>
   rw[show decide (V.str k7.step.w0=V.str "step")=true from ID rfl];refine bc ⟨_,rfl,e,ze,D0.dx,_,_,rfl,I.ev.ob,UO.e.cl,UO.e.nK,jE,D0.kp,D.dx,_,rfl,ki.kp.ob,gX (by decide +kernel),D0.kp,D,oW,B,st,rfl,ki,I.ft,fun p e=>(by cases (show none=some p from e)),fun _ H1 s1=>k H1 s1,fun p e=>(by cases (show none=some p from e))⟩
  | state =>
   rw[show decide (V.str k7.state.w0=V.str _)=false from dS (s:="state") (by decide +kernel)];refine aw ⟨_,rfl,t,_,_,_,rfl,rfl,T0,at0,rfl,_,rfl,?_⟩;rw[show decide (V.str k7.state.w0=V.str "state")=true from ID rfl];refine bc ⟨_,rfl,e,ze,D0.dx,_,_,rfl,I.ev.ob,UO.e.cl,UO.e.nK,jE,D0.kp,D.dx,_,rfl,ki.kp.ob,gX (by decide +kernel),D0.kp,D,oW,rfl,ki.kp,_,rfl,by decide +kernel,?_⟩;refine⟨_,rfl,e,ze,D0.dx,_,_,rfl,I.ev.ob,UO.e.cl,UO.e.nK,jE,D0.kp,D.dx,_,rfl,ki.kp.ob,gX (by decide +kernel),D0.kp,D,oW,rfl,ki.kp,fun H1 s1=>⟨_,rfl,by decide +kernel,?_⟩⟩;have:=k H1 s1;rw[show (("none 0" : Str))=oW.word++Str.ofString " "++Str.ofString (toString ((oW.rest.length:Nat):Int)) by decide +kernel]at this;exact this
  | wears g =>
   rw[show decide (V.str (k7.wears g).w0=V.str _)=false from dS (s:="wears") (by decide +kernel)];refine aw ⟨_,rfl,t,_,_,_,rfl,rfl,T0,at0,rfl,_,rfl,?_⟩;rw[show decide (V.str (k7.wears g).w0=V.str _)=false from dS (s:="wears") (by decide +kernel)];refine aw ⟨_,rfl,t,_,_,_,rfl,rfl,T0,at0,rfl,_,rfl,?_⟩;rw[show decide (V.str (k7.wears g).w0=V.str "wears")=true from ID rfl];obtain⟨sg,k1,k2⟩:=k;refine bc ⟨_,rfl,e,ze,D0.dx,_,_,rfl,I.ev.ob,UO.e.cl,UO.e.nH,ye,D0.x,B.dx,_,rfl,I.ev.hall.ob,tY B (by decide +kernel),_,rfl,t,_,_,_,rfl,rfl,T0,cz (j:=1) rfl,D0.x,B,st,g,rfl,I.ev.hall,sg,?_⟩
   cases hm:look st.worn g with
   | none=>exact k2 hm
   | some m=>exact .inr ⟨m,rfl,I.hg.sm g m hm,k1 m hm H (ay.refl _)⟩
  | rings =>
   rw[show decide (V.str k7.rings.w0=V.str _)=false from dS (s:="rings") (by decide +kernel)];refine aw ⟨_,rfl,t,_,_,_,rfl,rfl,T0,at0,rfl,_,rfl,?_⟩;rw[show decide (V.str k7.rings.w0=V.str _)=false from dS (s:="rings") (by decide +kernel)];refine aw ⟨_,rfl,t,_,_,_,rfl,rfl,T0,at0,rfl,_,rfl,?_⟩;rw[show decide (V.str k7.rings.w0=V.str _)=false from dS (s:="rings") (by decide +kernel)];refine aw ⟨_,rfl,t,_,_,_,rfl,rfl,T0,at0,rfl,_,rfl,?_⟩;rw[show decide (V.str k7.rings.w0=V.str "rings")=true from ID rfl];exact bc ⟨_,rfl,e,ze,D0.dx,_,_,rfl,I.ev.ob,UO.e.cl,UO.e.nH,ye,D0.x,B,st,rfl,I.ev.hall,I.hg,I.wl,I.sm,k⟩
  | deed d =>
   rw[show decide (V.str (k7.deed d).w0=V.str _)=false from lC (by decide +kernel)];refine aw ⟨_,rfl,t,_,_,_,rfl,rfl,T0,at0,rfl,_,rfl,?_⟩;rw[show decide (V.str (k7.deed d).w0=V.str _)=false from lC (by decide +kernel)];refine aw ⟨_,rfl,t,_,_,_,rfl,rfl,T0,at0,rfl,_,rfl,?_⟩;rw[show decide (V.str (k7.deed d).w0=V.str _)=false from lC (by decide +kernel)];refine aw ⟨_,rfl,t,_,_,_,rfl,rfl,T0,at0,rfl,_,rfl,?_⟩;rw[show decide (V.str (k7.deed d).w0=V.str _)=false from lC (by decide +kernel)];obtain⟨k1,k2,k3⟩:=k
   have ht0:H t=some (cj d):=by rw[il];exact ht
   refine aw ⟨_,rfl,e,ze,D0.dx,_,_,rfl,I.ev.ob,UO.e.cl,UO.e.nK,jE,_,rfl,D0.kp,t,D,oW,B,st,d,rfl,ht0,ki,I.ft,I.hg,k1,?_⟩;unfold sr
   by_cases hj:aE st d=.done
   ·rw[Iu hj]
    exact fun H1 mv=>k2 hj H1 (Cw I.ev mv)
   ·rw[Ir hj]
    exact k3 hj
theorem qM (F:dt K "_law_cell_at" "_law_cell_at" gf f fd) : aR P w K mg base c0 1 f fd ["_law_script","_law_k"] (xR K):=by
 refine F.ok rk (fun vs H Q E h=>?_) (fun cdv A outer s H vs Q E hr h=>?_)
 ·obtain⟨a,ns,k,rfl,_⟩:=h
  rfl
 ·obtain⟨a,ns,i,rfl,hS,hi,k⟩:=h
  refine⟨_,ae (aO (az yw (pv 1) (cr cC (by rfl) T.len JU (ar (pv 0) aD)) (aG _)) (ag (aq (aT pe (pv 0) (pv 1) (fun _ _=>rfl)))) ax) (ag (aq aj)),?_⟩;refine⟨_,rfl,_,rfl,a,_,rfl,.inl hS,_,_,rfl,rfl,_,rfl,?_⟩;unfold eZ at k;rw[Iq]
  by_cases hc:i<(ns.length:Int)
  ·rw[Iu hc]at k
   rw[ID hc];refine bc ⟨_,rfl,_,rfl,a,_,_,_,rfl,rfl,hS,?_,k⟩;have e:i=((i.toNat:Nat):Int):=(Int.toNat_of_nonneg hi).symm
   have hl:i.toNat<ns.length:=by omega
   rw[e];refine cz ?_;rw[Ji,List.getD_eq_getElem?_getD,Int.toNat_natCast,IM hl];rfl
  ·rw[Ir hc]at k
   rw[IE hc];exact aw k
theorem vX (F:dt K "_law_size" "_law_size" jw f fd) : aR P w K mg base c0 1 f fd ["_law_cell"] uN:=by
 refine F.ok wt (fun vs H Q E h=>?_) (fun cdv A outer s H vs Q E hr h=>?_)
 ·obtain⟨c,rfl,_⟩:=h
  rfl
 ·obtain⟨c,rfl,k⟩:=h
  refine⟨_,ae (aO (az yw (pv 0) aj (aG _)) (ag (aq (FR E7 (pv 0)))) ax) (ag (aq (pv 0))),?_⟩;refine⟨_,rfl,_,_,rfl,rfl,_,rfl,?_⟩;unfold d4 at k
  by_cases hc:c<0
  ·rw[Iu hc]at k
   rw[ID hc];exact bc ⟨_,rfl,_,rfl,k⟩
  ·rw[Ir hc]at k
   rw[IE hc];exact aw ⟨_,rfl,k⟩
theorem uq (F:dt K "_law_draws" "_law_draws" iF f fd)(cw:bb P w K mg base "_law_size" 1 ["_law_cell"] uN) : aR P w K mg base c0 2 f fd ["_law_cell","_law_many","_law_base"] yJ:=by
 refine F.ok bi (fun vs H Q E h=>?_) (fun cdv A outer s H vs Q E hr h=>?_)
 ·obtain⟨c,m,b,rfl,_⟩:=h
  rfl
 ·obtain⟨c,m,b,rfl,⟨m0,m1⟩,⟨b0,b1⟩,k⟩:=h
  refine⟨_,ae (dm (i:=3) bi.nd rfl (Or.inl rfl) (ba cw hr rfl (ar (pv 0) aD)))
   (ae (dm (i:=4) bi.nd rfl (Or.inl rfl) (dz aD))
   (ae (aO (az FM (pv 3) (aH A0 aj aj) (aG _))
    (ae (dm (i:=3) bi.nd rfl (Or.inl rfl) (aH EH (pv 3) (aH A0 aj aj)))
    (ae (dm (i:=5) bi.nd rfl (Or.inl rfl) (aH bG (pv 3) (aH dQ (pv 1) aj)))
    (ae (dm (i:=3) bi.nd rfl (Or.inl rfl) (aH eD (pv 3) (aH dQ (pv 1) aj)))
    (ae (gK Jy rfl (ni rfl T.range (ar (pv 5) aD)) (jP (i:=6) bi.nd rfl (Or.inl rfl))
     (ae (aN (eR Jd Ja Jb bK (pv 4) (ar (aH bG (pv 3) (pv 2)) aD)))
     (ag (dm (i:=3) bi.nd rfl (Or.inl rfl) (aH eD (pv 3) (pv 2))))))
    (ag (aq (pv 4)))))))
    ax)
   (ae (dm (i:=7) bi.nd rfl (Or.inl rfl) (aH dQ (aH bG (pv 3) aj) aj))
   (ae (gK Jy rfl (ni rfl T.range (ar (aH bG (pv 3) (aH dQ (pv 1) aj)) aD)) (jP (i:=6) bi.nd rfl (Or.inl rfl))
     (ae (dm (i:=7) bi.nd rfl (Or.inl rfl) (aH bG (aH qP (pv 7) aj) aj))
     (ag (aN (eR Jd Ja Jb bK (pv 4) (ar (aH bG (aH eD (aH bG (aH qP (pv 7) aj) aj) aj) (pv 2)) aD))))))
   (ag (aq (pv 4))))))),?_⟩
  refine⟨_,rfl,_,rfl,by show 0<=sizeLine;exact Jg _,fun l hl=>?_⟩
  have big:(10:Int) ^ (18:Int).toNat=1000000000000000000:=by decide
  have room:∀ ds:List Int,(ds.length:Int)<=1000->(ds.map V.int).length<sizeLine:=fun ds h=>by rw[Iq];exact aQ (by omega)
  have app:∀ (ds:List Int)(z:Int),upd (upd H l (.lst (ds.map V.int))) l (.lst (ds.map V.int++[V.int z]))=upd H l (.lst ((ds++[z]).map V.int)):=fun ds z=>by rw[jT,IQ];rfl
  have inb:∀ (ds:List Int)(z:Int),(∀ d∈ds,0<=d/\d<b)->∀ d∈ds++[z%b],0<=d/\d<b:=fun ds z h d hd=>by
   rcases IN.mp hd with hd | hd
   ·exact h d hd
   ·rw[IF.mp hd];exact⟨JB _ (by omega),Jw _ b0⟩
  refine⟨_,rfl,_,_,rfl,rfl,⟨by decide,by decide,by decide⟩,_,_,rfl,rfl,_,rfl,?_⟩;refine xb (fun _=>?_) (fun _=>?_)
  ·refine⟨_,rfl,_,_,rfl,rfl,⟨by decide,by decide,by decide⟩,_,_,rfl,rfl,?_⟩
   refine⟨_,rfl,_,rfl,_,_,rfl,rfl,_,_,rfl,rfl,by show (0:Int)<m+1;omega,?_⟩;refine⟨_,rfl,_,rfl,_,_,rfl,rfl,_,_,rfl,rfl,⟨by show (0:Int)<m+1;omega,by show m+1<1073741824;omega⟩,?_⟩;have cb:=Jw (d4 c-(10:Int) ^ (18:Int).toNat) (show 0<m+1 by omega);have cn:=JB (d4 c-(10:Int) ^ (18:Int).toNat) (show m+1≠0 by omega)
   refine⟨_,rfl,_,rfl,by omega,by omega,mI (n:=((d4 c-(10:Int) ^ (18:Int).toNat)%(m+1)).toNat) (fun i σ H2=>∃ (z:Int)(v:Option V)(ds:List Int),σ=[some (.int c),some (.int m),some (.int b),some (.int z),some (.ref l),some (.int ((d4 c-(10:Int) ^ (18:Int).toNat)%(m+1))),v,none]/\H2=upd H l (.lst (ds.map V.int))/\ds.length=i/\∀ d∈ds,0<=d/\d<b)
    ⟨_,none,[],rfl,rfl,rfl,fun _ z=>nomatch z⟩ ?_ ?_⟩
   ·rintro i σ H2 hi ⟨z,v,ds,rfl,rfl,hlen,hds⟩
    refine⟨_,rfl,.inl ⟨rfl,_,bx.of ac⟩,_,rfl,_,rfl,_,_,rfl,rfl,b0,l,_,_,rfl,rfl,ac,room ds (by omega),?_⟩;refine⟨_,rfl,_,rfl,_,_,rfl,rfl,⟨b0,b1⟩,?_⟩;exact⟨_,_,ds++[z%b],rfl,app ds _,by rw[IK,hlen];rfl,inb ds z hds⟩
   ·rintro σ H2 ⟨z,v,ds,rfl,rfl,hlen,hds⟩
    exact⟨_,rfl,k l ds hl hds (by omega)⟩
  ·refine⟨_,rfl,_,_,rfl,rfl,by show (0:Int)<2147483629;decide,_,_,rfl,rfl,?_⟩
   have cb:=Jw (d4 c) (show 0<m+1 by omega);have cn:=JB (d4 c) (show m+1≠0 by omega);refine⟨_,rfl,_,rfl,_,_,rfl,rfl,_,_,rfl,rfl,by show (0:Int)<m+1;omega,?_⟩
   refine⟨_,rfl,by omega,by omega,mI (n:=(d4 c%(m+1)).toNat) (fun i σ H2=>∃ (z:Int)(v:Option V)(ds:List Int),σ=[some (.int c),some (.int m),some (.int b),some (.int (d4 c)),some (.ref l),none,v,some (.int z)]/\H2=upd H l (.lst (ds.map V.int))/\ds.length=i/\∀ d∈ds,0<=d/\d<b)
    ⟨_,none,[],rfl,rfl,rfl,fun _ z=>nomatch z⟩ ?_ ?_⟩
   ·rintro i σ H2 hi ⟨z,v,ds,rfl,rfl,hlen,hds⟩
    refine⟨_,rfl,_,_,rfl,rfl,.inr ⟨by decide,by decide⟩,_,_,rfl,rfl,by show (0:Int)<2147483647;decide,?_⟩;refine⟨_,rfl,.inl ⟨rfl,_,bx.of ac⟩,_,rfl,_,_,rfl,rfl,.inr ⟨by decide,by decide⟩,_,_,rfl,rfl,by show (0:Int)<998244353;decide,_,_,rfl,rfl,⟨by decide,by decide⟩,_,rfl,_,_,rfl,rfl,b0,l,_,_,rfl,rfl,ac,room ds (by omega),?_⟩;exact⟨_,_,ds++[_],rfl,app ds _,by rw[IK,hlen];rfl,inb ds _ hds⟩
   ·rintro σ H2 ⟨z,v,ds,rfl,rfl,hlen,hds⟩
    exact⟨_,rfl,k l ds hl hds (by omega)⟩
theorem lR (F:dt K "_law_draws_from" "_law_draws_from" dX f fd)(iU:bb P w K mg base "_law_draws" 2 ["_law_cell","_law_many","_law_base"] yJ) : aR P w K mg base c0 3 f fd ["_law_script","_law_start","_law_most","_law_base"] (Bz K):=by
 refine F.ok cY (fun vs H Q E h=>?_) (fun cdv A outer s H vs Q E hr h=>?_)
 ·obtain⟨a,ns,st,m,b,rfl,_⟩:=h
  rfl
 ·obtain⟨a,ns,st,m,b,rfl,hS,⟨s0,s1⟩,⟨m0,m1⟩,⟨b0,b1⟩,k⟩:=h
  refine⟨_,ae (dm (i:=4) cY.nd rfl (Or.inl rfl) (dz aD))
   (ae (gK Jy rfl (cR (jj uI (pv 0) (jQ (pv 1)) (jQ aj))) (jP (i:=5) cY.nd rfl (Or.inl rfl))
    (ag (gK Jy rfl (cR (ba iU hr rfl (ar (pv 5) (ar aj (ar (pv 3) aD))))) (jP (i:=6) cY.nd rfl (Or.inl rfl))
     (ag (aO (az yw (cr cC (by rfl) T.len JU (ar (pv 4) aD)) (pv 2) (aG _))
      (ag (aN (eR Jd Ja Jb bK (pv 4) (ar (pv 6) aD)))) ax)))))
   (ag (aq (pv 4)))),?_⟩
  refine⟨by show 0<=sizeLine;exact Jg _,fun l hl=>?_⟩;have hS':bx K (upd H l (.lst [])) a (ns.map V.int):=(ak hl).seq hS;refine⟨_,rfl,_,rfl,_,rfl,_,rfl,a,_,rfl,hS',fun q hq=>?_⟩
  have hlq:l≠q:=fun e=>by rw[<-e,ac]at hq;cases hq
  have hHq:H q=none:=by rw[af (IJ hlq)]at hq;exact hq
  obtain⟨zs,hzs⟩:∃ zs:List Int,ij (ns.map V.int) (some st) (some 63)=zs.map V.int:=⟨(ns.drop (HT.sIx ns.length 0 (some st))).take (HT.sIx ns.length ns.length (some 63)-HT.sIx ns.length 0 (some st)),by unfold ij;rw[Iq,List.map_take,List.map_drop]⟩;rw[hzs]
  refine⟨q,rfl,⟨_,bx.of ac⟩,cp (K:=K) (a:=q) (xs:=zs.map V.int) (fun i σ H2=>∃ (v u:Option V)(ds:List Int),σ=[some (.ref a),some (.int st),some (.int m),some (.int b),some (.ref l),v,u]/\ay H H2/\H2 q=some (.lst (zs.map V.int))/\H2 l=some (.lst (ds.map V.int))/\(∀ d∈ds,0<=d/\d<b)/\(ds.length:Int)<=m)
   ⟨none,none,[],rfl,bz (ak hl) hHq,ac,by rw[af hlq,ac];rfl,(fun _ z=>nomatch z),by simpa using m0⟩ (fun i σ H2 _ ⟨_,_,_,_,_,h,_⟩=>bx.of h) ?_ ?_⟩
  ·rintro i y σ H2 hi ⟨v,u,ds,rfl,s2,hq2,hl2,hds,hlen⟩
   obtain⟨z,_,rfl⟩:=cf hi;refine⟨_,rfl,_,rfl,z,24,b,rfl,⟨by decide,by decide⟩,⟨b0,b1⟩,fun r es hr2 hes hel=>?_⟩;have hrq:q≠r:=ah hq2 hr2;have hrl:l≠r:=ah hl2 hr2
   refine⟨r,rfl,⟨_,bx.of ac⟩,cp (K:=K) (a:=r) (xs:=es.map V.int) (fun i σ H3=>∃ (u:Option V)(ds:List Int),σ=[some (.ref a),some (.int st),some (.int m),some (.int b),some (.ref l),some (.int z),u]/\ay H H3/\H3 q=some (.lst (zs.map V.int))/\H3 r=some (.lst (es.map V.int))/\H3 l=some (.lst (ds.map V.int))/\(∀ d∈ds,0<=d/\d<b)/\(ds.length:Int)<=m)
    ⟨u,ds,rfl,bz s2 (s2.free hr2),by rw[af hrq];exact hq2,ac,by rw[af hrl];exact hl2,hds,hlen⟩ (fun i σ H2 _ ⟨_,_,_,_,_,h,_⟩=>bx.of h) ?_ ?_⟩
   ·rintro i y σ H3 hi ⟨u,ds,rfl,s3,hq3,hr3,hl3,hds,hlen⟩
    obtain⟨d,hd,rfl⟩:=cf hi;refine⟨_,rfl,l,_,rfl,.inl (bx.of hl3),_,rfl,_,_,rfl,rfl,_,rfl,?_⟩;rw[Iq];refine xb (fun hc=>?_) (fun _=>?_)
    ·have hc:=Jq hc
     refine⟨_,rfl,.inl ⟨rfl,_,bx.of hl3⟩,_,rfl,l,_,_,rfl,rfl,hl3,by rw[Iq];exact aQ (by omega),?_⟩;refine⟨_,ds++[d],rfl,bz s3 hl,by rw[af (IJ hlq)];exact hq3,by rw[af (IJ hrl)];exact hr3,by rw[ac,IQ];rfl,fun x hx=>?_,by rw[IK];show ((ds.length+1:Nat):Int)<=m;omega⟩;rcases IN.mp hx with hx | hx
     ·exact hds x hx
     ·rw[IF.mp hx];exact hes d (Jc hd)
    ·exact⟨_,ds,rfl,s3,hq3,hr3,hl3,hds,hlen⟩
   ·rintro σ H3 ⟨u,ds,rfl,s3,hq3,hr3,hl3,hds,hlen⟩
    exact⟨_,_,ds,rfl,s3,hq3,hl3,hds,hlen⟩
  ·rintro σ H2 ⟨v,u,ds,rfl,s2,hq2,hl2,hds,hlen⟩
   exact⟨_,rfl,k l H2 ds hl s2 hl2 hds hlen⟩
theorem ur (F:dt K "_law_guest" "_law_guest" iG f fd)(cw:bb P w K mg base "_law_size" 1 ["_law_cell"] uN) : aR P w K mg base c0 2 f fd ["_law_k","_law_cell"] py:=by
 refine F.ok fq (fun vs H Q E h=>?_) (fun cdv A outer s H vs Q E hr h=>?_)
 ·obtain⟨k,c,rfl,_⟩:=h
  rfl
 ·obtain⟨i,c,rfl,⟨i0,i1⟩,k⟩:=h
  refine⟨_,ae (dm (i:=2) fq.nd rfl (Or.inl rfl) (ba cw hr rfl (ar (pv 1) aD)))
   (ae (dm (i:=3) fq.nd rfl (Or.inl rfl) (aH dQ aj (aH bG (aH qP (pv 2) aj) aj)))
   (ae (dm (i:=4) fq.nd rfl (Or.inl rfl) (aH bG (aH dQ (aH qP (pv 0) (pv 3)) (aH AZ (pv 2) aj)) aj))
   (ae (aO (az bT (aH bG (pv 2) aj) aj (aG _)) (ag (aq (aH dQ (pv 4) aj))) ax)
   (ag (aq (pv 4)))))),?_⟩
  refine⟨_,rfl,_,rfl,?_⟩;refine⟨_,rfl,_,_,rfl,rfl,.inr ⟨by decide,by decide⟩,_,_,rfl,rfl,by show (0:Int)<2147483646;decide,_,_,rfl,rfl,?_⟩;refine⟨_,rfl,_,rfl,_,_,rfl,rfl,.inl ⟨by show (-(2 ^ 64):Int)<i;omega,by show i<(2 ^ 64:Int);omega⟩,_,rfl,_,_,rfl,rfl,⟨by decide,by decide⟩,_,_,rfl,rfl,_,_,rfl,rfl,by show (0:Int)<2147483647;decide,?_⟩;refine⟨_,rfl,_,_,rfl,rfl,by show (0:Int)<5;decide,rfl,_,rfl,?_⟩;unfold uW at k;dsimp only at k
  by_cases hc:d4 c%5=4
  ·rw[Iu hc]at k
   rw[ID (show V.int (d4 c%5)=V.int 4 by rw[hc])];exact bc ⟨_,rfl,_,_,rfl,rfl,k⟩
  ·rw[Ir hc]at k
   rw[IE (show ¬ V.int (d4 c%5)=V.int 4 from fun z=>hc (by injection z))];exact aw ⟨_,rfl,k⟩
theorem xD (F:dt K "_law_key" "_law_key" kY f fd) : aR P w K mg base c0 1 f fd ["_law_one","_law_other"] BB:=by
 refine F.ok xP (fun vs H Q E h=>?_) (fun cdv A outer s H vs Q E hr h=>?_)
 ·obtain⟨a,b,rfl,_⟩:=h
  rfl
 ·obtain⟨a,b,rfl,k⟩:=h
  refine⟨_,ae (aO (az yw (pv 1) (pv 0) (aG _)) (ag (aq (bZ (jN (pv 1) (pv 0))))) (ax)) (
   ag (aq (bZ (jN (pv 0) (pv 1))))),?_⟩
  refine⟨_,rfl,_,rfl,_,_,rfl,rfl,_,rfl,?_⟩;unfold gJ at k
  by_cases hc:b<a
  ·rw[Iu hc]at k
   rw[ID hc];exact bc ⟨_,rfl,_,rfl,by show 2<=sizeLine;decide,k⟩
  ·rw[Ir hc]at k
   rw[IE hc];exact aw ⟨_,rfl,_,rfl,by show 2<=sizeLine;decide,k⟩
theorem xC (F:dt K "_law_due" "_law_due" kX f fd)(fB:bb P w K mg base "_law_key" 1 ["_law_one","_law_other"] BB) : aR P w K mg base c0 2 f fd ["_law_worn","_law_met","_law_deed_here"] Dw:=by
 refine F.ok rm (fun vs H Q E h=>?_) (fun cdv A outer s H vs Q E hr h=>?_)
 ·obtain⟨w,m,t,wl,ml,d,rfl,_⟩:=h
  rfl
 ·obtain⟨w,m,t,wl,ml,d,rfl,hw,hm,ht0,k⟩:=h
  have hu:=eO hr
  have ht:H t=some (.tup (de d)):=by rw[<-il];exact ht0
  have gw:∀ (H2:Hp)(x:Int),ay H H2->c3 H2 w (.int x) ((look wl x).map V.int):=fun H2 x s2=>by rw[<-db];exact c3.k (k:=Sum.inl x) (s2 _ _ hw)
  have two:(2:Nat)<=sizeLine:=by decide
  refine⟨_,ae (gK Jy rfl (Bc (jj Bv (pv 2) (jQ (aj)) pq)) (oC 3 rm.nd) (ag (aO (PW.pt (gL (az ji (aT aK (pv 2) (aj) (fun _ _=>rfl)) (am) (aG _)) (eG (ed (jO hu (pv 3) (pv 0)))))) (ag (aq (bZ (jN (am) (pv 3))))) (ax)))) (
   ae (aO (PW.pt (gL (az bT (aT aK (pv 2) (aj) (fun _ _=>rfl)) (am) (aG _)) (eG (ed (qQ hu (aT aK (pv 2) (aj) (fun _ _=>rfl)) (pv 0)))))) (ag (aq (bZ (jN (am) (e6))))) (ax)) (
   ae (aO (PW.pt (gL (az bT (aT aK (pv 2) (aj) (fun _ _=>rfl)) (am) (aG _)) (eG (az ji (iq hu (pv 0) (aT aK (pv 2) (aj) (fun _ _=>rfl)) (fun _ _=>rfl)) (aT aK (pv 2) (aj) (fun _ _=>rfl)) (aG _))))) (ag (aq (bZ (jN (am) (e6))))) (ax)) (
   ae (aO (PW.pt (gL (az bT (aT aK (pv 2) (aj) (fun _ _=>rfl)) (am) (aG _)) (eG (az bT (aT aK (pv 2) (aj) (fun _ _=>rfl)) (aT aK (pv 2) (aj) (fun _ _=>rfl)) (aG _))))) (ag (aq (bZ (jN (am) (e6))))) (ax)) (
   ae (aO (PW.pt (gL (az bT (aT aK (pv 2) (aj) (fun _ _=>rfl)) (am) (aG _)) (eG (ed (qQ hu (ba fB hr.m rfl (jN (aT aK (pv 2) (aj) (fun _ _=>rfl)) (aT aK (pv 2) (aj) (fun _ _=>rfl)))) (pv 1)))))) (ag (aq (bZ (jN (am) (e6))))) (ax)) (
   ag (aq (bZ (jN (am) (e6))))))))),?_⟩
  refine⟨_,rfl,_,rfl,t,_,rfl,c7.of ht,x9 d,fun q hq=>?_⟩;have s1:ay H (upd H q (.tup (ij (de d) (some 1) none))):=ak hq
  have hq1:upd H q (.tup (ij (de d) (some 1) none)) q=some (.tup ((names d).map V.int)):=by rw[ac,vc]
  generalize upd H q (.tup (ij (de d) (some 1) none))=H1 at s1 hq1
  refine⟨q,rfl,⟨_,c7.of hq1⟩,yf (K:=K) (a:=q) (xs:=(names d).map V.int) (fun i σ H2=>∃ v:Option V,σ=[some (.ref w),some (.ref m),some (.ref t),v]/\H2=H1/\(word d≠"come"->∀ y∈(names d).take i,(look wl y).isSome=true))
   ⟨none,rfl,rfl,fun _ y hy=>by simp at hy⟩ (fun i σ H2 _ ⟨_,_,e,_⟩=>by rw[e];exact c7.of hq1) ?_ ?_⟩
  ·rintro i y σ H2 hi ⟨v,rfl,rfl,hp⟩
   obtain⟨x,hx,rfl⟩:=cf hi;refine⟨_,rfl,t,_,_,_,rfl,rfl,c7.of (s1 _ _ ht),cz (j:=0) rfl,rfl,_,rfl,?_⟩
   have nxt:(word d≠"come"->(look wl x).isSome=true)->(word d≠"come"->∀ y∈(names d).take (i+1),(look wl y).isSome=true):=fun h hc y hy=>by
    rw[tD hx]at hy;rcases IN.mp hy with z | z
    ·exact hp hc y z
    ·rw[IF.mp z];exact h hc
   by_cases hc:word d="come"
   ·rw[ID (by rw[hc])]
    exact aw (aw ⟨_,rfl,rfl,nxt fun z=>absurd hc z⟩)
   ·rw[IE (fun z=>hc (V.str.inj z))]
    refine bc ⟨_,rfl,_,rfl,w,_,rfl,gw _ x s1,_,rfl,?_⟩
    cases e:look wl x with
    | none =>
     refine bc ⟨_,rfl,two,fun r hr2=>?_⟩;refine k r _ (s1.free hr2) (s1.trans (ak hr2)) ?_;rw[ac,AK hc (hp hc) hx e];rfl
    | some z=>exact aw ⟨_,rfl,rfl,nxt fun _=>by rw[e];rfl⟩
  ·rintro σ H2 ⟨v,rfl,rfl,hp⟩
   have fin:∀ (o:y7)(H3:Hp)(r:Addr),bF wl (oR ml) d=o->ay H H3->H3 r=none->Q (.ref r) (upd H3 r (.tup (CM o))):=fun o H3 r e s3 h3=>k r _ (s3.free h3) (s3.trans (ak h3)) (by rw[ac,e]);rw[Iq,Jp]at hp;have T0:c7 K H2 t (de d):=c7.of (s1 _ _ ht)
   cases d with
   | come g =>
    refine⟨_,rfl,t,_,_,_,rfl,rfl,T0,rfl,rfl,_,rfl,?_⟩;rw[show decide (V.str (word (.come g))=V.str "come")=true from cc];refine bc ⟨_,rfl,t,_,_,_,rfl,rfl,T0,rfl,_,rfl,w,_,rfl,gw _ g s1,_,rfl,?_⟩
    cases e:look wl g with
    | some z=>exact bc ⟨two,fun r h3=>fin .already _ r (by simp[bF,e]) s1 h3⟩
    | none =>
     refine aw ⟨_,rfl,t,_,_,_,rfl,rfl,T0,rfl,rfl,_,rfl,?_⟩;rw[show decide (V.str (word (.come g))=V.str "go")=false from cg];refine aw (aw ⟨_,rfl,t,_,_,_,rfl,rfl,T0,rfl,rfl,_,rfl,?_⟩);rw[show decide (V.str (word (.come g))=V.str "exchange")=false from ce];refine aw (aw ⟨_,rfl,t,_,_,_,rfl,rfl,T0,rfl,rfl,_,rfl,?_⟩);rw[show decide (V.str (word (.come g))=V.str "exchange")=false from ce];exact aw (aw ⟨two,fun r h3=>fin .done _ r (by simp[bF,e]) s1 h3⟩)
   | go g =>
    have hg:=hp (by show ("go" : Str)≠"come";decide +kernel) g (by simp[names]);obtain⟨z,e⟩:=Jn.mp hg;refine⟨_,rfl,t,_,_,_,rfl,rfl,T0,rfl,rfl,_,rfl,?_⟩;rw[show decide (V.str (word (.go g))=V.str "come")=false from gc];refine aw (aw ⟨_,rfl,t,_,_,_,rfl,rfl,T0,rfl,rfl,_,rfl,?_⟩);rw[show decide (V.str (word (.go g))=V.str "go")=true from gg];refine bc ⟨_,rfl,_,rfl,t,_,_,_,rfl,rfl,T0,rfl,w,_,rfl,(by have:=gw H2 g s1;rw[e]at this;exact this),_,rfl,t,_,_,_,rfl,rfl,T0,rfl,rfl,_,rfl,?_⟩
    by_cases hz:z=g
    ·rw[ID (by rw[hz])]
     refine aw ⟨_,rfl,t,_,_,_,rfl,rfl,T0,rfl,rfl,_,rfl,?_⟩;rw[show decide (V.str (word (.go g))=V.str "exchange")=false from ge];refine aw (aw ⟨_,rfl,t,_,_,_,rfl,rfl,T0,rfl,rfl,_,rfl,?_⟩);rw[show decide (V.str (word (.go g))=V.str "exchange")=false from ge];exact aw (aw ⟨two,fun r h3=>fin .done _ r (by simp[bF,e,hz]) s1 h3⟩)
    ·rw[IE (fun q=>hz (V.int.inj q))]
     exact bc ⟨two,fun r h3=>fin .masked _ r (by simp[bF,e,hz]) s1 h3⟩
   | exch a b =>
    have ha:=hp (by show ("exchange" : Str)≠"come";decide +kernel) a (by simp[names]);have hb:=hp (by show ("exchange" : Str)≠"come";decide +kernel) b (by simp[names]);obtain⟨za,ea⟩:=Jn.mp ha;obtain⟨zb,eb⟩:=Jn.mp hb;refine⟨_,rfl,t,_,_,_,rfl,rfl,T0,rfl,rfl,_,rfl,?_⟩;rw[show decide (V.str (word (.exch a b))=V.str "come")=false from ec];refine aw (aw ⟨_,rfl,t,_,_,_,rfl,rfl,T0,rfl,rfl,_,rfl,?_⟩);rw[show decide (V.str (word (.exch a b))=V.str "go")=false from eg];refine aw (aw ⟨_,rfl,t,_,_,_,rfl,rfl,T0,rfl,rfl,_,rfl,?_⟩);rw[show decide (V.str (word (.exch a b))=V.str "exchange")=true from ee];refine bc ⟨_,rfl,t,_,_,_,rfl,rfl,T0,rfl,_,rfl,t,_,_,_,rfl,rfl,T0,rfl,rfl,_,rfl,?_⟩
    by_cases hab:a=b
    ·rw[ID (by rw[hab])]
     exact bc ⟨two,fun r h3=>fin .same _ r (by simp[bF,ea,eb,hab]) s1 h3⟩
    ·rw[IE (fun q=>hab (V.int.inj q))]
     refine aw ⟨_,rfl,t,_,_,_,rfl,rfl,T0,rfl,rfl,_,rfl,?_⟩;rw[show decide (V.str (word (.exch a b))=V.str "exchange")=true from ee];refine bc ⟨_,rfl,t,_,_,_,rfl,rfl,T0,rfl,_,rfl,t,_,_,_,rfl,rfl,T0,rfl,a,b,rfl,fun kt hk=>?_⟩;have s2:=s1.trans (ak (o:=.tup [.int (gJ a b).1,.int (gJ a b).2]) hk);refine⟨_,rfl,m,_,rfl,c3.t (k:=[Sum.inl (gJ a b).1,Sum.inl (gJ a b).2]) (s2 _ _ hm) ac,_,rfl,?_⟩;rw[Cz]
     by_cases hmt:gJ a b∈ml
     ·rw[ID hmt]
      exact bc ⟨two,fun r h3=>fin .met _ r (by simp[bF,ea,eb,hab,oR,hmt]) s2 h3⟩
     ·rw[IE hmt]
      exact aw ⟨two,fun r h3=>fin .done _ r (by simp[bF,ea,eb,hab,oR,hmt]) s2 h3⟩
theorem ul (F:dt K "_law_after" "_law_after" iD f fd)(fB:bb P w K mg base "_law_key" 1 ["_law_one","_law_other"] BB) : aR P w K mg base c0 2 f fd ["_law_worn","_law_met","_law_deed_here"] yF:=by
 refine F.ok lY (fun vs H Q E h=>?_) (fun cdv A outer s H vs Q E hr h=>?_)
 ·obtain⟨w,m,t,wl,ml,d,rfl,_⟩:=h
  rfl
 ·obtain⟨w,m,t,wl,ml,d,rfl,hw,hm,ht0,l1,l2,hj,k⟩:=h
  have hu:=eO hr
  have ht:H t=some (.tup (de d)):=by rw[<-il];exact ht0
  have T0:c7 K H t (de d):=c7.of ht;have nwt:t≠w:=bQ ht hw (by intro z;cases z);have nwm:m≠w:=bQ hm hw (by intro z;cases z);have ntm:t≠m:=bQ ht hm (by intro z;cases z)
  have sz:∀ v:List (Int×Int),v.length<=2000->(dk v).length<sizeLine:=fun v h=>by rw[xg];exact Kd h (by decide)
  refine⟨_,ag (aO (az bT (aT aK (pv 2) (aj) (fun _ _=>rfl)) (am) (aG _)) (ag (gz hu (pv 0) (aT aK (pv 2) (aj) (fun _ _=>rfl)) (aT aK (pv 2) (aj) (fun _ _=>rfl)) rfl)) (ag (aO (az bT (aT aK (pv 2) (aj) (fun _ _=>rfl)) (am) (aG _)) (ag (aN (qS (pv 0) (aT aK (pv 2) (aj) (fun _ _=>rfl)) ⟨rfl,rfl,rfl,rfl⟩))) (ae (bD 3 lY.nd (iq hu (pv 0) (aT aK (pv 2) (aj) (fun _ _=>rfl)) (fun _ _=>rfl))) (
   ae (gz hu (pv 0) (aT aK (pv 2) (aj) (fun _ _=>rfl)) (iq hu (pv 0) (aT aK (pv 2) (aj) (fun _ _=>rfl)) (fun _ _=>rfl)) rfl) (
   ae (gz hu (pv 0) (aT aK (pv 2) (aj) (fun _ _=>rfl)) (pv 3) rfl) (
   ag (gz hu (pv 1) (ba fB hr.m rfl (jN (aT aK (pv 2) (aj) (fun _ _=>rfl)) (aT aK (pv 2) (aj) (fun _ _=>rfl)))) (kr) rfl)))))))),?_⟩
  cases d with
  | come g =>
   refine⟨_,rfl,t,_,_,_,rfl,rfl,T0,rfl,rfl,_,rfl,?_⟩;rw[show decide (V.str (word (.come g))=V.str "come")=true from cc];refine bc ⟨_,rfl,t,_,_,_,rfl,rfl,T0,rfl,_,rfl,_,rfl,t,_,_,_,rfl,rfl,T0,rfl,w,_,rfl,kD.k (k:=Sum.inl g) hw (sz _ (by omega)),?_⟩;rw[lV]
   exact k _ ac (by rw[af nwm];exact hm) fun b o e h1 _=>by rw[af h1];exact e
  | go g =>
   refine⟨_,rfl,t,_,_,_,rfl,rfl,T0,rfl,rfl,_,rfl,?_⟩;rw[show decide (V.str (word (.go g))=V.str "come")=false from gc];refine aw ⟨_,rfl,t,_,_,_,rfl,rfl,T0,rfl,rfl,_,rfl,?_⟩;rw[show decide (V.str (word (.go g))=V.str "go")=true from gg]
   obtain⟨z,e⟩:∃ z,look wl g=some z:=by
    cases e:look wl g with
    | none=>simp[bF,e]at hj
    | some z=>exact⟨z,rfl⟩
   refine bc ⟨_,rfl,w,rfl,.inl ⟨_,.inl hw⟩,_,rfl,t,_,_,_,rfl,rfl,T0,rfl,_,Sum.inl g,_,hw,rfl,by rw[db,e];rfl,?_⟩;rw[pX]
   exact k _ ac (by rw[af nwm];exact hm) fun b o e h1 _=>by rw[af h1];exact e
  | exch a b =>
   refine⟨_,rfl,t,_,_,_,rfl,rfl,T0,rfl,rfl,_,rfl,?_⟩;rw[show decide (V.str (word (.exch a b))=V.str "come")=false from ec];refine aw ⟨_,rfl,t,_,_,_,rfl,rfl,T0,rfl,rfl,_,rfl,?_⟩;rw[show decide (V.str (word (.exch a b))=V.str "go")=false from eg]
   obtain⟨za,ea⟩:∃ z,look wl a=some z:=by
    cases e:look wl a with
    | none=>simp[bF,e]at hj
    | some z=>exact⟨z,rfl⟩
   obtain⟨zb,eb⟩:∃ z,look wl b=some z:=by
    cases e:look wl b with
    | none=>simp[bF,ea,e]at hj
    | some z=>exact⟨z,rfl⟩
   have ga:c3 H w (.int a) (some (V.int za)):=by have:=c3.k (k:=Sum.inl a) hw;rw[db,ea]at this;exact this
   have gb:c3 H w (.int b) (some (V.int zb)):=by have:=c3.k (k:=Sum.inl b) hw;rw[db,eb]at this;exact this
   refine aw ⟨_,rfl,_,rfl,t,_,_,_,rfl,rfl,T0,rfl,w,_,rfl,ga,?_⟩;refine⟨_,rfl,_,rfl,t,_,_,_,rfl,rfl,T0,rfl,w,_,rfl,gb,_,rfl,_,rfl,t,_,_,_,rfl,rfl,T0,rfl,w,_,rfl,kD.k (k:=Sum.inl a) hw (sz _ (by omega)),?_⟩;rw[lV];have lp:=uc wl a zb;have T1:c7 K (upd H w (.dK (dk (put wl a zb)))) t (de (.exch a b)):=c7.of (by rw[af nwt];exact ht);refine⟨_,rfl,_,rfl,_,rfl,t,_,_,_,rfl,rfl,T1,rfl,w,_,rfl,kD.k (k:=Sum.inl b) ac (sz _ (by omega)),?_⟩;rw[lV,jT];have T2:c7 K (upd H w (.dK (dk (put (put wl a zb) b za)))) t (de (.exch a b)):=c7.of (by rw[af nwt];exact ht);refine⟨_,rfl,_,rfl,t,_,_,_,rfl,rfl,T2,rfl,_,rfl,t,_,_,_,rfl,rfl,T2,rfl,a,b,rfl,fun kt hk=>?_⟩;have hkm:m≠kt:=ah (by rw[af nwm];exact hm) hk;have hkw:w≠kt:=ah ac hk;refine⟨m,_,rfl,kD.t (k:=[Sum.inl (gJ a b).1,Sum.inl (gJ a b).2]) (by rw[af hkm,af nwm];exact hm) ac (by unfold zE;rw[Iq];exact Kd l2 (by decide)),?_⟩;rw[Cy]
   have wa:wr wl a=za:=by unfold wr;rw[ea];rfl
   have wb:wr wl b=zb:=by unfold wr;rw[eb];rfl
   refine k _ ?_ ac fun x o e h1 h2=>?_
   ·rw[af (IJ nwm),af hkw,ac]
    show some (HO.dK (dk (put (put wl a zb) b za)))=some (HO.dK (dk (put (put wl a (wr wl b)) b (wr wl a))))
    rw[wa,wb]
   ·have e':upd H w (.dK (dk (put (put wl a zb) b za))) x=some o:=by rw[af h1];exact e
    rw[af h2,af (ah e' hk)];exact e'
theorem vU (F:dt K "_law_deed" "_law_deed" jt f fd)(bH:bb P w K mg base "_law_guest" 2 ["_law_k","_law_cell"] py) : aR P w K mg base c0 3 f fd ["_law_drawn","_law_many","_law_cell"] yI:=by
 refine F.ok oG (fun vs H Q E h=>?_) (fun cdv A outer s H vs Q E hr h=>?_)
 ·obtain⟨dr,m,n,rfl,_⟩:=h
  rfl
 ·obtain⟨dr,m,n,rfl,⟨d0,d1⟩,⟨m0,m1⟩,k⟩:=h
  refine⟨_,ae (bD 3 oG.nd (ba bH hr.m rfl (jN (aH bG (aH eD (pv 0) (aj)) (pv 1)) (pv 2)))) (
   ae (aO (az bT (aH bG (pv 0) (aj)) (aj) (aG _)) (ag (aq (bZ (jN (am) (pv 3))))) (ax)) (
   ae (aO (az bT (aH bG (pv 0) (aj)) (aj) (aG _)) (ag (aq (bZ (jN (am) (pv 3))))) (ax)) (
   ag (aq (bZ (zS (am) (pv 3) (ba bH hr.m rfl (jN (aH bG (aH eD (pv 0) (aH qP (aj) (pv 1))) (pv 1)) (pv 2))))))))),?_⟩
  have em:∀ z:Int,0<=z%m/\z%m<m:=fun z=>⟨JB _ (by omega),Jw _ (by omega)⟩;have a0:=em (dr/8);refine⟨_,rfl,_,_,rfl,rfl,⟨by decide,by decide⟩,_,rfl,_,_,rfl,rfl,by show (0:Int)<m;omega,_,rfl,_,_,rfl,⟨a0.1,by omega⟩,?_⟩;have g0:uW (dr/8%m) n∈bv 40 n:=wZ ⟨a0.1,by omega⟩;refine⟨_,rfl,_,_,rfl,rfl,by show (0:Int)<8;decide,rfl,_,rfl,?_⟩;refine xb (fun _=>⟨_,rfl,by show 2<=sizeLine;decide,fun t ht=>k t (.come (uW (dr/8%m) n)) ht fun g hg=>by simp[names]at hg;rw[hg];exact g0⟩) (fun _=>?_);refine⟨_,rfl,_,_,rfl,rfl,by show (0:Int)<8;decide,rfl,_,rfl,?_⟩;refine xb (fun _=>⟨_,rfl,by show 2<=sizeLine;decide,fun t ht=>k t (.go (uW (dr/8%m) n)) ht fun g hg=>by simp[names]at hg;rw[hg];exact g0⟩) (fun _=>?_);have a1:=em (dr/(8*m));have g1:uW (dr/(8*m)%m) n∈bv 40 n:=wZ ⟨a1.1,by omega⟩;refine⟨_,rfl,_,rfl,_,rfl,_,_,rfl,rfl,.inl ⟨by decide,by decide⟩,_,_,rfl,rfl,⟨by show (0:Int)<8*m;omega,by show 8*m<1073741824;omega⟩,_,rfl,_,_,rfl,rfl,by show (0:Int)<m;omega,_,rfl,_,_,rfl,⟨a1.1,by omega⟩,by show 3<=sizeLine;decide,fun t ht=>?_⟩
  exact k t (.exch (uW (dr/8%m) n) (uW (dr/(8*m)%m) n)) ht fun g hg=>by
   simp[names]at hg;rcases hg with rfl | rfl
   ·exact g0
   ·exact g1
theorem um (F:dt K "_law_crowd" "_law_crowd" iE f fd) : aR P w K mg base c0 1 f fd ["_law_cell"] yH:=by
 refine F.ok uG (fun vs H Q E h=>?_) (fun cdv A outer s H vs Q E hr h=>?_)
 ·obtain⟨n,rfl,_⟩:=h
  rfl
 ·obtain⟨n,rfl,k⟩:=h
  refine⟨_,ae (aO (az bT (aH bG (aH eD (pv 0) (aj)) (aj)) (aj) (aG _)) (ag (aq (aH dQ (aj) (aH bG (aH eD (pv 0) (aj)) (aj))))) (ax)) (
   ag (aq (aH dQ (aj) (aH bG (pv 0) (aj))))),?_⟩
  refine⟨_,rfl,_,_,rfl,rfl,⟨by decide,by decide⟩,_,_,rfl,rfl,by show (0:Int)<8;decide,rfl,_,rfl,?_⟩;refine xb (fun _=>?_) (fun _=>?_)
  ·refine⟨_,rfl,_,_,rfl,rfl,⟨by decide,by decide⟩,_,_,rfl,rfl,by show (0:Int)<28;decide,_,_,rfl,rfl,k _ ?_⟩
   have:=Jw (n/1408) (show (0:Int)<28 by decide);have:=JB (n/1408) (show (28:Int)≠0 by decide);omega
  ·refine⟨_,rfl,_,_,rfl,rfl,by show (0:Int)<11;decide,_,_,rfl,rfl,k _ ?_⟩
   have:=Jw n (show (0:Int)<11 by decide);have:=JB n (show (11:Int)≠0 by decide);omega
theorem uo (F:dt K "_law_deeds" "_law_deeds" dW f fd)(bw:bb P w K mg base "_law_cell_at" 1 ["_law_script","_law_k"] (xR K))(iS:bb P w K mg base "_law_crowd" 1 ["_law_cell"] yH)(bH:bb P w K mg base "_law_guest" 2 ["_law_k","_law_cell"] py)(ky:bb P w K mg base "_law_deed" 3 ["_law_drawn","_law_many","_law_cell"] yI)(d6:bb P w K mg base "_law_draws_from" 3 ["_law_script","_law_start","_law_most","_law_base"] (Bz K)) : aR P w K mg base c0 4 f fd ["_law_script"] (wv K):=by
 refine F.ok dR (fun vs H Q E h=>?_) (fun cdv A outer s H vs Q E hr h=>?_)
 ·obtain⟨a,ns,rfl,_⟩:=h
  rfl
 ·obtain⟨a,ns,rfl,hS,k⟩:=h
  refine⟨_,ae (bD 1 dR.nd (ba bw hr.m rfl (jN (pv 0) (aj)))) (
   ae (bD 2 dR.nd (ba iS hr.m rfl (eE (ba bw hr.m rfl (jN (pv 0) (aj)))))) (
   ae (bD 3 dR.nd (aH bG (aH eD (ba bw hr.m rfl (jN (pv 0) (aj))) (aj)) (aj))) (
   ae (uA (ix:=4) (so:=ai dW) (N:=jg) (N':=["_law_k","_law_first","_law_cell"]) (src:=[none,some 3,some 1]) rfl rfl B8 rfl (ni (by rfl) T.range (eE (pv 2))) (fun cl C s2 H2 ex=>⟨oC 0 (show (["_law_k","_law_first","_law_cell"]:List Str).Nodup by decide +kernel),uB (PW.pt (yB (az FN (pv 1) (aj) (aG _)) (uC (az bT (aH bG (pv 0) (aj)) (aj) (aG _))))),bZ (jN (am) (ba bH hr.m rfl (jN (pv 0) (pv 2))))⟩) dR.nd rfl rfl) (
   ag (aq (aH xE (pv 4) (fm (so:=ai dW) (N:=jg) (N':=["_law_drawn","_law_many","_law_cell"]) (src:=[none,some 2,some 1]) rfl rfl B8 rfl (cR (ba d6 hr.m rfl (ar (pv 0) (ar (aj) (ar (aj) (ar (aj) aD)))))) (fun cl C s2 H2 ex=>⟨oC 0 (show (["_law_drawn","_law_many","_law_cell"]:List Str).Nodup by decide +kernel),fo,ba ky hr.m rfl (zS (pv 0) (pv 1) (pv 2))⟩)))))))),?_⟩
  refine⟨_,rfl,a,ns,1,rfl,hS,by decide,?_⟩;generalize hcn:eZ ns 1=cn at k ⊢;refine⟨_,rfl,a,ns,0,rfl,hS,by decide,_,rfl,fun m ⟨m0,m1⟩=>?_⟩;refine⟨_,rfl,a,ns,0,rfl,hS,by decide,_,_,rfl,rfl,⟨by decide,by decide⟩,_,_,rfl,rfl,by show (0:Int)<16;decide,?_⟩;refine⟨_,rfl,m,rfl,by omega,by omega,fun l hl=>?_⟩
  refine mI (n:=m.toNat) (fun i σ H2=>∃ (v:Option V)(ds:List aB),σ=[v,some (.int (eZ ns 0/11%16)),some (.int cn)]/\ay H H2/\dv H2 l ds/\(∀ d∈ds,∀ g∈names d,g∈bv 40 cn)/\ds.length<=i/\ds.filter vq=[])
   ⟨none,[],rfl,ak hl,⟨[],ac,.nil⟩,(fun d hd=>nomatch hd),Ix _,rfl⟩ ?_ ?_
  ·rintro i σ H2 hi ⟨v,ds,rfl,s2,⟨as,hl2,hp2⟩,hn,hlen,hex⟩
   have hal:=IU hp2
   have app:∀ t,H2 t=none->∃ (v:Option V)(ds:List aB),([some (.int (0+(i:Int))),some (.int (eZ ns 0/11%16)),some (.int cn)]:St)=[v,some (.int (eZ ns 0/11%16)),some (.int cn)]/\ay H (upd (upd H2 t (cj (.come (uW (0+(i:Int)) cn)))) l (.lst (as.map V.ref++[.ref t])))/\dv (upd (upd H2 t (cj (.come (uW (0+(i:Int)) cn)))) l (.lst (as.map V.ref++[.ref t]))) l ds/\(∀ d∈ds,∀ g∈names d,g∈bv 40 cn)/\ds.length<=i+1/\ds.filter vq=[]:=fun t ht=>by
    refine⟨_,ds++[.come (uW (0+(i:Int)) cn)],rfl,bz (s2.trans (ak ht)) hl,pU hl2 hp2 ht _,fun d hd g hg=>?_,by rw[IK];show ds.length+1<=i+1;omega,by rw[JW,hex];rfl⟩;rcases IN.mp hd with z | z
    ·exact hn d z g hg
    ·rw[IF.mp z]at hg
     simp[names]at hg;rw[hg];exact wZ ⟨by omega,by omega⟩
   refine xY ⟨_,rfl,_,_,rfl,rfl,_,rfl,xb (fun _=>bc ?_) (fun _=>⟨_,rfl,_,_,rfl,rfl,by show (0:Int)<2;decide,rfl,_,rfl,xb (fun _=>?_) (fun _=>?_)⟩)⟩
   ·refine⟨_,rfl,_,rfl,_,_,rfl,⟨by omega,by omega⟩,by show 2<=sizeLine;decide,fun t ht=>⟨_,by rw[af (ah hl2 ht)];exact hl2,by rw[Iq];exact aQ (by omega),?_⟩⟩
    exact app t ht
   ·refine⟨_,rfl,_,rfl,_,_,rfl,⟨by omega,by omega⟩,by show 2<=sizeLine;decide,fun t ht=>⟨_,by rw[af (ah hl2 ht)];exact hl2,by rw[Iq];exact aQ (by omega),?_⟩⟩
    exact app t ht
   ·exact⟨_,ds,rfl,s2,⟨as,hl2,hp2⟩,hn,by omega,hex⟩
  ·rintro σ H2 ⟨v,ds,rfl,s2,d2,hn,hlen,hex⟩
   refine⟨_,rfl,_,rfl,a,ns,2,48,12800,rfl,s2.seq hS,⟨by decide,by decide⟩,⟨by decide,by decide⟩,⟨by decide,by decide⟩,fun q H3 es hq s3 hq3 hes hel=>?_⟩;refine⟨q,rfl,⟨_,bx.of hq3⟩,fun l2 hl2=>?_⟩;have d3:=d7 (d7 d2 s3) (ak (o:=.lst []) hl2);have nq:q≠l2:=ah hq3 hl2
   refine cp (K:=K) (a:=q) (xs:=es.map V.int) (fun i σ H4=>∃ (v:Option V)(fs:List aB),σ=[v,some (.int m),some (.int cn)]/\ay H3 H4/\dv H4 l2 fs/\(∀ d∈fs,∀ g∈names d,g∈bv 40 cn)/\fs.length=i)
    ⟨none,[],rfl,ak hl2,⟨[],ac,.nil⟩,(fun d hd=>nomatch hd),rfl⟩ (fun i σ H4 _ ⟨_,_,_,s4,_⟩=>bx.of (s4 _ _ hq3)) ?_ ?_
   ·rintro i y σ H4 hi ⟨v,fs,rfl,s4,⟨as,hl4,hp4⟩,hn4,hlen4⟩
    obtain⟨dr,hdr,rfl⟩:=cf hi;have hil:i<es.length:=(IG.mp hdr).1;have hb:=hes dr (Jc hdr);have hal:=IU hp4;refine iJ ⟨_,rfl,_,rfl,_,rfl,dr,m,cn,rfl,⟨hb.1,by omega⟩,⟨m0,m1⟩,fun t d ht hnd=>⟨_,by rw[af (ah hl4 ht)];exact hl4,by rw[Iq];exact aQ (by omega),?_⟩⟩;refine⟨_,fs++[d],rfl,bz (s4.trans (ak ht)) hl2,pU hl4 hp4 ht d,fun d' hd' g hg=>?_,by rw[IK];show fs.length+1=i+1;omega⟩;rcases IN.mp hd' with z | z
    ·exact hn4 d' z g hg
    ·rw[IF.mp z]at hg;exact hnd g hg
   ·rintro σ H4 ⟨v,fs,rfl,s4,⟨as4,hl4,hp4⟩,hn4,hlen4⟩
    rw[Iq]at hlen4;obtain⟨as2,hl2',hp2⟩:=d7 (d7 d2 s3) s4;have l1:=IU hp2;have l3:=IU hp4;refine⟨l,l2,_,_,rfl,rfl,hl2',hl4,by rw[Iq,Iq];exact Nat.le_of_lt (aQ (by omega)),fun p hp=>?_⟩;have s24:=(s2.trans s3).trans s4;refine k p _ (ds++fs) (s24.free hp) (s24.trans (ak hp)) ⟨as2++as4,by rw[ac,IQ],?_⟩ (fun d hd g hg=>?_) (by rw[IK];omega) (by rw[JW,hex,List.nil_append];exact IY (JO _ _) (by omega))
    ·exact bJ (Paired.mapP hp2 fun b y e=>(ak hp) _ _ e) (Paired.mapP hp4 fun b y e=>(ak hp) _ _ e)
    ·rcases IN.mp hd with z | z
     ·exact hn d z g hg
     ·exact hn4 d z g hg
theorem uu (F:dt K "_law_wrong" "_law_wrong" fz f fd) : aR P w K mg base c0 1 f fd ["_law_worn"] yQ:=by
 refine F.ok uH (fun vs H Q E h=>?_) (fun cdv A outer s H vs Q E hr h=>?_)
 ·obtain⟨d,w,rfl,_⟩:=h
  rfl
 ·obtain⟨d,w,rfl,hd,h64,k⟩:=h
  have hu:=eO hr
  refine⟨_,ag (aq (fm (so:=ai fz) (N:=oy) (N':=["_law_guest_here","_law_worn"]) (src:=[none,some 0]) rfl rfl ⟨rfl,by decide +kernel,by decide +kernel,by decide +kernel,by decide +kernel,rfl,by decide +kernel⟩ rfl
    (cR (cr (lz rfl) (by rfl) T.sorted PyProof.Rows.boot_sorted (ar (pv 0) aD)))
    (fun cl C s2 H2 ex=>⟨jP (i:=0) (show (["_law_guest_here","_law_worn"]:List Str).Nodup by decide +kernel) rfl (Or.inl rfl),uB (az ji (iq hu (pv 1) (pv 0) (fun _ _=>rfl)) (pv 0) (aG _)),pv 0⟩))),?_⟩
  have hkl:(av w).length<64:=by unfold av;rw[Iq];exact h64
  refine⟨_,rfl,d,_,av w,rfl,hd,Cp w,hkl,fun q hq=>?_⟩;have hqd:d≠q:=ah hd hq;refine⟨q,rfl,⟨_,bx.of ac⟩,fun r hr0=>?_⟩;have hrq:q≠r:=ah ac hr0;have hrd:d≠r:=ah (show upd H q (.lst ((df (av w)).map V.int)) d=some (.dK (dk w)) by rw[af hqd];exact hd) hr0
  have hHr:H r=none:=by rw[af (IJ hrq)]at hr0;exact hr0
  generalize hks:df (av w)=ks at *
  have hsl:ks.length<64:=by rw[<-hks,mX];exact hkl
  refine cp (K:=K) (a:=q) (xs:=ks.map V.int) (fun i σ H2=>∃ (v:Option V),σ=[v,some (.ref d)]/\ay H H2/\H2 q=some (.lst (ks.map V.int))/\H2 r=some (.lst (((ks.take i).filter fun g=>decide (wr w g≠g)).map V.int)))
   ⟨none,rfl,bz (ak hq) hHr,by rw[af hrq,ac],ac⟩ (fun i σ H2 _ ⟨_,_,_,h,_⟩=>bx.of h) ?_ ?_
  ·rintro i y σ H2 hi ⟨v,rfl,s2,hq2,hr2⟩
   obtain⟨g,hg,rfl⟩:=cf hi;have hil:=(IG.mp hg).1
   have hgk:g∈av w:=by rw[<-sU,hks];exact Jc hg
   obtain⟨m,hm⟩:=Jn.mp (bN.mpr hgk)
   have hwr:wr w g=m:=by unfold wr;rw[hm];rfl
   have hval:da (dk w) (Sum.inl g:ca)=some (.int m):=by rw[db,hm];rfl
   have gt:c3 H2 d (.int g) (some (.int m)):=by rw[<-hval];exact c3.k (k:=Sum.inl g) (s2 _ _ hd)
   refine xY ⟨_,rfl,_,rfl,d,_,rfl,gt,_,rfl,rfl,_,rfl,?_⟩
   have nxt:((ks.take (i+1)).filter fun g=>decide (wr w g≠g)).map V.int=((ks.take i).filter fun g=>decide (wr w g≠g)).map V.int++(if wr w g≠g then [V.int g] else []):=by
    rw[tD hg,JW,IQ]
    congr 1
    by_cases hne:wr w g≠g<;>simp[hne]
   by_cases hne:wr w g≠g
   ·rw[show (!decide (V.int m=V.int g))=true by rw[IE (fun z=>hne (by rw[hwr];injection z))];rfl]
    have hfl:(((ks.take i).filter fun g=>decide (wr w g≠g)).map V.int).length<=i:=by
     rw[Iq];exact IY (JO _ _) (by rw[Jm];omega)
    refine bc ⟨_,rfl,_,hr2,aQ (by omega),?_⟩;refine⟨_,rfl,bz s2 hHr,by rw[af hrq];exact hq2,?_⟩;rw[ac,nxt,Iu hne]
   ·have hne':wr w g=g:=by simpa using hne
    rw[show (!decide (V.int m=V.int g))=false by rw[ID (by rw[<-hwr,hne'])];rfl];refine aw ⟨_,rfl,s2,hq2,?_⟩;rw[nxt,Ir hne,Kb];exact hr2
  ·rintro σ H2 ⟨v,rfl,s2,hq2,hr2⟩
   refine k r H2 hHr s2 ?_;rw[Iq,Jp]at hr2;unfold aW;rw[hks];exact hr2
theorem ut (F:dt K "_law_rings" "_law_rings" iH f fd)(iW:bb P w K mg base "_law_wrong" 1 ["_law_worn"] yQ) : aR P w K mg base c0 3 f fd ["_law_worn"] wx:=by
 refine F.ok cE (fun vs H Q E h=>?_) (fun cdv A outer s H vs Q E hr h=>?_)
 ·obtain⟨w,W,rfl,_⟩:=h
  rfl
 ·obtain⟨w,W,rfl,hw,h64,P,k⟩:=h
  have hu:=eO hr;have nil0:(0:Nat)<=sizeLine:=Jg _
  refine⟨_,ae (bD 1 cE.nd c5) (
   ae (bD 2 cE.nd (dz aD)) (
   ae (gK Jy rfl (cR (ba iW hr.m rfl (eE (pv 0)))) (oC 3 cE.nd) (ag (aO (ed (jO hu (pv 3) (pv 1))) (ae (bD 4 cE.nd (dz aD)) (
   ae (bD 5 cE.nd (pv 3)) (
   ae (wj Jy (ed (jO hu (pv 5) (pv 1))) (ae (gz hu (pv 1) (pv 5) (kr) rfl) (
   ae (aN (eR Jd Ja Jb bK (pv 4) (eE (pv 5)))) (
   ag (bD 5 cE.nd (iq hu (pv 0) (pv 5) (fun _ _=>rfl))))))) (
   ag (aN (eR Jd Ja Jb bK (pv 2) (eE (pv 4)))))))) (ax)))) (
   ag (aq (pv 2))))),?_⟩
  obtain⟨w1,w2,w3,w4⟩:=P.wrong;intro sn hsn;have sA:=ak (o:=.dK []) hsn;have hs1:upd H sn (.dK []) sn=some (.dK (mq [])):=ac;generalize upd H sn (.dK [])=H1 at sA hs1 ⊢;refine⟨nil0,fun lr hlr=>?_⟩;have sB:=ak (o:=.lst []) hlr;have lr0:H lr=none:=sA.free hlr;have hr1:upd H1 lr (.lst []) lr=some (.lst (([]:List Addr).map V.ref)):=ac;have hs2:=sB _ _ hs1;generalize upd H1 lr (.lst [])=H2 at sB hr1 hs2 ⊢;refine⟨_,rfl,w,W,rfl,(sA.trans sB) _ _ hw,h64,fun ls H3 hls s3 h3=>?_⟩;have snlr:sn≠lr:=bQ hs2 hr1 (by intro z;cases z)
  have lsr:ls≠lr:=fun z=>by rw[z,hr1]at hls;cases hls
  have lss:ls≠sn:=fun z=>by rw[z,hs2]at hls;cases hls
  refine⟨ls,rfl,⟨_,bx.of h3⟩,cp (K:=K) (a:=ls) (xs:=(aW W).map V.int) (fun i σ HH=>∃ (as:List Addr)(v3 v4 v5:Option V),σ=[some (.ref w),some (.ref sn),some (.ref lr),v3,v4,v5]/\ay H HH/\HH ls=some (.lst ((aW W).map V.int))/\HH sn=some (.dK (mq (qR W i).1)) /\
    HH lr=some (.lst (as.map V.ref))/\Paired (fun a (r:List Int)=>HH a=some (.lst (r.map V.int))) as (qR W i).2/\lr∉as)
   ⟨[],none,none,none,rfl,(sA.trans sB).trans s3,h3,s3 _ _ hs2,s3 _ _ hr1,.nil,(fun h=>nomatch h)⟩ (fun i σ HH _ ⟨_,_,_,_,_,_,h,_⟩=>bx.of h) ?_ ?_⟩
  ·rintro i y σ HH hi ⟨as,v3,v4,v5,rfl,s4,hls4,hs4,hr4,hpa,hnr⟩
   obtain⟨g,hg,rfl⟩:=cf hi;have hil:i<(aW W).length:=(IG.mp hg).1;obtain⟨gk,gw⟩:=w1 g (Jc hg);obtain⟨q1,q2,q3,q4,q5⟩:=Bj P i;have qn:=yC hg;have lpa:=IU hpa;have isin:∀ (HH:Hp)(ks:List Int)(x:Int),HH sn=some (.dK (mq ks))->c3 HH sn (.int x) (da (mq ks) (Sum.inl x:ca)):=fun HH ks x h=>c3.k (k:=Sum.inl x) h;refine⟨_,rfl,_,rfl,sn,_,rfl,isin HH _ g hs4,_,rfl,?_⟩;rw[uR]
   by_cases hq:g∈(qR W i).1
   ·rw[ID hq]
    have e:qR W (i+1)=qR W i:=by rw[qn];unfold mh;rw[Iu hq]
    refine aw ⟨as,_,_,_,rfl,s4,hls4,?_,hr4,?_,hnr⟩
    ·rw[e];exact hs4
    ·rw[e];exact hpa
   ·rw[IE hq]
    have R:=P.ring gk;have ol:=P.ord_le gk
    have e:qR W (i+1)=((qR W i).1++cV (wr W) W.length g,(qR W i).2++[cV (wr W) W.length g]):=by rw[qn];unfold mh;rw[Ir hq]
    unfold cV at e;have ap:=qW R q3 hq;generalize r9 (wr W) W.length g=M at R ol e ap;generalize qR W i=Q0 at hs4 hpa q1 q2 q3 q4 q5 hq e ap lpa;refine bc ⟨nil0,fun l hl=>?_⟩;have sC:=ak (o:=.lst []) hl;have hl5:upd HH l (.lst []) l=some (.lst ((bd (wr W) g 0).map V.int)):=ac;have hs5:=sC _ _ hs4
    have llr:l≠lr:=fun z=>by rw[z,hr4]at hl;cases hl
    have lls:l≠sn:=fun z=>by rw[z,hs4]at hl;cases hl
    generalize upd HH l (.lst [])=H5 at sC hl5 hs5 ⊢;refine⟨_,rfl,?_⟩;refine⟨fun n σ HK=>∃ j,n=M-j/\j<=M/\σ=[some (.ref w),some (.ref sn),some (.ref lr),some (.int g),some (.ref l),some (.int (aS (wr W) j g))]/\HK sn=some (.dK (mq (Q0.1++bd (wr W) g j)))/\HK l=some (.lst ((bd (wr W) g j).map V.int))/\(∀ b o,H5 b=some o->b≠sn->b≠l->HK b=some o),⟨_,0,rfl,Jg _,rfl,(by rw[show bd (wr W) g 0=[] from rfl,Kb];exact hs5),hl5,fun b o z _ _=>z⟩,?_⟩;rintro n σ HK ⟨j,rfl,jM,rfl,hs6,hl6,kk⟩;refine⟨_,rfl,_,rfl,sn,_,rfl,isin HK _ _ hs6,_,rfl,?_⟩;rw[uR]
    by_cases hjM:j=M
    ·have inn:aS (wr W) j g∈Q0.1++bd (wr W) g j:=by
      rw[hjM,R.2.1];exact IN.mpr (.inr (fL.mpr ⟨0,R.1,rfl⟩))
     rw[ID inn];rw[hjM]at hs6 hl6;have hr6:=kk _ _ (sC _ _ hr4) (IJ snlr) (IJ llr);refine aw ⟨_,rfl,.inl ⟨rfl,_,bx.of hr6⟩,_,rfl,lr,_,_,rfl,rfl,hr6,by rw[Iq];exact aQ (by omega),?_⟩
     have up:∀ b o,HK b=some o->b≠lr->upd HK lr (.lst (as.map V.ref++[V.ref l])) b=some o:=fun b o z nb=>by rw[af nb];exact z
     have l0:H l=none:=s4.free hl;have lsl:ls≠l:=ah hls4 hl;refine⟨as++[l],_,_,_,rfl,fun b o z=>up b o (kk b o ((s4.trans sC) b o z) (ah z hsn) (ah z l0)) (ah z lr0),up _ _ (kk _ _ (sC _ _ hls4) lss lsl) lsr,?_,by rw[ac,IQ];rfl,?_,fun z=>?_⟩
     ·rw[e];exact up _ _ hs6 snlr
     ·rw[e]
      exact bJ (Wz.Paired.mapP' hpa fun a q ha z=>up a _ (kk a _ (sC _ _ z) (bQ z hs4 (by intro q;cases q)) (ah z hl)) fun q=>hnr (by rw[<-q];exact ha)) (.cons (up _ _ hl6 llr) .nil)
     ·rcases IN.mp z with z | z
      ·exact hnr z
      ·exact llr (IF.mp z).symm
    ·have jl:j<M:=by omega
     have nd:=kS P.inj R.2.2
     have nin:aS (wr W) j g∉Q0.1++bd (wr W) g j:=fun z=>by
      rcases IN.mp z with z | z
      ·exact ap _ (fL.mpr ⟨j,jl,rfl⟩) z
      ·obtain⟨j2,hj2,ej⟩:=fL.mp z
       have e1:(bd (wr W) g M)[j]? = some (aS (wr W) j g):=by unfold bd;rw[Ji,JT jl];rfl
       have e2:(bd (wr W) g M)[j2]? = some (aS (wr W) j g):=by unfold bd;rw[Ji,JT (by omega),ej];rfl
       have:=(List.getElem?_inj (by rw[jI];exact jl) nd).mp (e1.trans e2.symm);omega
     rw[IE nin];have ik:aS (wr W) j g∈av W:=jF P.cl gk j;refine bc ⟨fun σ' H'=>σ'=[some (.ref w),some (.ref sn),some (.ref lr),some (.int g),some (.ref l),some (.int (aS (wr W) (j+1) g))]/\H' sn=some (.dK (mq (Q0.1++bd (wr W) g (j+1))))/\H' l=some (.lst ((bd (wr W) g (j+1)).map V.int))/\(∀ b o,H5 b=some o->b≠sn->b≠l->H' b=some o),fun σ' H' ⟨a1,a2,a3,a4⟩=>⟨M-(j+1),by omega,j+1,rfl,by omega,a1,a2,a3,a4⟩,?_⟩
     have lenQ:(Q0.1++bd (wr W) g j).length<=200:=by rw[IK,jI];omega
     refine⟨_,rfl,_,rfl,sn,_,rfl,kD.k (k:=Sum.inl (aS (wr W) j g)) (v:=V.bl true) hs6 (by unfold mq;rw[Iq];exact Kd lenQ (by decide)),?_⟩;rw[yA,show iN (Q0.1++bd (wr W) g j) (aS (wr W) j g)=Q0.1++bd (wr W) g (j+1) by unfold iN;rw[Ir nin,kR,List.append_assoc]]
     have hl7:upd HK sn (.dK (mq (Q0.1++bd (wr W) g (j+1)))) l=some (.lst ((bd (wr W) g j).map V.int)):=by rw[af lls];exact hl6
     refine⟨_,rfl,.inl ⟨rfl,_,bx.of hl7⟩,_,rfl,l,_,_,rfl,rfl,hl7,by rw[Iq,jI];exact aQ (by omega),?_⟩;have wl:w≠l:=ah (s4 _ _ hw) hl;have ws:w≠sn:=ah hw hsn
     have hw8:upd (upd HK sn (.dK (mq (Q0.1++bd (wr W) g (j+1))))) l (.lst ((bd (wr W) g j).map V.int++[V.int (aS (wr W) j g)])) w=some (.dK (dk W)):=by rw[af wl,af ws];exact kk _ _ (sC _ _ (s4 _ _ hw)) ws wl
     refine⟨_,rfl,_,rfl,w,_,rfl,(by have:=c3.k (k:=Sum.inl (aS (wr W) j g)) hw8;rw[db,gu ik]at this;exact this),?_⟩;refine⟨rfl,by rw[af (IJ lls),ac],by rw[ac,kR,IQ];rfl,fun b o z n1 n2=>by rw[af n2,af n1];exact kk b o z n1 n2⟩
  ·rintro σ HH ⟨as,v3,v4,v5,rfl,s4,hls4,hs4,hr4,hpa,hnr⟩
   rw[xK W (by rw[Iq];exact Ix _)]at hpa;exact⟨_,rfl,k lr HH lr0 s4 ⟨as,hr4,hpa⟩⟩
theorem vV (F:dt K "_law_more" "_law_more" ju f fd)(iR:bb P w K mg base "_law_after" 2 ["_law_worn","_law_met","_law_deed_here"] yF) : aR P w K mg base c0 3 f fd ["_law_state","_law_deeds_here"] BC:=by
 refine F.ok eU (fun vs H Q E h=>?_) (fun cdv A outer s H vs Q E hr h=>?_)
 ·obtain⟨t,ld,w,m,ls,H0,es,ds,L,rfl,_⟩:=h
  rfl
 ·obtain⟨t,ld,w,m,ls,H0,es,ds,L,rfl,ht,M,dl,nl,dn,hL,nm,len,k⟩:=h
  have hu:=eO hr
  refine⟨_,ae (xJ (pv 0) (uy rfl (du (oC 2 eU.nd) (du (oC 3 eU.nd) (du (oC 4 eU.nd) pk))))) (
   ae (gK Jy rfl (cR (pv 1)) (oC 5 eU.nd) (ae (aN (ba iR hr.m rfl (zS (pv 2) (pv 3) (pv 5)))) (
   ag (aN (eR Jd Ja Jb bK (pv 4) (eE (pv 5))))))) (
   ag (aq (pv 0)))),?_⟩
  refine⟨_,rfl,t,_,rfl,c7.of ht,rfl,_,_,rfl,_,_,rfl,_,_,rfl,rfl,?_⟩;obtain⟨qs,hq,hqp⟩:=dl;have hql:=IU hqp;have pre:=uz dn nm
  have tk:∀ i,(es++ds).take (es.length+i)=es++ds.take i:=fun i=>by rw[List.take_append,JK (by omega),Nat.add_sub_cancel_left]
  rw[IK]at len
  refine⟨_,rfl,ld,rfl,⟨_,bx.of hq⟩,cp (K:=K) (a:=ld) (xs:=qs.map V.ref) (fun i σ HH=>∃ v:Option V,σ=[some (.ref t),some (.ref ld),some (.ref w),some (.ref m),some (.ref ls),v]/\o7 H0 HH w m ls (bf (es++ds.take i)) (fH (es++ds.take i))/\(∀ b o,H b=some o->b≠w->b≠m->b≠ls->HH b=some o))
   ⟨none,rfl,by simpa using M,fun b o e _ _ _=>e⟩ (fun i σ HH _ ⟨_,_,_,kp⟩=>bx.of (kp _ _ hq (bQ hq M.hw (by intro z;cases z)) (bQ hq M.hm (by intro z;cases z)) nl)) ?_ ?_⟩
  ·rintro i y σ HH hi ⟨v,rfl,M1,kp⟩
   obtain⟨b,hb,rfl⟩:=cf hi;obtain⟨d,hd,hT0⟩:=bY hqp hb;have hil:i<ds.length:=(IG.mp hd).1;obtain⟨xs,ex⟩:=dM d;obtain⟨as0,hl0,_⟩:=M.hs
   have hT:HH b=some (cj d):=by
    rw[ex]at hT0 ⊢;exact kp _ _ hT0 (bQ hT0 M.hw (by intro z;cases z)) (bQ hT0 M.hm (by intro z;cases z)) (bQ hT0 hl0 (by intro z;cases z))
   have hj:aE (bf (es++ds.take i)) d=.done:=by
    have:=dn (es.length+i) d (by rw[List.getElem?_append_right (by omega),Nat.add_sub_cancel_left];exact hd);rw[tk]at this;exact this
   have P:=pre (es.length+i);rw[tk]at P
   have tn:es++ds.take (i+1)=(es++ds.take i)++[d]:=by rw[Jr,hd,Js,List.append_assoc]
   have lno:=uh P.good P.of;have pm:=P.ml;have pf:=JO vq (es++ds.take i);rw[IK,Jm]at pf;obtain⟨as,hl,hp⟩:=id M1.hs;have hal:=IU hp;rw[xW,IK,Jm]at hal;refine⟨_,rfl,_,rfl,_,rfl,w,m,b,(bf (es++ds.take i)).worn,fH (es++ds.take i),d,rfl,M1.hw,M1.hm,hT,by omega,by omega,(vt P.al d).trans hj,fun H3 h1 h2 k3=>?_⟩;obtain⟨M4,hl1⟩:=M1.done hj h1 h2 k3 hl hp hT;rw[qy hj,qx hj,<-tn]at M4;refine⟨_,rfl,.inl ⟨rfl,_,bx.of hl1⟩,_,rfl,ls,_,_,rfl,rfl,hl1,by rw[Iq];exact aQ (by omega),?_⟩;exact⟨_,rfl,M4,fun y o e n1 n2 n3=>by rw[af n3];exact k3 y o (kp y o e n1 n2 n3) n1 n2⟩
  ·rintro σ HH ⟨v,rfl,M1,kp⟩
   rw[Iq,hql,Jp]at M1;exact⟨_,rfl,k HH M1 kp⟩
theorem kO (F:dt K "_law_deed_answer" "_law_deed_answer" dD f fd)(mr:bb P w K mg base "_law_due" 2 ["_law_worn","_law_met","_law_deed_here"] Dw)(kz:bb P w K mg base "_law_more" 3 ["_law_state","_law_deeds_here"] BC) : aR P w K mg base c0 4 f fd ["_law_state","_law_deed_here"] FX:=by
 refine F.ok fP (fun vs H Q E h=>?_) (fun cdv A outer s H vs Q E hr h=>?_)
 ·obtain⟨t,td,w,m,ls,H0,es,d,L,rfl,_⟩:=h
  rfl
 ·obtain⟨t,td,w,m,ls,H0,es,d,L,rfl,ht,M,htd,dn,hL,nm,hl,k⟩:=h
  refine⟨_,ae (bD 2 fP.nd (ba mr hr.m rfl (zS (aT aK (pv 0) (aj) (fun _ _=>rfl)) (aT aK (pv 0) (aj) (fun _ _=>rfl)) (pv 1)))) (
   ae (aO (az ji (aT aK (pv 2) (aj) (fun _ _=>rfl)) (am) (aG _)) (ag (aq (aH qO (am) (aT aK (pv 2) (aj) (fun _ _=>rfl))))) (ax)) (
   ae (aN (ba kz hr.m rfl (jN (pv 0) (dz (eE (pv 1)))))) (
   ag (aq (am))))),?_⟩
  have at0:x6 [V.ref w,.ref m,.ref ls] 0=some (.ref w):=cz (j:=0) rfl;have at1:x6 [V.ref w,.ref m,.ref ls] 1=some (.ref m):=cz (j:=1) rfl;refine⟨_,rfl,t,_,_,_,rfl,rfl,c7.of ht,at0,_,rfl,t,_,_,_,rfl,rfl,c7.of ht,at1,_,rfl,w,m,td,_,_,d,rfl,M.hw,M.hm,htd,fun r H1 hr1 s1 h1=>?_⟩;have o0:x6 (CM (bF (bf es).worn (oR (fH es)) d)) 0=some (V.str (zQ (bF (bf es).worn (oR (fH es)) d))):=cz (j:=0) (GV _);refine⟨_,rfl,r,_,_,_,rfl,rfl,c7.of h1,o0,rfl,_,rfl,?_⟩;rw[zR]
  have pr:DR L es:=by
   have:=uz dn (fun x hx=>nm x (List.mem_append_left _ hx)) es.length
   rwa [Jp]at this
  rw[vt pr.al]at o0 h1 ⊢
  by_cases hj:aE (bf es) d=.done
  ·rw[ID hj]
   have ne:cH es d=es++[d]:=by unfold cH;rw[Iu hj]
   refine aw ⟨_,rfl,_,rfl,(show 1<=sizeLine by decide),fun l1 hl1=>?_⟩;have s2:=ak (o:=.lst [V.ref td]) hl1;have h2:upd H1 l1 (.lst [V.ref td]) l1=some (.lst [V.ref td]):=ac;have s02:=s1.trans s2;have l10:=s1.free hl1;generalize upd H1 l1 (.lst [V.ref td])=H2 at s2 h2 s02 ⊢
   have lls:l1≠ls:=by
    obtain⟨as,hs,_⟩:=M.hs
    exact fun z=>by rw[z,hs]at l10;cases l10
   refine⟨t,l1,w,m,ls,H0,es,[d],L,rfl,s02 _ _ ht,M.on s02,⟨[td],h2,.cons (s02 _ _ htd) .nil⟩,lls,lD dn hj,hL,nm,by rw[IK,JY];omega,fun H3 M3 k3=>?_⟩;have:=k H3 (by rw[ne];exact M3) (fun b o e n1 n2 n3=>k3 b o (s02 b o e) n1 n2 n3);unfold zc at this;rw[Iu hj]at this;exact this
  ·rw[IE hj]
   have ne:cH es d=es:=by unfold cH;rw[Ir hj]
   have ll:(Str.ofString "no: ").length+(zQ (aE (bf es) d)).length<=sizeLine:=by
    cases aE (bf es) d with
    | noguest g=>exact (by decide +kernel:(Str.ofString "no: ").length+(zQ (.noguest 0)).length<=sizeLine)
    | _=>decide +kernel
   refine bc ⟨_,rfl,r,_,_,_,rfl,rfl,c7.of h1,o0,_,_,rfl,rfl,ll,?_⟩;have:=k H1 (by rw[ne];exact M.on s1) (fun b o e _ _ _=>s1 b o e);unfold zc at this;rw[Ir hj]at this;exact this
theorem lS (F:dt K "_law_rings_text" "_law_rings_text" cZ f fd)(iV:bb P w K mg base "_law_rings" 3 ["_law_worn"] wx) : aR P w K mg base c0 4 f fd ["_law_worn"] oJ:=by
 refine F.ok gA (fun vs H Q E h=>?_) (fun cdv A outer s H vs Q E hr h=>?_)
 ·obtain⟨w,W,rfl,_⟩:=h
  rfl
 ·obtain⟨w,W,rfl,hw,wl,pw,sm,k⟩:=h
  refine⟨_,ae (bD 1 gA.nd (ba iV hr.m rfl (eE (pv 0)))) (
   ae (aO (fJ (Bg (pv 1) (fun _=>rfl))) (ag (aq (am))) (ax)) (
   ag (aq (lT K (am) (fm (so:=ai cZ) (N:=hJ) (N':=["_law_ring"]) (src:=[none]) rfl rfl B8 rfl (cR (pv 1)) (fun cl C s2 H2 ex=>⟨oC 0 (show (["_law_ring"]:List Str).Nodup by decide +kernel),fo,lT K (am) (fm (so:=_) (N:=["_law_ring"]) (N':=["_law_guest_here"]) (src:=[none]) rfl rfl Fu rfl (wf K (pv 0)) (fun cl C s2 H2 ex=>⟨oC 0 (show (["_law_guest_here"]:List Str).Nodup by decide +kernel),fo,dH gW (by rfl) T.str JC (eE (pv 0))⟩))⟩)))))),?_⟩
  refine⟨_,rfl,w,W,rfl,hw,wl,pw,fun l H1 hl s1 h1=>?_⟩;obtain⟨rl,rsz⟩:=wm pw wl sm;obtain⟨as,ha,hp⟩:=id h1;have al:=IU hp;refine⟨_,rfl,_,.inl ⟨_,bx.of ha,rfl⟩,?_⟩
  by_cases z:cu W=[]
  ·have a0:as=[]:=List.length_eq_zero_iff.mp (by rw[al,z];rfl)
   subst a0;have:=k H1 s1;unfold iw at this;rw[Iu z]at this;exact bc this
  ·have a0:∃ a0 at1,as=a0::at1:=by
    cases as with
    | nil=>exact absurd (List.length_eq_zero_iff.mp al.symm) z
    | cons a0 at1=>exact⟨_,_,rfl⟩
   obtain⟨a0,at1,rfl⟩:=a0;refine aw ⟨rfl,_,rfl,l,rfl,⟨_,bx.of ha⟩,fun q2 hq2=>qV (K:=K) hq2 h1 rl rsz fun H2 s2 h2=>?_⟩;refine⟨_,q2,(cu W).map lX,rfl,rfl,bx.of h2,ti rl rsz,?_⟩;have:=k H2 (s1.trans s2);unfold iw at this;rw[Ir z]at this;exact this
theorem jW (F:dt K "_law_wears_answer" "_law_wears_answer" dq f fd) : aR P w K mg base c0 1 f fd ["_law_worn","_law_guest_here"] wC:=by
 refine F.ok jX (fun vs H Q E h=>?_) (fun cdv A outer s H vs Q E hr h=>?_)
 ·obtain⟨w,W,g,rfl,_⟩:=h
  rfl
 ·obtain⟨w,W,g,rfl,hw,sm,k⟩:=h
  have hu:=eO hr
  refine⟨_,ae (aO (ed (qQ hu (pv 1) (pv 0))) (ag (aq (dH gW (by rfl) T.str JC (eE (iq hu (pv 0) (pv 1) (fun _ _=>rfl)))))) (ax)) (
   ag (aq (am))),?_⟩
  refine⟨_,rfl,_,rfl,w,_,rfl,c3.k (k:=Sum.inl g) hw,_,rfl,?_⟩;rw[db];unfold rB at k
  cases e:look W g with
  | none =>
   rw[e]at k;exact aw k
  | some m =>
   rw[e]at k
   have hv:da (dk W) (Sum.inl g:ca)=some (.int m):=by rw[db,e];rfl
   have hg:c3 H w (.int g) (some (.int m)):=hv▸c3.k (k:=Sum.inl g) hw;exact bc ⟨_,rfl,_,rfl,⟨w,.int m,rfl,hg,.inr ⟨m,rfl,sm m e,k⟩⟩⟩
theorem vW (F:dt K "_law_said" "_law_said" jv f fd)(M_Evening_say:aM P w K mg base c0 ze "say" 10 ["self","line"] (oK c ck ze)) : aR P w K mg base c0 11 f fd ["_law_evening","_law_line","_law_due_here"] (jr c ck ze):=by
 refine F.ok oH (fun vs H Q E h=>?_) (fun cdv A outer s H vs Q E hr h=>?_)
 ·obtain⟨e,z,r,rfl,_⟩:=h
  rfl
 ·obtain⟨e,z,r,rfl,k⟩:=h
  refine⟨_,ae (bD 3 oH.nd (cU M_Evening_say (pv 0) UO.e.cl hr.m c4 (eE (pv 1)))) (
   ag (aq ((EJ (cr Am (by rfl) T.isinstance PyProof.Rows.boot_isinstance (ar (pv 3) (ar (CO (v:=.ty "str") (by rfl) T.str JC rfl) aD))) (EM (ux bT (pv 3) (pv 2) (aG _))))))),?_⟩
  have ob:∃ (dx:Addr)(fs:List (Str×V)),H e=some (.ins ze dx fs)/\fs.lookup (Str.ofString "say")=none:=by
   rcases k with ⟨e',D0,D,B,st,z',q,hv,I,_⟩ | ⟨e',D0,D,B,st,z',hv,I,_⟩<;>(cases hv;exact⟨_,_,I.ev.ob,vi (by decide +kernel)⟩)
  obtain⟨dx,fs,h1,h2⟩:=ob;refine⟨_,rfl,e,dx,fs,rfl,h1,h2,_,rfl,?_⟩;refine k.imp fun v H1 q=>?_;obtain⟨y,rfl,q⟩:=q;refine⟨_,rfl,_,_,_,true,rfl,lx.str _,rfl,_,rfl,bc ⟨_,rfl,_,rfl,rfl,?_⟩⟩;rw[show decide (V.str y=V.str r)=decide (y=r) from decide_eq_decide.mpr ⟨V.str.inj,J3 _⟩];exact q
theorem nh (F:dt K "_law_none_line" "_law_none_line" eC f fd) : aR P w K mg base c0 1 f fd ["_law_cell"] wy:=by
 refine F.ok aY (fun vs H Q E h=>?_) (fun cdv A outer s H vs Q E hr h=>?_)
 ·obtain⟨c,rfl,_⟩:=h
  rfl
 ·obtain⟨c,rfl,k⟩:=h
  refine⟨_,by with_reducible exact Df.h (by with_unfolding_all exact CZ 1 aY.nd (aL (aL (aL (aL (aL (aL (aL (aL (aL (jn)))))))))) (
   Bk (aN (eR Jd Ja Jb bK (pv 1) (eE (am)))) (
   iu 1 aY.nd (aL (aL (aL (aL (aL (aL (aL (aL (jn))))))))) (pv 1) (
   Bk (aN (eR Jd Ja Jb bK (pv 1) (eE (am)))) (
   iu 1 aY.nd (aL (aL (aL (aL (aL (aL (jn))))))) (pv 1) (
   iu 1 aY.nd (aL (aL (aL (jn)))) (pv 1) (
   iu 1 aY.nd (aL (aL (jn))) (pv 1) (
   iu 1 aY.nd (aL (aL (aL (aL (aL (aL (jn))))))) (pv 1) (
   iu 1 aY.nd (aL (aL (aL (aL (aL (jn)))))) (pv 1) (
   iu 1 aY.nd (aL (aL (aL (aL (aL (jn)))))) (pv 1) (
   CY (aq (aT pe (pv 1) (aH bG (pv 0) (cr cC (by rfl) T.len JU (eE (pv 1)))) (fun _ _=>rfl)))))))))))))),?_⟩
  refine⟨by show (9:Nat)<=sizeLine;decide,fun l0 f0=>?_⟩;have T:=ak (o:=.lst ((bR.take 9).map V.str)) f0
  show _
  refine⟨_,rfl,.inl ⟨rfl,_,bx.of ac⟩,l0,_,_,rfl,rfl,ac,by show (9:Nat)<sizeLine;decide,?_⟩;have T:=bz (o:=.lst ((bR.take 10).map V.str)) T f0;refine⟨_,rfl,by show (8:Nat)<=sizeLine;decide,fun a2 b2=>?_⟩;have S2:=ak (o:=.lst (((bR.drop 10).take 8).map V.str)) b2;refine⟨l0,a2,_,_,rfl,rfl,S2 _ _ ac,ac,by show (18:Nat)<=sizeLine;decide,fun l2 g2=>?_⟩;have f2:=(T.trans S2).free g2;have T:=(T.trans S2).trans (ak (o:=.lst ((bR.take 18).map V.str)) g2);refine⟨_,rfl,.inl ⟨rfl,_,bx.of ac⟩,l2,_,_,rfl,rfl,ac,by show (18:Nat)<sizeLine;decide,?_⟩;have T:=bz (o:=.lst ((bR.take 19).map V.str)) T f2;refine⟨_,rfl,by show (6:Nat)<=sizeLine;decide,fun a4 b4=>?_⟩;have S4:=ak (o:=.lst (((bR.drop 19).take 6).map V.str)) b4;refine⟨l2,a4,_,_,rfl,rfl,S4 _ _ ac,ac,by show (25:Nat)<=sizeLine;decide,fun l4 g4=>?_⟩;have f4:=(T.trans S4).free g4;have T:=(T.trans S4).trans (ak (o:=.lst ((bR.take 25).map V.str)) g4);refine⟨_,rfl,by show (3:Nat)<=sizeLine;decide,fun a5 b5=>?_⟩;have S5:=ak (o:=.lst (((bR.drop 25).take 3).map V.str)) b5;refine⟨l4,a5,_,_,rfl,rfl,S5 _ _ ac,ac,by show (28:Nat)<=sizeLine;decide,fun l5 g5=>?_⟩;have f5:=(T.trans S5).free g5;have T:=(T.trans S5).trans (ak (o:=.lst ((bR.take 28).map V.str)) g5);refine⟨_,rfl,by show (2:Nat)<=sizeLine;decide,fun a6 b6=>?_⟩;have S6:=ak (o:=.lst (((bR.drop 28).take 2).map V.str)) b6;refine⟨l5,a6,_,_,rfl,rfl,S6 _ _ ac,ac,by show (30:Nat)<=sizeLine;decide,fun l6 g6=>?_⟩;have f6:=(T.trans S6).free g6;have T:=(T.trans S6).trans (ak (o:=.lst ((bR.take 30).map V.str)) g6)
  refine⟨_,rfl,by show (6:Nat)<=sizeLine;decide,fun a7 b7=>?_⟩;have S7:=ak (o:=.lst (((bR.drop 30).take 6).map V.str)) b7;refine⟨l6,a7,_,_,rfl,rfl,S7 _ _ ac,ac,by show (36:Nat)<=sizeLine;decide,fun l7 g7=>?_⟩;have f7:=(T.trans S7).free g7;have T:=(T.trans S7).trans (ak (o:=.lst ((bR.take 36).map V.str)) g7);refine⟨_,rfl,by show (5:Nat)<=sizeLine;decide,fun a8 b8=>?_⟩;have S8:=ak (o:=.lst (((bR.drop 36).take 5).map V.str)) b8;refine⟨l7,a8,_,_,rfl,rfl,S8 _ _ ac,ac,by show (41:Nat)<=sizeLine;decide,fun l8 g8=>?_⟩;have f8:=(T.trans S8).free g8;have T:=(T.trans S8).trans (ak (o:=.lst ((bR.take 41).map V.str)) g8);refine⟨_,rfl,by show (5:Nat)<=sizeLine;decide,fun a9 b9=>?_⟩;have S9:=ak (o:=.lst (((bR.drop 41).take 5).map V.str)) b9;refine⟨l8,a9,_,_,rfl,rfl,S9 _ _ ac,ac,by show (46:Nat)<=sizeLine;decide,fun l9 g9=>?_⟩;have f9:=(T.trans S9).free g9;have T:=(T.trans S9).trans (ak (o:=.lst ((bR.take 46).map V.str)) g9);refine⟨_,rfl,_,rfl,_,rfl,l9,bR.map V.str,rfl,.inl (bx.of ac),c,46,rfl,rfl,by show (0:Int)<46;decide,?_⟩;have b1:=JB c (show (46:Int)≠0 by decide);have b2:=Jw c (show (0:Int)<46 by decide);obtain⟨j,hj⟩:∃ j:Nat,(j:Int)=c%46:=⟨(c%46).toNat,by omega⟩
  have hjl:j<bR.length:=by show j<46;omega
  refine⟨l9,bR.map V.str,c%46,V.str bR[j],rfl,rfl,bx.of ac,by rw[<-hj];exact cz (by rw[Ji,IM hjl];rfl),?_⟩;exact k _ _ (B6 (Ju.mp zM _ (List.getElem_mem _))) T
theorem ED (F:dt K "law" "law" uP f fd)(ME:Gu P w K mg base c ck ze)(bw:bb P w K mg base "_law_cell_at" 1 ["_law_script","_law_k"] (xR K))(cw:bb P w K mg base "_law_size" 1 ["_law_cell"] uN)(iT:bb P w K mg base "_law_deeds" 4 ["_law_script"] (wv K))(bL:bb P w K mg base "_law_said" 11 ["_law_evening","_law_line","_law_due_here"] (jr c ck ze))(cO:bb P w K mg base "_law_deed_answer" 4 ["_law_state","_law_deed_here"] FX)(bH:bb P w K mg base "_law_guest" 2 ["_law_k","_law_cell"] py)(c8:bb P w K mg base "_law_rings_text" 4 ["_law_worn"] oJ)(dy:bb P w K mg base "_law_wears_answer" 1 ["_law_worn","_law_guest_here"] wC)(eW:bb P w K mg base "_law_none_line" 1 ["_law_cell"] wy) : aR P w K mg base c0 12 f fd ["_law_script"] (yN K):=by
 refine F.ok fO (fun vs H Q E h=>?_) (fun cdv A outer s H vs Q E hr h=>?_)
 ·obtain⟨a,ns,rfl,_⟩:=h
  rfl
 ·obtain⟨a,ns,rfl,hS,hlen,k⟩:=h
  have hu:=eO hr
  have three:(3:Nat)<=sizeLine:=by decide
  have nil0:(0:Nat)<=sizeLine:=Jg _
  refine⟨_,ae (bD 1 fO.nd (vZ ME UO.e hr.m rfl)) (
   ae (bD 2 fO.nd (bZ (ar c5 (ar v6 (ar (dz aD) aD))))) (
   ae (bD 3 fO.nd (vZ ME UO.e hr.m rfl)) (
   ae (bD 4 fO.nd (bZ (ar c5 (ar v6 (ar (dz aD) aD))))) (
   ae (bD 5 fO.nd (ba bw hr.m rfl (jN (pv 0) (aj)))) (
   ae (bD 6 fO.nd (ba cw hr.m rfl (eE (ba bw hr.m rfl (jN (pv 0) (aj)))))) (
   ae (gK Jy rfl (CV (by rfl) T.enumerate (eE (ba iT hr.m rfl (eE (pv 0))))) (uy rfl (du (oC 7 fO.nd) (du (oC 8 fO.nd) pk))) (ae (bD 9 fO.nd (lT K (am) (aH xE (dz (eE (aT aK (pv 8) (aj) (fun _ _=>rfl)))) (fm (so:=ai uP) (N:=Dm) (N':=["_law_guest_here"]) (src:=[none]) rfl rfl B8 rfl (Bc (jj Bv (pv 8) (jQ (aj)) pq)) (fun cl C s2 H2 ex=>⟨oC 0 (show (["_law_guest_here"]:List Str).Nodup by decide +kernel),fo,dH gW (by rfl) T.str JC (eE (pv 0))⟩))))) (
   ae (aO (fJ (fK (ba bL hr.m rfl (zS (pv 1) (pv 9) (ba cO hr.m rfl (jN (pv 2) (pv 8))))))) (ag (aq (kr))) (ax)) (
   ae (aO (PW.pt (gL (az bT (aH bG (aH dQ (pv 7) (pv 6)) (aj)) (aj) (aG _)) (eG (fJ (fK (ba bL hr.m rfl (zS (pv 3) (pv 9) (ba cO hr.m rfl (jN (pv 4) (pv 8)))))))))) (ag (aq (kr))) (ax)) (
   ae (aO (az bT (aH bG (aH dQ (pv 7) (pv 6)) (aj)) (aj) (aG _)) (ae (bD 10 fO.nd (ba bH hr.m rfl (jN (aH bG (aH dQ (pv 7) (aH eD (pv 6) (aj))) (aj)) (pv 5)))) (
   ae (aO (fJ (fK (ba bL hr.m rfl (zS (pv 1) (am) (ba c8 hr.m rfl (eE (aT aK (pv 2) (aj) (fun _ _=>rfl)))))))) (ag (aq (kr))) (ax)) (
   ag (aO (fJ (fK (ba bL hr.m rfl (zS (pv 1) (aH qO (am) (dH gW (by rfl) T.str JC (eE (pv 10)))) (ba dy hr.m rfl (jN (aT aK (pv 2) (aj) (fun _ _=>rfl)) (pv 10))))))) (ag (aq (kr))) (ax))))) (ax)) (
   ag (aO (PW.pt (gL (az bT (aH bG (aH dQ (pv 7) (pv 6)) (aj)) (aj) (aG _)) (eG (fJ (fK (ba bL hr.m rfl (zS (pv 1) (ba eW hr.m rfl (eE (aH dQ (pv 7) (aH eD (pv 6) (aj))))) (am)))))))) (ag (aq (kr))) (ax)))))))) (
   ae (aO (PW.pt (yB (fJ (fK (ba bL hr.m rfl (zS (pv 1) (am) (am))))) (uC (fJ (fK (ba bL hr.m rfl (zS (pv 1) (am) (am)))))))) (ag (aq (kr))) (ax)) (
   ae (aO (fJ (fK (ba bL hr.m rfl (zS (pv 3) (am) (am))))) (ag (aq (kr))) (ax)) (
   ag (aq (ba bL hr.m rfl (zS (pv 3) (am) (ba c8 hr.m rfl (eE (aT aK (pv 4) (aj) (fun _ _=>rfl)))))))))))))))),?_⟩
  intro e1 dx1 ne1 ndx1 nex1;refine⟨e1,dx1,rfl,ac,fun A1 D1 B1 G1 X1 kp1 fr1 FG=>⟨rfl,?_⟩⟩
  have s0:ay H (upd (upd H dx1 (.own e1)) e1 (.ins ze dx1 [])):=fun b o e=>by rw[af (ah e ne1),af (ah e ndx1)];exact e
  have s1:ay H G1:=fun b o e=>kp1 b o (s0 b o e) (ah e ne1);clear kp1 fr1 FG s0;intro w1 hw1 m1 hm1;refine⟨nil0,fun l1 hl1=>⟨three,fun t1 ht1=>?_⟩⟩;obtain⟨s2,M1,f1⟩:=sV hw1 hm1 hl1 ht1;have T1:upd (upd (upd (upd G1 w1 (.dK [])) m1 (.dT [])) l1 (.lst [])) t1 (.tup [.ref w1,.ref m1,.ref l1]) t1=some (.tup [.ref w1,.ref m1,.ref l1]):=ac;generalize upd (upd (upd (upd G1 w1 (.dK [])) m1 (.dT [])) l1 (.lst [])) t1 (.tup [.ref w1,.ref m1,.ref l1])=G2 at s2 M1 T1 ⊢;have Y1:jC c ck ze (bv 40 (eZ ns 1)) G2 ⟨e1,t1,A1,D1,w1,m1,l1⟩ B1 []:=jC.new X1 s2 T1 M1 f1;have s02:=s1.trans s2;clear X1 s2 T1 M1 f1 hw1 hm1 hl1 ht1;intro e2 dx2 ne2 ndx2 nex2;refine⟨e2,dx2,rfl,ac,fun A2 D2 B2 G3 X2 kp2 fr2 Ff=>⟨rfl,?_⟩⟩
  have s0:ay G2 (upd (upd G2 dx2 (.own e2)) e2 (.ins ze dx2 [])):=fun b o e=>by rw[af (ah e ne2),af (ah e ndx2)];exact e
  have s3:ay G2 G3:=fun b o e=>kp2 b o (s0 b o e) (ah e ne2);have f2:∀ b∈B2.fp,G2 b=none:=fun b hb=>s0.free (fr2 b hb);clear kp2 fr2 Ff s0;intro w2 hw2 m2 hm2;refine⟨nil0,fun l2 hl2=>⟨three,fun t2 ht2=>?_⟩⟩;obtain⟨s4,M2,f3⟩:=sV hw2 hm2 hl2 ht2;have T2:upd (upd (upd (upd G3 w2 (.dK [])) m2 (.dT [])) l2 (.lst [])) t2 (.tup [.ref w2,.ref m2,.ref l2]) t2=some (.tup [.ref w2,.ref m2,.ref l2]):=ac;generalize upd (upd (upd (upd G3 w2 (.dK [])) m2 (.dT [])) l2 (.lst [])) t2 (.tup [.ref w2,.ref m2,.ref l2])=G4 at s4 M2 T2 ⊢;have Y2:jC c ck ze (bv 40 (eZ ns 1)) G4 ⟨e2,t2,A2,D2,w2,m2,l2⟩ B2 []:=jC.new X2 s4 T2 M2 f3;have s24:=s3.trans s4
  have f4:∀ b∈wJ B2 w2 m2 l2,G2 b=none:=fun b hb=>by
   rcases dP.mp hb with h | h
   ·exact s3.free (f3 b h)
   ·exact f2 b h
  have hS4:=(s02.trans s24).seq hS;clear X2 s3 s4 T2 M2 f2 f3 hw2 hm2 hl2 ht2;refine⟨_,rfl,a,ns,1,rfl,hS4,by decide,_,rfl,a,ns,2,rfl,hS4,by decide,_,rfl,?_⟩;generalize hcn:eZ ns 1=cn at Y1 Y2;have bn0:0<=d4 (eZ ns 2):=BZ _;generalize d4 (eZ ns 2)=bn at bn0;refine⟨_,rfl,a,ns,rfl,hS4,fun lq G5 ds hlq s5 hds nmD hdl hex=>?_⟩;rw[hcn]at nmD;obtain⟨qs,hq5,hqp⟩:=id hds;have hql:=IU hqp;have W5:=tL.new Y1 Y2 s24 f4 s5 hlq hq5 hqp;clear Y1 Y2 s24 f4 hds s5 hlq hq5 hqp s02 s1 nex1 ne1 ndx1 nex2 ne2 ndx2
  have L40:(bv 40 cn).length<=40:=by unfold bv;rw[Iq,Kg];decide
  have smL:∀ g∈bv 40 cn,aJ g:=fun g hg=>vO hg
  refine⟨lq,rfl,⟨_,bx.of W5.hq⟩,AA (K:=K) (a:=lq) (xs:=qs.map V.ref) (fun i σ HH=>∃ (B B':HA)(es es':List aB)(v7 v8 v9 v10:Option V),σ=[some (.ref a),some (.ref e1),some (.ref t1),some (.ref e2),some (.ref t2),some (.int cn),some (.int bn),v7,v8,v9,v10]/\tL c ck ze (bv 40 cn) HH ⟨e1,t1,A1,D1,w1,m1,l1⟩ ⟨e2,t2,A2,D2,w2,m2,l2⟩ B es B' es' lq qs ds/\es.length<=i/\es'.length<=i)
   ⟨B1,B2,[],[],none,none,none,none,rfl,W5,Ix _,Ix _⟩ (fun i σ HH _ ⟨_,_,_,_,_,_,_,_,_,W,_⟩=>bx.of W.hq) ?_ ?_⟩
  ·rintro i y σ HH T hi ⟨B,B',es,es',v7,v8,v9,v10,rfl,W,le1,le2⟩ hTn
   obtain⟨t,ht,rfl⟩:=cf hi;have hil:i<qs.length:=(IG.mp ht).1;have hTT:upd HH T (.tup [.int (i:Int),.ref t]) T=some (.tup [.int (i:Int),.ref t]):=ac;have W:=W.mono (ak (o:=.tup [.int (i:Int),.ref t]) hTn);generalize upd HH T (.tup [.int (i:Int),.ref t])=HH at hTT W ⊢;obtain⟨d,hd,hT⟩:=bY W.hp ht;have nm:=nmD d (Jc hd);have sm:∀ g∈names d,aJ g:=fun g hg=>smL g (nm g hg);have gs:∀ g∈names d,uU g:=fun g hg=>zJ (nm g hg);refine⟨T,_,rfl,c7.of hTT,rfl,_,_,rfl,_,_,rfl,rfl,?_⟩
   have hT0:HH t=some (.tup (de d)):=by rw[<-il];exact hT
   have one1:(1:Nat)<=sizeLine:=by decide
   refine⟨rfl,_,rfl,t,_,_,_,rfl,rfl,c7.of hT0,cz (j:=0) rfl,one1,fun k1 hk1=>?_⟩;have s1:=ak (o:=.lst [V.str (word d)]) hk1;have h1:upd HH k1 (.lst [V.str (word d)]) k1=some (.lst ([word d].map V.str)):=ac;have hT1:=s1 _ _ hT0;generalize upd HH k1 (.lst [V.str (word d)])=HH1 at s1 h1 hT1 ⊢;refine⟨_,rfl,_,rfl,xy ⟨t,_,rfl,c7.of hT1,x9 d,fun q hq=>?_⟩⟩;have s2:=ak (o:=.tup (ij (de d) (some 1) none)) hq
   have h2:upd HH1 q (.tup (ij (de d) (some 1) none)) q=some (.tup ((names d).map V.int)):=by rw[ac,vc]
   have h12:=s2 _ _ h1;generalize upd HH1 q (.tup (ij (de d) (some 1) none))=HH2 at s2 h2 h12 ⊢
   have nl:(names d).length<=2:=by cases d<;>simp[names]
   refine⟨q,rfl,⟨_,c7.of h2⟩,fun q3 hq3=>?_⟩
   refine yf (K:=K) (a:=q) (xs:=(names d).map V.int) (fun j σ HJ=>∃ v:Option V,σ=[v]/\ay HH2 HJ/\HJ q3=some (.lst ((((names d).take j).map bS).map V.str)))
    ⟨none,rfl,ak hq3,ac⟩ (fun j σ HJ _ ⟨_,_,s2,_⟩=>c7.of (s2 _ _ h2)) ?_ ?_
   ·rintro j y σ HJ hj ⟨v,rfl,u1,hu⟩
    obtain⟨g,hg,rfl⟩:=cf hj;refine iJ ⟨_,rfl,.inr ⟨g,rfl,sm g (Jc hg),_,hu,by rw[Iq,Iq,Jm];exact aQ (by omega),?_⟩⟩;refine⟨_,rfl,bz u1 hq3,?_⟩;rw[ac,Jr,hg,Js,IQ,IQ];rfl
   rintro σ HJ ⟨vv,rfl,u1,hu⟩;rw[Iq,Jp]at hu;refine⟨k1,q3,_,_,rfl,rfl,u1 _ _ h12,hu,by rw[Iq,Iq,Iq];exact Nat.le_of_lt (aQ (by simp;omega)),fun l4 hl4=>?_⟩;refine⟨_,l4,jB d,rfl,rfl,bx.of (by rw[ac,<-IQ];rfl),BO sm,?_⟩;have W:=W.mono (((s1.trans s2).trans u1).trans (ak (o:=.lst ([word d].map V.str++((names d).map bS).map V.str)) hl4));generalize upd HJ l4 (.lst ([word d].map V.str++((names d).map bS).map V.str))=HH at W ⊢;clear hTT hT hT0 s1 h1 hT1 s2 h2 h12 u1 hu hl4
   have hTd:∀ {G:Hp},Paired (fun a x=>G a=some (cj x)) qs ds->G t=some (cj d):=fun hp=>by
    obtain⟨d',hd',h⟩:=bY hp ht;rw[hd]at hd';cases hd';exact h
   have nm2:∀ g∈names d,g∈bv 40 cn/\aJ g:=fun g hg=>⟨nm g hg,sm g hg⟩
   have ap:∀ {es:List aB},(∀ x∈es,∀ g∈names x,g∈bv 40 cn/\aJ g)->∀ x∈es++[d],∀ g∈names x,g∈bv 40 cn/\aJ g:=fun {es} h x hx=>by
    rcases IN.mp hx with hx | hx
    ·exact h x hx
    ·rw[IF.mp hx];exact nm2
   refine⟨_,rfl,_,rfl,_,rfl,_,rfl,t1,t,w1,m1,l1,(fun _=>none),es,d,bv 40 cn,rfl,W.x.tt,W.x.md,hTd W.hp,W.x.dn,IY L40 (by decide),ap W.x.nm,by omega,fun J1 M1 k1=>?_⟩;refine W.said L40 smL (by omega) nm gs M1 k1 fun Bn HH W=>⟨_,rfl,aw ?_⟩;have le1:(cH es d).length<=i+1:=IY (sW es d) (by omega);refine⟨_,rfl,_,rfl,_,_,rfl,rfl,_,_,rfl,rfl,by decide,rfl,_,rfl,?_⟩;refine br (P:=fun HH=>∃ (B B':HA)(es es':List aB),tL c ck ze (bv 40 cn) HH ⟨e1,t1,A1,D1,w1,m1,l1⟩ ⟨e2,t2,A2,D2,w2,m2,l2⟩ B es B' es' lq qs ds/\es.length<=i+1/\es'.length<=i+1) ⟨_,_,_,_,W,le1,by omega⟩ (fun HH hW=>?_) (fun hc rest=>?_)
   ·clear W le1 le2
    obtain⟨B,B',es,es',W,le1,le2⟩:=hW;refine⟨_,rfl,_,rfl,_,_,rfl,rfl,_,_,rfl,rfl,by decide,rfl,_,rfl,?_⟩;have at0:∀ {x y z:Addr},x6 [V.ref x,.ref y,.ref z] 0=some (.ref x):=fun {x y z}=>cz (j:=0) rfl;have hP:∃ (B B':HA)(es es':List aB),tL c ck ze (bv 40 cn) HH ⟨e1,t1,A1,D1,w1,m1,l1⟩ ⟨e2,t2,A2,D2,w2,m2,l2⟩ B es B' es' lq qs ds/\es.length<=i+1/\es'.length<=i+1:=⟨_,_,_,_,W,le1,le2⟩;clear W le1 le2;revert hP;clear es es' B B';revert v10;revert HH;refine HS (fun HH v' hW=>?_) (fun hc rest HH v' hW=>?_)
    ·obtain⟨B,B',es,es',W,le1,le2⟩:=hW
     refine⟨_,rfl,_,rfl,_,_,rfl,rfl,_,_,rfl,rfl,by decide,rfl,_,rfl,?_⟩;refine br (P:=fun HH=>∃ (B B':HA)(es es':List aB),tL c ck ze (bv 40 cn) HH ⟨e1,t1,A1,D1,w1,m1,l1⟩ ⟨e2,t2,A2,D2,w2,m2,l2⟩ B es B' es' lq qs ds/\es.length<=i+1/\es'.length<=i+1) ⟨_,_,_,_,W,le1,le2⟩ (fun HH hW=>?_) (fun hc rest=>?_)
     ·clear W le1 le2
      obtain⟨B,B',es,es',W,le1,le2⟩:=hW;exact⟨B,B',es,es',_,_,_,_,rfl,W,le1,le2⟩
     ·refine⟨_,rfl,_,rfl,_,rfl,_,_,rfl,rfl,⟨by decide,by decide⟩,_,_,rfl,rfl,_,rfl,fun z HH b s=>?_⟩
      have W:=W.mono s;exact Bu W.x L40 smL (by omega) b fun HH s=>⟨_,rfl,aw (rest HH ⟨_,_,_,_,W.mono s,le1,le2⟩)⟩
    ·obtain⟨B,B',es,es',W,le1,le2⟩:=hW
     have k0:=JB ((i:Int)+bn/5) (show (14:Int)≠0 by decide);have k9:=Jw ((i:Int)+bn/5) (show (0:Int)<14 by decide);refine⟨_,rfl,_,rfl,_,_,rfl,rfl,⟨by decide,by decide⟩,_,_,rfl,rfl,_,_,rfl,rfl,by decide,_,rfl,_,_,rfl,⟨k0,by omega⟩,?_⟩;have gg:=yj (((i:Int)+bn/5)%14) cn;generalize uW (((i:Int)+bn/5)%14) cn=g at gg;have sg:aJ g:=Ef gg;refine⟨_,rfl,_,rfl,t1,_,_,_,rfl,rfl,c7.of W.x.tt,at0,w1,_,rfl,W.x.md.hw,W.wl L40,jk W.x.pre.good,fun g hg=>smL g (W.x.pre.of.1 g hg),fun HH s=>?_⟩;have W:=W.mono s;refine qX W.x L40 smL (by omega) fun HH s=>⟨_,rfl,aw ?_⟩;have W:=W.mono s;refine⟨_,rfl,_,rfl,.inr ⟨g,rfl,sg,_,_,rfl,rfl,Cg gg,?_⟩⟩;refine⟨_,rfl,t1,_,_,_,rfl,rfl,c7.of W.x.tt,at0,_,rfl,w1,_,g,rfl,W.x.md.hw,fun m hm=>W.x.pre.good.sm g m hm,?_⟩;exact xM W.x L40 smL (by omega) gg sg fun HH s=>⟨_,rfl,aw (rest HH _ ⟨_,_,_,_,W.mono s,le1,le2⟩)⟩
   ·refine⟨_,rfl,_,rfl,_,rfl,_,rfl,t2,t,w2,m2,l2,(fun _=>none),es',d,bv 40 cn,rfl,W.y.tt,W.y.md,hTd W.hp,W.y.dn,IY L40 (by decide),ap W.y.nm,by omega,fun J2 M2 k2=>?_⟩
    exact W.swap.said L40 smL (by omega) nm gs M2 k2 fun Bm HH W2=>⟨_,rfl,aw (rest HH ⟨_,_,_,_,W2.swap,le1,IY (sW es' d) (by omega)⟩)⟩
  ·rintro σ HH ⟨B,B',es,es',v7,v8,v9,v10,rfl,W,le1,le2⟩
   rw[Iq]at le1 le2;have at0:∀ {x y z:Addr},x6 [V.ref x,.ref y,.ref z] 0=some (.ref x):=fun {x y z}=>cz (j:=0) rfl;refine⟨_,rfl,zX W.x L40 smL (by omega) fun HH s=>⟨_,rfl,aw ?_⟩⟩;have W:=W.mono s;refine⟨_,rfl,qY W.x L40 smL (by omega) fun HH s=>⟨_,rfl,aw ?_⟩⟩;have W:=W.mono s;refine⟨_,rfl,qY W.y L40 smL (by omega) fun HH s=>⟨_,rfl,aw ?_⟩⟩;have W:=W.mono s;refine⟨_,rfl,_,rfl,t2,_,_,_,rfl,rfl,c7.of W.y.tt,at0,w2,_,rfl,W.y.md.hw,W.swap.wl L40,jk W.y.pre.good,fun g hg=>smL g (W.y.pre.of.1 g hg),fun HH s=>?_⟩;have W:=W.mono s;refine qX W.y L40 smL (by omega) fun HH s=>?_;exact k HH
end
theorem all_mk2 {l:PySem.W.OpenLaw}{w:World}{K:PySem.W.Frag}{h:Heap}{mg:Str->Option Value}{fa:Addr}{C cW cA cM cS cT cN fN cq cX fX ck cb ze dl y0 y1 y2 y3 y4 y5 y6 t1 t2 s1 s2 s3 s4 s5 s6 s7 s8 s9 s10 s11 s12 s13 s14 s15 s16 n1:Addr}(X:K.In h)(G:h.Ns mainGlobals mg)(hfa:mg "law" = some (.ref fa))(aC:PySem.W.nsIn K mainGlobals "Hall" = some (some (.ref C)))(Et:PySem.W.nsIn K mainGlobals "WaltzError" = some (some (.ref cW)))(En:PySem.W.nsIn K mainGlobals "AlreadyIn" = some (some (.ref cA)))(Eo:PySem.W.nsIn K mainGlobals "Masked" = some (some (.ref cM)))(Er:PySem.W.nsIn K mainGlobals "Same" = some (some (.ref cS)))(Es:PySem.W.nsIn K mainGlobals "Met" = some (some (.ref cT)))(Ep:PySem.W.nsIn K mainGlobals "NoGuest" = some (some (.ref cN)))(b_cN:PySem.W.findIn K (.ref cN) "__init__" = some (some (.ref fN)))(pg:PySem.W.plainGet K C Str.empty=true)(hd:PySem.W.hasDictIn K C=true)(po:PySem.W.plainOver K C=true)(sa:PySem.W.findIn K (.ref C) "__setattr__" = some (some (.builtin "object.__setattr__")))(yr:PySem.W.findIn K (.ref C) "worn" = some none)(qw:PySem.W.findIn K (.ref C) "holders" = some none)(qv:PySem.W.findIn K (.ref C) "circles" = some none)(vN:PySem.W.findIn K (.ref C) "deeds" = some none)(D5:eY K cA)(D6:eY K cM)(D8:eY K cS)(D9:eY K cT)(D7:gI K cN fN=true)(g1:PySem.W.findIn K (.ref cN) "__getattribute__" = some (some (.builtin "BaseException.__getattribute__")))(g2:PySem.W.findIn K (.ref cN) "__getattr__" = some none)(g3:PySem.W.findIn K (.ref cN) "__setattr__" = some (some (.builtin "object.__setattr__")))(g4:PySem.W.findIn K (.ref cN) "guest" = some none)(g5:PySem.W.hasDictIn K cN=true)(g6:PySem.W.mroIn K cN (.type "BaseException")=some true)(g7:PySem.W.mroIn K cN (.type "object")=some true)(g8:((PySem.W.clsIn K cN).any fun cd=>gy cd.mro)=true)(tN:PySem.W.typeIn K (.ref fN)=some (.type "function"))(wS:PySem.W.specialIn K (.ref cW) "__getattribute__" = some (some (.builtin "type.__getattribute__")))(wR:PySem.W.readsIn K cW (.type "type")=true)(wI:PySem.W.findCls K (.ref cW) (.type "type") "__init__" = some (.val (.builtin "ValueError.__init__")))(x_aa:PySem.W.exmOne K (.ref cA) (.ref cA)=some true)(x_ma:PySem.W.exmOne K (.ref cM) (.ref cA)=some false)(x_mm:PySem.W.exmOne K (.ref cM) (.ref cM)=some true)(x_sa:PySem.W.exmOne K (.ref cS) (.ref cA)=some false)(x_sm:PySem.W.exmOne K (.ref cS) (.ref cM)=some false)(x_ss:PySem.W.exmOne K (.ref cS) (.ref cS)=some true)(x_ta:PySem.W.exmOne K (.ref cT) (.ref cA)=some false)(x_tm:PySem.W.exmOne K (.ref cT) (.ref cM)=some false)(x_ts:PySem.W.exmOne K (.ref cT) (.ref cS)=some false)(x_tt:PySem.W.exmOne K (.ref cT) (.ref cT)=some true)(x_na:PySem.W.exmOne K (.ref cN) (.ref cA)=some false)(x_nm:PySem.W.exmOne K (.ref cN) (.ref cM)=some false)(x_ns:PySem.W.exmOne K (.ref cN) (.ref cS)=some false)(x_nt:PySem.W.exmOne K (.ref cN) (.ref cT)=some false)(x_nn:PySem.W.exmOne K (.ref cN) (.ref cN)=some true)(mk:PySem.W.makesIn K C=true)(kc:PySem.W.keepIn K (.ref C)=true)(Ex:PySem.W.nsIn K mainGlobals "NoPlan" = some (some (.ref cq)))(Eu:PySem.W.nsIn K mainGlobals "NoText" = some (some (.ref cX)))(b_cX:PySem.W.findIn K (.ref cX) "__init__" = some (some (.ref fX)))(Ew:PySem.W.nsIn K mainGlobals "Keeper" = some (some (.ref ck)))(n_cb:PySem.W.nsIn K mainGlobals "FigureBook" = some (some (.ref cb)))(n_ze:PySem.W.nsIn K mainGlobals "Evening" = some (some (.ref ze)))(n_md:PySem.W.nsIn K mainGlobals "MOST_DIGITS" = some (some (.int 12 t1)))(n_dg:PySem.W.nsIn K mainGlobals "DIGITS" = some (some (.str "0123456789" t2)))(n_dz:PySem.W.nsIn K mainGlobals "LINE_SIZES" = some (some (.ref dl)))(dzo:K.lookup dl=some (L2.gObj w.params Wz.linesD [(s1,s2),(s3,s4),(s5,s6),(s7,s8),(s9,s10),(s11,s12),(s13,s14),(s15,s16)] n1))(dzs:(dl == sysModules)=false)(n_y0:PySem.W.nsIn K mainGlobals "NotNew" = some (some (.ref y0)))(n_y1:PySem.W.nsIn K mainGlobals "NoWay" = some (some (.ref y1)))(n_y2:PySem.W.nsIn K mainGlobals "BadName" = some (some (.ref y2)))(n_y3:PySem.W.nsIn K mainGlobals "Taken" = some (some (.ref y3)))(n_y4:PySem.W.nsIn K mainGlobals "Unknown" = some (some (.ref y4)))(n_y5:PySem.W.nsIn K mainGlobals "TooLong" = some (some (.ref y5)))(n_y6:PySem.W.nsIn K mainGlobals "NoFigure" = some (some (.ref y6)))(kpg:PySem.W.plainGet K ck Str.empty=true)(khd:PySem.W.hasDictIn K ck=true)(kpo:PySem.W.plainOver K ck=true)(ksa:PySem.W.findIn K (.ref ck) "__setattr__" = some (some (.builtin "object.__setattr__")))(vy:PySem.W.findIn K (.ref ck) "hall" = some none)(vz:PySem.W.findIn K (.ref ck) "plan" = some none)(qj:PySem.W.findIn K (.ref ck) "danced" = some none)(lK:PySem.W.findIn K (.ref ck) "breaking" = some none)(kmk:PySem.W.makesIn K ck=true)(kkc:PySem.W.keepIn K (.ref ck)=true)(bpg:PySem.W.plainGet K cb Str.empty=true)(bhd:PySem.W.hasDictIn K cb=true)(bpo:PySem.W.plainOver K cb=true)(bsa:PySem.W.findIn K (.ref cb) "__setattr__" = some (some (.builtin "object.__setattr__")))(bna_figures:PySem.W.findIn K (.ref cb) "figures" = some none)(bna_lengths:PySem.W.findIn K (.ref cb) "lengths" = some none)(bna_rows:PySem.W.findIn K (.ref cb) "rows" = some none)(bmk:PySem.W.makesIn K cb=true)(bkc:PySem.W.keepIn K (.ref cb)=true)(epg:PySem.W.plainGet K ze Str.empty=true)(ehd:PySem.W.hasDictIn K ze=true)(epo:PySem.W.plainOver K ze=true)(esa:PySem.W.findIn K (.ref ze) "__setattr__" = some (some (.builtin "object.__setattr__")))(ena_hall:PySem.W.findIn K (.ref ze) "hall" = some none)(ena_keeper:PySem.W.findIn K (.ref ze) "keeper" = some none)(ena_book:PySem.W.findIn K (.ref ze) "book" = some none)(emk:PySem.W.makesIn K ze=true)(ekc:PySem.W.keepIn K (.ref ze)=true)(Eb:eY K cq)(Ea:gI K cX fX=true)(p1:PySem.W.findIn K (.ref cX) "__getattribute__" = some (some (.builtin "BaseException.__getattribute__")))(p2:PySem.W.findIn K (.ref cX) "__getattr__" = some none)(p3:PySem.W.findIn K (.ref cX) "__setattr__" = some (some (.builtin "object.__setattr__")))(p4:PySem.W.findIn K (.ref cX) "place" = some none)(p5:PySem.W.hasDictIn K cX=true)(p6:PySem.W.mroIn K cX (.type "BaseException")=some true)(p7:PySem.W.mroIn K cX (.type "object")=some true)(p8:((PySem.W.clsIn K cX).any fun cd=>gy cd.mro)=true)(tQ:PySem.W.typeIn K (.ref fX)=some (.type "function"))(xp:([cA,cM,cS,cT,y0,y1].all fun a=>decide (PySem.W.exmOne K (.ref cq) (.ref a)=some false))=true)(pp:PySem.W.exmOne K (.ref cq) (.ref cq)=some true)(xn:([y0,y1,cq,y2,y3,y4,y5,y6].all fun a=>decide (PySem.W.exmOne K (.ref cN) (.ref a)=some false))=true)(xq:([cA,cM,cS,cT,y0,y1,cq,y2,y3,y4,y5,y6,cN].all fun a=>decide (PySem.W.exmOne K (.ref cX) (.ref a)=some false))=true)(qq:PySem.W.exmOne K (.ref cX) (.ref cX)=some true)(nE:bo K C "__init__" "Hall.__init__" iC)(j5:bo K ck "__init__" "Keeper.__init__" fV)(gm:bo K cb "__init__" "FigureBook.__init__" dB)(iY:bo K ze "__init__" "Evening.__init__" e8)(j9:bg K "_law_cell_at" gf)(pG:bg K "_law_size" jw)(nO:bg K "_law_crowd" iE)(nY:bg K "_law_guest" iG)(pD:bg K "_law_deed" jt)(nV:bg K "_law_draws" iF)(gT:bg K "_law_draws_from" dX)(nU:bg K "_law_deeds" dW)(ka:bg K "read_number" dY)(n8:bg K "read_line" fA)(iZ:bo K ck "state" "Keeper.state" e9)(lj:bo K ck "due" "Keeper.due" gP)(i6:bo K cN "__init__" "NoGuest.__init__" fb)(lf:bo K C "wears" "Hall.wears" gO)(pC:bo K C "met" "Hall.met" js)(lb:bo K C "dress" "Hall.dress" gM)(iK:bo K C "acquaint" "Hall.acquaint" er)(iL:bo K C "exchange" "Hall.exchange" et)(j3:bo K C "moment" "Hall.moment" fT)(gn:bo K ck "exchange" "Keeper.exchange" dC)(j7:bo K ck "step" "Keeper.step" fY)(fc:bo K ck "pairs_left" "Keeper.pairs_left" c6)(j6:bo K ck "left" "Keeper.left" fW)(j0:bo K C "guests" "Hall.guests" fS)(u3:bg K "strays" jR)(n9:bg K "ring_with" iI)(pH:bg K "rings_of" jx)(lu:bg K "rings_line" eI)(nA:bo K C "come" "Hall.come" iB)(j4:bo K ck "come" "Keeper.come" fU)(su:bo K C "go" "Hall.go" kU)(nJ:bo K ck "go" "Keeper.go" fw)(sv:bg K "do_deed" kW)(d5:bo K ze "number_line" "Evening.number_line" cG)(j8:bo K cX "__init__" "NoText.__init__" fZ)(gS:bo K ze "answer" "Evening.answer" dU)(jZ:bo K ze "say" "Evening.say" fR)(pF:bg K "_law_said" jv)(sx:bg K "_law_key" kY)(sw:bg K "_law_due" kX)(nN:bg K "_law_after" iD)(pE:bg K "_law_more" ju)(gq:bg K "_law_deed_answer" dD)(n6:bg K "_law_wrong" fz)(nZ:bg K "_law_rings" iH)(gU:bg K "_law_rings_text" cZ)(fD:bg K "_law_wears_answer" dq)(iM:bg K "_law_none_line" eC)(Db:bg K "law" uP)(DF:PySem.W.nsIn K mainGlobals "len" = some none)(yW:PySem.W.nsIn K mainGlobals "range" = some none)(mn:PySem.W.nsIn K mainGlobals "isinstance" = some none)(yX:PySem.W.nsIn K mainGlobals "tuple" = some none)(BS:PySem.W.nsIn K mainGlobals "list" = some none)(DE:PySem.W.nsIn K mainGlobals "int" = some none)(BQ:PySem.W.nsIn K mainGlobals "bool" = some none)(DC:PySem.W.nsIn K mainGlobals "all" = some none)(DD:PySem.W.nsIn K mainGlobals "any" = some none)(wG:PySem.W.nsIn K mainGlobals "sorted" = some none)(rD:PySem.W.nsIn K mainGlobals "reversed" = some none)(DI:PySem.W.nsIn K mainGlobals "set" = some none)(DH:PySem.W.nsIn K mainGlobals "min" = some none)(DG:PySem.W.nsIn K mainGlobals "max" = some none)(BR:PySem.W.nsIn K mainGlobals "dict" = some none)(DL:PySem.W.nsIn K mainGlobals "zip" = some none)(oN:PySem.W.nsIn K mainGlobals "enumerate" = some none)(DK:PySem.W.nsIn K mainGlobals "sum" = some none)(DJ:PySem.W.nsIn K mainGlobals "str" = some none) :
  ∃ fd:FuncData,(∀ (s:Shared)(v:Value),BindsTo s fd ⟨[v],[]⟩ [("_law_script",v)])/\∀ base:Heap,K.In base->base.Ns mainGlobals mg->aR l.prog w K mg base c0 12 fa fd ["_law_script"] (yN K):=by
 obtain⟨c,rfl,rfl,rfl,rfl,rfl,rfl,rfl,rfl⟩:∃ c:HX,c.C=C/\c.cW=cW/\c.cA=cA/\c.cM=cM/\c.cS=cS/\c.cT=cT/\c.cN=cN/\c.fN=fN:=⟨⟨C,cW,cA,cM,cS,cT,cN,fN⟩,rfl,rfl,rfl,rfl,rfl,rfl,rfl,rfl⟩;have T:Txt mg:=⟨IZ X G DF,IZ X G yW,IZ X G mn,IZ X G yX,IZ X G BS,IZ X G DE,IZ X G BQ,IZ X G DC,IZ X G DD,IZ X G wG,IZ X G rD,IZ X G DI,IZ X G DH,IZ X G DG,IZ X G BR,IZ X G DL,IZ X G oN,IZ X G DK,IZ X G DJ⟩;have U:HT K mg c:=⟨⟨pg,hd,po,sa⟩,yr,qw,qv,vN,I0 X G aC,D5,D6,D8,D9,I0 X G En,I0 X G Eo,I0 X G Er,I0 X G Es,I0 X G Ep,I0 X G Et,D7,⟨g1,g2,g3,g4,g5,g6,g7,g8⟩,tN,wS,wR,wI⟩;have VM:HM K c:=⟨x_aa,x_ma,x_mm,x_sa,x_sm,x_ss,x_ta,x_tm,x_ts,x_tt,x_na,x_nm,x_ns,x_nt,x_nn⟩;have UO:Fh K mg w c cq cX fX ck cb ze dl [y0,y1,y2,y3,y4,y5,y6]:=⟨⟨⟨kpg,khd,kpo,ksa⟩,vy,vz,qj,lK,I0 X G Ew⟩,⟨⟨bpg,bhd,bpo,bsa⟩,bna_figures,bna_lengths,bna_rows,I0 X G n_cb⟩,⟨⟨epg,ehd,epo,esa⟩,ena_hall,ena_keeper,ena_book,I0 X G n_ze⟩,Eb,I0 X G Ex,Ea,⟨p1,p2,p3,p4,p5,p6,p7,p8⟩,tQ,I0 X G Eu,⟨_,I0 X G n_md,⟨_,rfl⟩⟩,⟨_,I0 X G n_dg,⟨_,rfl⟩⟩,I0 X G n_dz,⟨by decide +kernel,dzs,[(s1,s2),(s3,s4),(s5,s6),(s7,s8),(s9,s10),(s11,s12),(s13,s14),(s15,s16)],n1,rfl,dzo⟩,I0 X G n_y0,I0 X G n_y1,I0 X G n_y2,I0 X G n_y3,I0 X G n_y4,I0 X G n_y5,I0 X G n_y6,fun a h=>Jq (Ju.mp xp a h),pp,fun a h=>Jq (Ju.mp xn a h),fun a h=>Jq (Ju.mp xq a h),qq⟩
 obtain⟨vm,tV,u8,vo,og⟩:=nE;obtain⟨rL,p9,rH,rN,kf⟩:=j5;obtain⟨lE,kJ,ly,lF,gr⟩:=gm;obtain⟨pZ,oO,pL,qf,i7⟩:=iY;obtain⟨p0,oP,pM,AI,i8⟩:=i6;obtain⟨rM,qa,rJ,BU,kg⟩:=j8;obtain⟨f_law,Ed,a_law,G_law⟩:=Db;have e:=hfa.symm.trans (I0 X G a_law);cases e;have eN:=IA (IA (pM.symm.trans b_cN))
 have eN2:p0=c.fN:=by injection eN
 have eQ:=IA (IA (rJ.symm.trans b_cX))
 have eQ2:rM=fX:=by injection eQ
 refine⟨Ed,?_,fun base _ _=>?_⟩
 ·obtain⟨_,_,_,_,_,_,_,_,_,rfl,_,_⟩:=G_law.ex
  exact fun s v=>.of_eq rfl
 ·have z:Bs l.prog w K mg base h:=⟨X,G⟩
  have MH:Gw l.prog w K mg base c:=⟨vm,tV,⟨mk,u8,vo,kc⟩,uj T U VM UO og ,(og.binds (ps:=["self"]) (by intro _ _ _ _ _ _;(repeat refine Cs fun _=>?_);exact Cr rfl))⟩;have MK:Gx l.prog w K mg base ck:=⟨rL,p9,⟨kmk,rH,rN,kkc⟩,qI T U VM UO kf ,(kf.binds (ps:=["self","hall"]) (by intro _ _ _ _ _ _;(repeat refine Cs fun _=>?_);exact Cr rfl))⟩;have MF:Gv l.prog w K mg base cb:=⟨lE,kJ,⟨bmk,ly,lF,bkc⟩,kM T U VM UO gr ,(gr.binds (ps:=["self"]) (by intro _ _ _ _ _ _;(repeat refine Cs fun _=>?_);exact Cr rfl))⟩;have ME:Gu l.prog w K mg base c ck ze:=⟨pZ,oO,⟨emk,pL,qf,ekc⟩,oX T U VM UO i7 MH MK MF,(i7.binds (ps:=["self"]) (by intro _ _ _ _ _ _;(repeat refine Cs fun _=>?_);exact Cr rfl))⟩;have bw:=fk z j9 fun _ _ h=>qM T U VM UO h;have cw:=fk z pG fun _ _ h=>vX T U VM UO h;have iS:=fk z nO fun _ _ h=>um T U VM UO h;have bH:=fk z nY fun _ _ h=>ur T U VM UO h cw;have ky:=fk z pD fun _ _ h=>vU T U VM UO h bH;have iU:=fk z nV fun _ _ h=>uq T U VM UO h cw;have d6:=fk z gT fun _ _ h=>lR T U VM UO h iU;have iT:=fk z nU fun _ _ h=>uo T U VM UO h bw iS bH ky d6;have ic:=fk z ka fun _ _ h=>qN T U VM UO h;have kA:=fk z n8 fun _ _ h=>uv T U VM UO h ic;have bh:=hG z iZ fun _ _ h=>oY T U VM UO h;have c9:=hG z lj fun _ _ h=>r0 T U VM UO h bh;have NG:pJ l.prog w K mg base c:=⟨oP,eN2▸oZ T U VM UO i8 ,(i8.binds (ps:=["self","guest"]) (by intro _ _ _ _ _ _;(repeat refine Cs fun _=>?_);exact Cr rfl))⟩;have aI:=hG z lf fun _ _ h=>rZ T U VM UO h NG;have kH:=hG z pC fun _ _ h=>vT T U VM UO h;have cx:=hG z lb fun _ _ h=>rY T U VM UO h
  have dw:=hG z iK fun _ _ h=>nc T U VM UO h;have eX:=hG z iL fun _ _ h=>ng T U VM UO h aI kH cx dw;have cI:=hG z j3 fun _ _ h=>qG T U VM UO h;have bA:=hG z gn fun _ _ h=>kN T U VM UO h c9 eX cI;have gG:=hG z j7 fun _ _ h=>qK T U VM UO h c9 bA;have bj:=hG z fc fun _ _ h=>jh T U VM UO h bh;have gF:=hG z j6 fun _ _ h=>qJ T U VM UO h bj;have gD:=hG z j0 fun _ _ h=>qF T U VM UO h;have tH:=fk z u3 fun _ _ h=>zO T U VM UO h gD aI;have kC:=FJ z n9 fun _ _ h=>uw T U VM UO h aI;have mw:=fk z pH fun _ _ h=>vY T U VM UO h tH kC;have iX:=fk z lu fun _ _ h=>r6 T U VM UO h mw;have i9:=hG z nA fun _ _ h=>ui T U VM UO h cx;have gE:=hG z j4 fun _ _ h=>qH T U VM UO h i9;have my:=hG z su fun _ _ h=>xA T U VM UO h aI;have ja:=hG z nJ fun _ _ h=>uk T U VM UO h my bj cI;have pA:=FJ z sv fun _ _ h=>xB T U VM UO h gE ja bA;have M_Evening_number_line:=hG z d5 fun _ _ h=>ip T U VM UO h gG bh gF aI iX pA;have NT:pK l.prog w K mg base cX fX:=⟨qa,eQ2▸qL T U VM UO kg ,(kg.binds (ps:=["self","place"]) (by intro _ _ _ _ _ _;(repeat refine Cs fun _=>?_);exact Cr rfl))⟩;have M_Evening_answer:=hG z gS fun _ _ h=>lQ T U VM UO h kA M_Evening_number_line NT;have M_Evening_say:=hG z jZ fun _ _ h=>qE T U VM UO h M_Evening_answer;have bL:=fk z pF fun _ _ h=>vW T U VM UO h M_Evening_say;have fB:=fk z sx fun _ _ h=>xD T U VM UO h;have mr:=fk z sw fun _ _ h=>xC T U VM UO h fB;have iR:=fk z nN fun _ _ h=>ul T U VM UO h fB;have kz:=fk z pE fun _ _ h=>vV T U VM UO h iR;have cO:=fk z gq fun _ _ h=>kO T U VM UO h mr kz;have iW:=fk z n6 fun _ _ h=>uu T U VM UO h
  have iV:=fk z nZ fun _ _ h=>ut T U VM UO h iW;have c8:=fk z gU fun _ _ h=>lS T U VM UO h iV;have dy:=fk z fD fun _ _ h=>jW T U VM UO h;have eW:=fk z iM fun _ _ h=>nh T U VM UO h;exact ED T U VM UO G_law ME bw cw iT bL cO bH c8 dy eW
theorem walk {l:PySem.W.OpenLaw}{q:Program}{loose:List Str}{XP:(Str->Option Value)->Heap->Prop}{YP:World->Heap->Prop}{d:DefRec}{K:Params->PySem.W.Frag}(hn:l.most=some 63)(hdf:d.params.defaults=[])
  (hY:∀ (w:World)(h:Heap),YP w h->(K w.params).In h)
  (F:∀ (w:World)(mg:Str->Option Value)(fa:Addr)(h:Heap),(K w.params).In h->h.Ns mainGlobals mg->mg d.name=some (.ref fa) ->
   ∃ fd:FuncData,(∀ (s:Shared)(u:Value),BindsTo s fd ⟨[u],[]⟩ [("_law_script",u)])/\∀ base:Heap,(K w.params).In base->base.Ns mainGlobals mg->aR l.prog w (K w.params) mg base c0 12 fa fd ["_law_script"] (yN (K w.params))) :
  PySem.W.WalkO q loose XP YP l.row.toRowW d [] (fun f vs=>PySem.call f vs) :=
 L2.walk_of (n:=63) (k:=12) (x:="_law_script") (CX:=fun _=>c0) (sp:=fun w=>yN (K w.params)) hn (by decide) hdf ⟨rfl,by decide,by decide⟩ hY F (fun _ _ a ns hl _ hS=>⟨a,ns,rfl,hS,hl,fun _=>rfl⟩) fun _ _ _ _ _ z=>z
end Wk50
namespace PySem.W.Fast
def tw11143596835130743224:=0
def tw9053518649345183484:=0
def tw13825647814998974350:=0
def tw5090488793507119306:=0
def tw7943040584248820101:=0
def tw15512347248411161702:=0
def tw14835256219299439282:=0
def tw11318093734561517441:=0
def tw5442408331454186797:=0
def tw8490862175677178301:=0
def tw7512778862046097782:=0
def tw12687336826033717246:=0
def tw3851445611466016253:=0
def tw6981736877203867400:=0
def tw1349947126743187617:=0
def tw11767625411430542343:=0
def tw2795363762336489515:=0
def tw14966045592242700544:=0
def tw15417004659845366949:=0
def tw8828267044881830831:=0
def tw6502360382111352557:=0
def tw16662163068232009399:=0
def tw6061268479881502908:=0
def tw4043691853599804515:=0
def tw8804459037521736037:=0
def tw12706930301150818616:=0
def tw14649377943606179305:=0
def tw15715580276828746169:=0
def tw8475180038847988857:=0
def tw2846110518232378466:=0
def tw2833098297162289419:=0
def tw2629950415510143056:=0
def tw18355573633075014862:=0
def tw8683406971915026721:=0
def tw7090647699602382876:=0
def tw17878853087649584050:=0
def tw613432141854998410:=0
def tw3911969843630690074:=0
def tw8586830849505848845:=0
def tw18185623212670244299:=0
def tw17940021251683259778:=0
def tw816508874426164109:=0
def tw8784999219557336757:=0
def tw16018658495235419474:=0
def tw11378824701304469708:=0
def tw1146048428233704670:=0
def tw17174536755413069101:=0
def tw12965967300924493777:=0
def tw8571448122769583244:=0
def tw4868718940045373129:=0
def tw17303865783699880270:=0
def tw898462308120985529:=0
def tw1365202112689861880:=0
def tw15789110007897720997:=0
def tw3679484611868441130:=0
def tw13113779532364410178:=0
def tw14184642357105952582:=0
def tw3671428210562919360:=0
def tw1949052006930575997:=0
def tw1023151896345643570:=0
def tw7453099365592330125:=0
def tw4990470043901385266:=0
def tw9511599653886875406:=0
def tw1348000394004544191:=0
def tw2622077951638372893:=0
def tw11215602599575799742:=0
def tw15177608798788231162:=0
def tw2032056628648835714:=0
def tw2251210459691537875:=0
def tw6453686861953758011:=0
def tw16461047536340214390:=0
def tw10024102250599458742:=0
def tw13784614114717587126:=0
def tw15398983718818438249:=0
def tw16045296989973061216:=0
def tw17727450476630381439:=0
def tw13684658287533436345:=0
def tw111641456685517078:=0
def tw1617763749129615151:=0
def tw9806988534538953110:=0
def tw13954753465570330224:=0
def tw3165602054954691962:=0
def tw12402524707534468612:=0
def tw16845185801859345365:=0
def tw13758079177846021586:=0
def tw12475473623882418731:=0
def tw9283363009933297752:=0
def tw6361952547624560962:=0
def tw16040714028655387147:=0
def tw15038662320901251990:=0
def tw16336102039364023951:=0
def tw13062063340260555963:=0
def tw17287026249987320402:=0
def tw4061165138891146155:=0
def tw11734687705338535522:=0
def tw14174071593034065878:=0
def tw4601031452292606442:=0
def tw192890332743988062:=0
def tw17353527954878332032:=0
def tw14519232524174874220:=0
def tw10927596415904274769:=0
def tw6475460293433076242:=0
def tw14628478725884000533:=0
def tw8309730834320935192:=0
def tw8776492145208035277:=0
def tw5533197693268037054:=0
def tw3265064572489861771:=0
def tw15881149259469054305:=0
def tw16953487680798950392:=0
def tw4631604000056470515:=0
def tw5769684999428199223:=0
def tw1879141035259630244:=0
def tw9439218885540971712:=0
def tw13825714301471820413:=0
def tw13978516655949397114:=0
def tw11332053726133406022:=0
def tw13995871402188148986:=0
def tw2547717293405353877:=0
def tw11187433664747994502:=0
def tw9206640763163027102:=0
def tw14872677814818276069:=0
def tw9993537999020776017:=0
def tw5050107501241981172:=0
def tw2868572890829342990:=0
def tw5153441032303728119:=0
def tw8504228880733695930:=0
def tw5866805510042680454:=0
def tw8154281360535981832:=0
def tw14279712790028101478:=0
def tw10772577787883141859:=0
def tw1604745712779666601:=0
def tw14487357287616278537:=0
def tw10265201313982919708:=0
def tw15905897134250909171:=0
def tw3055411597388540561:=0
def tw7533970220651881860:=0
def tw16082810211722653466:=0
def tw5907881778335816007:=0
def tw17324466399326805505:=0
def tw10117853956939834510:=0
def tw16355891142780064107:=0
def tw16427760463015421978:=0
def tw3012674657364857782:=0
def tw13860182233454801044:=0
def tw11206691580991101543:=0
def tw15154773150171112250:=0
def tw6302389965025365489:=0
def tw10671684959345450435:=0
def tw12021743890564444991:=0
def tw13395118135208875650:=0
def tw15997392505281886325:=0
def tw3055546973811162812:=0
def tw7047748483341724928:=0
def tw9101116646023556431:=0
def tw1472246175733997658:=0
def tw11168550732846660376:=0
def tw14350015557212292686:=0
def tw8384759307455314170:=0
def tw2331544324565143146:=0
def tw2751474723418017973:=0
def tw7312147686727663486:=0
def tw17623439768819818532:=0
def tw12112753991629926700:=0
def tw10315544429296440110:=0
def tw11518441069967295158:=0
def tw17224301802431515101:=0
def tw8298600963129903226:=0
def tw2260069380773170449:=0
def tw13512894367897133787:=0
def tw825195819810335189:=0
def tw13779419745288504037:=0
def tw14790655399617005160:=0
def tw833418187992238184:=0
def tw7389700032763771511:=0
def tw7360001810696133461:=0
def tw7214686105174767890:=0
def tw9959923746268397831:=0
def tw8866330439780641193:=0
def tw13643216960221525181:=0
def tw3713205354052713168:=0
def tw4497151948920877725:=0
def tw11189662657757423142:=0
def tw5333042145636088209:=0
def tw7821399193617098553:=0
def tw25677620270807773:=0
def tw5354561871137834653:=0
def tw15896088798493198692:=0
def tw14289784884166486100:=0
def tw5656351227656308031:=0
def tw690577785311308763:=0
def tw10294749658173528884:=0
def tw9289339303582537502:=0
def tw4133717926516104950:=0
def tw10597242629530908718:=0
def tw18045705722118872027:=0
def tw12958189079559449539:=0
def tw7347749350158703992:=0
def tw11234738269200639522:=0
def tw16174605332476358644:=0
def tw16591140583246723609:=0
def tw11492391203308824438:=0
def tw3231858567009261292:=0
def tw8841924829736143049:=0
def tw14334450241986072915:=0
def tw8360638292040966698:=0
def tw11537098706846593880:=0
def tw3674233121535579263:=0
def tw4963111484202960220:=0
def tw2318577560351206779:=0
def tw3678488147776830208:=0
def tw3046964716255130240:=0
def tw898463851797985411:=0
def tw7206711498849835714:=0
def tw10469740179577832520:=0
def tw15129052731373488108:=0
def tw3132631331068972740:=0
def tw16963161280147593979:=0
def tw14474002216385228933:=0
def tw16259368873626619163:=0
def tw4824076014396415207:=0
def tw7285623679946674243:=0
def tw11706015141023978817:=0
def tw16918709717095598661:=0
def tw11423582803567068462:=0
def tw1440741219423205739:=0
def tw8786708303345732412:=0
def tw4745733130729130191:=0
def tw5726175291517989125:=0
def tw897243210844427163:=0
def tw15464526774448780960:=0
def tw10218539723570318085:=0
def tw14668024555102262295:=0
def tw8505210593540649789:=0
def tw3329313775279067490:=0
def tw17265129407598097610:=0
def tw8975328182061547113:=0
def tw7322951332560249191:=0
def tw12567064698676751913:=0
def tw280556269918461180:=0
def tw17994718829438388193:=0
def tw779017892090530750:=0
def tw7104358091834033809:=0
def tw14496997475541521089:=0
def tw1005173104256553142:=0
def tw5859872739351883041:=0
def tw15589904571330712167:=0
def tw5174679402341665553:=0
def tw8072381735048720800:=0
def tw10284109169780822899:=0
def tw10838286807406860303:=0
def tw5250744539055377628:=0
def tw1624776263960843158:=0
def tw6086934688307884573:=0
def tw9855577446143868684:=0
def tw14323308324187218561:=0
def tw12601867502068857023:=0
def tw5218363299913641942:=0
def tw11680485066590441908:=0
def tw13814463134032509026:=0
def tw16043217809871073359:=0
def tw6611708082546964324:=0
def tw2875834147631339561:=0
def tw16479106932611440084:=0
def tw9872616778209276531:=0
def tw5186833097517495993:=0
def tw12736492655907736304:=0
def tw15736003896053546058:=0
def tw6857756060897922203:=0
def tw12741013815277090267:=0
def tw4120645765639645179:=0
def tw3462544667621637306:=0
def tw16857627166402180470:=0
def tw1364744095117108824:=0
def tw14848560416707504886:=0
def tw8862308381890299421:=0
def tw974247507608937754:=0
def tw3621481777862859977:=0
def tw10721702424467769343:=0
def tw14791590628363651142:=0
def tw5618866390662227227:=0
def tw5112031890196551835:=0
def tw630096847774109463:=0
def tw9030240883476644409:=0
def tw1194802226148988455:=0
def tw9072187914611840609:=0
def tw1188190869196591736:=0
def tw2220477610002185348:=0
def tw7891306796277050173:=0
def tw10299675046625812860:=0
def tw1529868452135404319:=0
def tw306957845916443105:=0
def tw1508999951400470157:=0
def tw16796665672888710567:=0
def tw10563930964488284784:=0
def tw10335954148783348349:=0
def tw12151181197075845586:=0
def tw12773899632338467344:=0
def tw433034197465305450:=0
def tw2038583424821938853:=0
def tw13170096810304372124:=0
def tw15915105373805642622:=0
def tw6509210073094730625:=0
def tw4317073072202927552:=0
def tw12570797003709545537:=0
def tw8620800123993617927:=0
def tw3466892974903523185:=0
def tw16837785929613147893:=0
def tw7720128071404833344:=0
def tw3347690639477871564:=0
def tw17330804326056793393:=0
def tw8262038545811672622:=0
def tw13141305362496960439:=0
def tw5615872111174407985:=0
def tw3226853918782415876:=0
def tw10227226539876138937:=0
def tw17969832025659499468:=0
def tw18284636700285476528:=0
def tw6836765756672670240:=0
def tw11460904615050686866:=0
def tw18089185357702300028:=0
def tw13858873618023741201:=0
def tw7643059423632212342:=0
def tw5585857937377802783:=0
def tw16733693408596456447:=0
def tw17545559163634835207:=0
def tw13405933488930390356:=0
def tw9262114021125163711:=0
def tw3961214959616211246:=0
def tw3878050176191598205:=0
def tw1046616783701147519:=0
def tw3046306789797446520:=0
def tw3143404317065362077:=0
def tw686925198759806073:=0
def tw11071286566491904553:=0
def tw2941420277485601429:=0
def tw2555296236887189546:=0
def tw12106623697517722927:=0
def tw14571065770872576994:=0
def tw6632383635292553040:=0
def tw4584458497489855240:=0
def tw13168430063011250730:=0
def tw8629441692240487130:=0
def tw14242020870381016724:=0
def tw3715267003733912591:=0
def tw2779698834387691228:=0
def tw7644878586503015633:=0
def tw3037277569247086210:=0
def tw11681972354712661627:=0
def tw1246654863948071313:=0
def tw1362514569606170558:=0
def tw1673284633062426568:=0
def tw6245948373216022536:=0
def tw11530593080846884000:=0
def tw13272433706647743631:=0
def tw15631542211754294152:=0
def tw4029778561547466255:=0
def tw1457576178253446465:=0
def tw16516813269701639627:=0
def tw11179450372827381611:=0
def tw4446619671477685403:=0
def tw3410742004188290722:=0
def tw3531807407286097576:=0
def tw11641258425171718412:=0
def tw6890213802088631902:=0
def tw12474264434066173328:=0
def tw12983064149254750943:=0
def tw10550466414402518107:=0
def tw12972437784636415225:=0
def tw3732574844790753987:=0
def tw13357298322799587219:=0
def tw15244661851348099956:=0
def tw17098041164895337759:=0
def tw8699148985513528890:=0
def tw8885153080958706213:=0
def tw4511421788866249810:=0
def tw18375968022189964916:=0
def tw1066546854317866310:=0
def tw11286133773934707050:=0
def tw1561234617854930801:=0
def tw729173818315448109:=0
def tw9567147338097468584:=0
def tw6563187513715612013:=0
def tw8369823564655693157:=0
def tw14729953753798277627:=0
def tw11664578273872944828:=0
def tw10153793440418307917:=0
def tw11374559690330552450:=0
def tw15657152363029127329:=0
def tw2689852282585155694:=0
def tw16767588397872935302:=0
def tw15790785413619733291:=0
def tw9696092562117954029:=0
def tw13795954729839695825:=0
def tw14746597949088460015:=0
def tw7142556027311997580:=0
def tw14761883113072134806:=0
def tw413854285438087809:=0
def tw853721856559146103:=0
def tw12298962918610765359:=0
def tw14350120489450191632:=0
def tw12575860026264966618:=0
def tw3110734859752479455:=0
def tw17676149284198292702:=0
def tw266962399421590759:=0
def tw6028075661631605853:=0
def tw10231866465061860273:=0
def tw2880772763198775849:=0
def tw16456560832488113520:=0
def tw3458111556041909137:=0
def tw2535829940466101230:=0
def tw15906794868101616551:=0
def tw17129139675361068764:=0
def tw11808383774392636956:=0
def tw14838404015978656099:=0
def tw5974479919267531925:=0
def tw8928416716638267898:=0
def tw11906986033627215493:=0
def tw11048479576866673333:=0
def tw9931890592656587721:=0
def tw6585964358580595639:=0
def tw6299832687431153631:=0
def tw598818633210189585:=0
def tw6570607965151390111:=0
def tw15475360083494800145:=0
def tw3948164800283098718:=0
def tw1412941717268459288:=0
def tw3516406248282811992:=0
def tw6036747899934650324:=0
def tw7989390863198068878:=0
def tw4210772741599926614:=0
def tw15992056907082454507:=0
def tw8031908247456029475:=0
def tw5463609012239410628:=0
def tw18075203738716917494:=0
def tw6870378971103122681:=0
def tw7716312957594564635:=0
def tw10727695661845519584:=0
def tw4837644780768368080:=0
def tw13689321514357135172:=0
def tw7914567374353753826:=0
def tw8767443032416891879:=0
def tw4876084033058755324:=0
def tw14492162427887897740:=0
def tw11002381561772033818:=0
def tw15859347183275045244:=0
def tw9788237485361924795:=0
def tw15309356692053341448:=0
def tw246602980140052695:=0
def tw4427050515167211227:=0
def tw7358022212800289520:=0
def tw4691702742256818537:=0
def tw2869839919355798798:=0
def tw6736007134135253595:=0
def tw7185829756504089898:=0
def tw5685786821188881424:=0
def tw11630666190935388382:=0
def tw8745299317832680579:=0
def tw825279188340855964:=0
def tw1548966001651551237:=0
def tw16198683300931302543:=0
def tw3799761897546789847:=0
def tw6998761896588572199:=0
def tw9926016400821177192:=0
def tw16084000298709892947:=0
def tw13245543762270833661:=0
def tw1883809522720710604:=0
def tw6050995870293909858:=0
def tw8426765986471530784:=0
def tw17700872704824763734:=0
def tw15293333714013337401:=0
def tw4408050960033591566:=0
def tw11433865242171667100:=0
def tw12901440534130094225:=0
def tw8329532284475198975:=0
def tw9561082986967745813:=0
def tw4254247523754239207:=0
def tw7177135051363987473:=0
def tw1544203926755438977:=0
def tw9390092612328103982:=0
def tw8240448379222684648:=0
def tw6105090817252904549:=0
def tw18338990809291063641:=0
def tw6952962664002572701:=0
def tw11393045529536231091:=0
def tw11338899132266601795:=0
def tw7092269505366402533:=0
def tw15011690411477939217:=0
def tw15672084501945468613:=0
def tw3233258731776753146:=0
def tw2311153742304466307:=0
def tw16163680337557939703:=0
def tw5851345205468400288:=0
def tw7661057006825577928:=0
def tw14753827306447933750:=0
def tw10621468943131597187:=0
def tw14264781295714394951:=0
def tw150053995531361164:=0
def tw1683070103918023888:=0
def tw10373601398457821406:=0
def tw17303148857326632652:=0
def tw17433221907567218537:=0
def tw2812822511236810794:=0
def tw4125327365180731069:=0
def tw6653756382508363102:=0
def tw18400475016249621812:=0
def tw2938268278191020259:=0
def tw6101990503184005173:=0
def tw1980665275702498750:=0
def tw10406687472369247075:=0
def tw15531066540715038777:=0
def tw2809853464977922988:=0
def tw1511768106125559022:=0
def tw6921286505042769044:=0
end PySem.W.Fast
open PySem PySem.W PyProof.Rows
set_option maxRecDepth 100000 in
set_option maxHeartbeats 0 in
theorem PySem.Challenge.cw_lastwaltz_k50_the_desk_holds : PySem.Challenge.rw_lastwaltz_k50_the_desk.Holds := by
 w_on;o_law;k_head;(case hw=>w_witness2)
 k_fill
 refine Wk50.walk (l:=PySem.Challenge.rw_lastwaltz_k50_the_desk) rfl rfl (fun w h Y=>PySem.W.km_in_of Y) ?F
 case F =>
  intro w mg fa h KX G hmg;refine' Wk50.all_mk2 KX G hmg ?aC ?Et ?En ?Eo ?Er ?Es ?Ep ?b_cN ?pg ?hd ?po ?sa ?yr ?qw ?qv ?vN ?D5 ?D6 ?D8 ?D9 ?D7 ?g1 ?g2 ?g3 ?g4 ?g5 ?g6 ?g7 ?g8 ?tN ?wS ?wR ?wI ?x_aa ?x_ma ?x_mm ?x_sa ?x_sm ?x_ss ?x_ta ?x_tm ?x_ts ?x_tt ?x_na ?x_nm ?x_ns ?x_nt ?x_nn ?mk ?kc ?Ex ?Eu ?b_cX ?Ew ?n_cb ?n_ze ?n_md ?n_dg ?n_dz ?dzo ?dzs ?n_y0 ?n_y1 ?n_y2 ?n_y3 ?n_y4 ?n_y5 ?n_y6 ?kpg ?khd ?kpo ?ksa ?vy ?vz ?qj ?lK ?kmk ?kkc ?bpg ?bhd ?bpo ?bsa ?bna_figures ?bna_lengths ?bna_rows ?bmk ?bkc ?epg ?ehd ?epo ?esa ?ena_hall ?ena_keeper ?ena_book ?emk ?ekc ?Eb ?Ea ?p1 ?p2 ?p3 ?p4 ?p5 ?p6 ?p7 ?p8 ?tQ ?xp ?pp ?xn ?xq ?qq ?nE ?j5 ?gm ?iY ?j9 ?pG ?nO ?nY ?pD ?nV ?gT ?nU ?ka ?n8 ?iZ ?lj ?i6 ?lf ?pC ?lb ?iK ?iL ?j3 ?gn ?j7 ?fc ?j6 ?j0 ?u3 ?n9 ?pH ?lu ?nA ?j4 ?su ?nJ ?sv ?d5 ?j8 ?gS ?jZ ?pF ?sx ?sw ?nN ?pE ?gq ?n6 ?nZ ?gU ?fD ?iM ?Db ?DF ?yW ?mn ?yX ?BS ?DE ?BQ ?DC ?DD ?wG ?rD ?DI ?DH ?DG ?BR ?DL ?oN ?DK ?DJ
  (case aC=>k_is)
  (case Et=>k_is)
  (case En=>k_is)
  (case Eo=>k_is)
  (case Er=>k_is)
  (case Es=>k_is)
  (case Ep=>k_is)
  (case b_cN=>k_is)
  (case D5=>kernel_rfl)
  (case D6=>kernel_rfl)
  (case D8=>kernel_rfl)
  (case D9=>kernel_rfl)
  (case D7=>kernel_rfl)
  (case g8=>kernel_rfl)
  (case x_aa=>kernel_rfl)
  (case x_ma=>kernel_rfl)
  (case x_mm=>kernel_rfl)
  (case x_sa=>kernel_rfl)
  (case x_sm=>kernel_rfl)
  (case x_ss=>kernel_rfl)
  (case x_ta=>kernel_rfl)
  (case x_tm=>kernel_rfl)
  (case x_ts=>kernel_rfl)
  (case x_tt=>kernel_rfl)
  (case x_na=>kernel_rfl)
  (case x_nm=>kernel_rfl)
  (case x_ns=>kernel_rfl)
  (case x_nt=>kernel_rfl)
  (case x_nn=>kernel_rfl)
  (case Ex=>k_is)
  (case Eu=>k_is)
  (case b_cX=>k_is)
  (case Ew=>k_is)
  (case n_cb=>k_is)
  (case n_ze=>k_is)
  (case n_md=>k_is)
  (case n_dg=>k_is)
  (case n_dz=>k_is)
  (case dzo=>exact rfl)
  (case dzs=>kernel_rfl)
  (case n_y0=>k_is)
  (case n_y1=>k_is)
  (case n_y2=>k_is)
  (case n_y3=>k_is)
  (case n_y4=>k_is)
  (case n_y5=>k_is)
  (case n_y6=>k_is)
  (case Eb=>kernel_rfl)
  (case Ea=>kernel_rfl)
  (case p8=>kernel_rfl)
  (case xp=>kernel_rfl)
  (case pp=>kernel_rfl)
  (case xn=>kernel_rfl)
  (case xq=>kernel_rfl)
  (case qq=>kernel_rfl)
  all_goals first | (refine' Wz.fact_mk ?a ?l ?c ?k;(case a=>k_is);(case l=>k_is);(case c=>k_is);(case k=>k_is)) | (refine' Wz.mfact_mk ?a ?i ?l ?c ?k;(case a=>k_is);(case i=>k_is);(case l=>k_is);(case c=>k_is);(case k=>k_is)) | k_is
