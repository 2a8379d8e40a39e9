import PyProof.Rows.All
import Wide.All
import OpenK.AllK
import Wide.FinOn
import Lean
import PyProof.EqAt
import PyProof.EqKinds
import PyProof.TupleCall
import PyProof.NeData
import OpenK.KOwn
import KE.KTryMore
import PySem.Challenge.RW_lastwaltz_k05_whole_no_row_is_shorter
set_option Elab.async false
set_option linter.all false
set_option maxRecDepth 100000
/-! THE HAND LAYER, for ints, bools, texts, own classes, LISTS and tuples (index, slices, in, append, pop ..), calls, loops. Paste it whole ahead of your own text; what your proof does not reach may be deleted. -/
namespace L2
open PySem PySem.Spec PyProof.Rows

/-- a key: an int or a str -/
abbrev Key := Sum Int Str
def keyIs : Key → Value → Bool
  | .inl k, v => Value.isInt k v
  | .inr x, v => Value.isStrOf x v
def keyH (w : World) : Key → Int
  | .inl k => hashInt k
  | .inr x => hashStr w x
theorem keyIs_shape : ∀ {k : Key} {v : Value}, keyIs k v = true → (∃ i t, k = Sum.inl i ∧ v = Value.int i t) ∨ (∃ x t, k = Sum.inr x ∧ v = Value.str x t)
  | .inl i, v, h => by
    obtain ⟨t, e⟩ := Value.isInt_shape (k := i) (v := v) h
    exact .inl ⟨i, t, rfl, e⟩
  | .inr x, v, h => by
    obtain ⟨t, e⟩ := Value.isStrOf_shape (x := x) (v := v) h
    exact .inr ⟨x, t, rfl, e⟩
theorem keyIs_int (i : Int) (t : Tok) : keyIs (.inl i) (.int i t) = true := by simp [keyIs, Value.isInt]
theorem keyIs_str (x : Str) (t : Tok) : keyIs (.inr x) (.str x t) = true := by simp [keyIs, Value.isStrOf]
theorem key_ll (a b : Int) : decide ((Sum.inl a : Key) = Sum.inl b) = (a == b) := by
  by_cases e : a = b
  · subst e; simp
  · have h : ¬ (Sum.inl a : Key) = Sum.inl b := fun q => e (Sum.inl.inj q)
    rw [decide_eq_false h]
    exact (beq_eq_false_iff_ne.mpr e).symm
theorem key_rr (a b : Str) : decide ((Sum.inr a : Key) = Sum.inr b) = decide (a = b) := by
  by_cases e : a = b
  · subst e; simp
  · have h : ¬ (Sum.inr a : Key) = Sum.inr b := fun q => e (Sum.inr.inj q)
    rw [decide_eq_false h, decide_eq_false e]
theorem key_lr (a : Int) (b : Str) : decide ((Sum.inl a : Key) = Sum.inr b) = false := decide_eq_false (fun q => nomatch q)
theorem key_rl (a : Str) (b : Int) : decide ((Sum.inr a : Key) = Sum.inl b) = false := decide_eq_false (fun q => nomatch q)

def mixKind (prog : Program) (w : World) : PySem.KeyKind prog w Key where
  is := keyIs
  hash := keyH w
  inj := fun v a b ha hb => by
    rcases keyIs_shape ha with ⟨i, t, rfl, rfl⟩ | ⟨x, t, rfl, rfl⟩
    · rcases keyIs_shape hb with ⟨j, u, rfl, e⟩ | ⟨y, u, rfl, e⟩
      · injection e with e1 _; rw [e1]
      · exact nomatch e
    · rcases keyIs_shape hb with ⟨j, u, rfl, e⟩ | ⟨y, u, rfl, e⟩
      · exact nomatch e
      · injection e with e1 _; rw [e1]
  byValue := fun k v h => by
    rcases keyIs_shape h with ⟨i, t, rfl, rfl⟩ | ⟨x, t, rfl, rfl⟩ <;> rfl
  pyHash := fun hv h => by
    rcases keyIs_shape hv with ⟨i, t, rfl, rfl⟩ | ⟨x, t, rfl, rfl⟩
    · exact wpAny_pyHash_int h
    · exact wpAny_pyHash_str h
  eqBool := fun hu hv h => by
    rcases keyIs_shape hu with ⟨i, t, rfl, rfl⟩ | ⟨x, t, rfl, rfl⟩
    · rcases keyIs_shape hv with ⟨j, u, rfl, rfl⟩ | ⟨y, u, rfl, rfl⟩
      · rw [key_ll] at h; exact wpAny_eqBool_int h
      · rw [key_lr] at h; exact SeqAt.EqAt.int_str i t y u _ _ _ _ h
    · rcases keyIs_shape hv with ⟨j, u, rfl, rfl⟩ | ⟨y, u, rfl, rfl⟩
      · rw [key_rl] at h; exact SeqAt.EqAt.str_int x t j u _ _ _ _ h
      · rw [key_rr] at h; exact wpAny_eqBool_str h
  «strs» := fun k x t v h => by
    rcases keyIs_shape h with ⟨i, u, rfl, e⟩ | ⟨y, u, rfl, e⟩
    · exact nomatch e
    · injection e with e1 _
      subst e1
      cases v <;> rfl

theorem mixKind_int (prog : Program) (w : World) (i : Int) (t : Tok) : (mixKind prog w).is (.inl i) (.int i t) = true := keyIs_int i t
theorem mixKind_str (prog : Program) (w : World) (x : Str) (t : Tok) : (mixKind prog w).is (.inr x) (.str x t) = true := keyIs_str x t
end L2

namespace L2
open PySem PySem.Spec PyProof.Rows

/-- a value, without the heap -/
inductive V where
  | non | bl (b : Bool) | int (i : Int) | str (x : Str) | byt (b : Array UInt8) | flt (b : UInt64) | ref (a : Addr) | ty (n : String)
  deriving DecidableEq

def RelV : V → Value → Prop
  | .non, u => u = Value.none
  | .bl b, u => u = Value.bool b
  | .int i, u => ∃ t, u = Value.int i t
  | .str x, u => ∃ t, u = Value.str x t
  | .byt b, u => ∃ t, u = Value.bytes b t
  | .flt b, u => ∃ t, u = Value.float b t
  | .ref a, u => u = Value.ref a
  | .ty n, u => u = Value.type n

abbrev Vals : List V → List Value → Prop := Paired RelV
theorem Vals.length {xs : List V} {us : List Value} (r : Vals xs us) : xs.length = us.length := Paired.length r
theorem Vals.get : ∀ {xs : List V} {us : List Value} {i : Nat} {x : V}, Vals xs us → xs[i]? = some x → ∃ u, us[i]? = some u ∧ RelV x u
  | _, _, _, _, .nil, e => by simp at e
  | _, _, 0, _, .cons r _, e => by simp at e; subst e; exact ⟨_, rfl, r⟩
  | _, _, i + 1, x, .cons _ t, e => by
    obtain ⟨u, h1, h2⟩ := Vals.get (i := i) (x := x) t (by simpa using e)
    exact ⟨u, by simpa using h1, h2⟩
theorem Vals.append : ∀ {xs ys : List V} {us ws : List Value}, Vals xs us → Vals ys ws → Vals (xs ++ ys) (us ++ ws)
  | _, _, _, _, .nil, s => s
  | _, _, _, _, .cons r t, s => .cons r (Vals.append t s)
theorem Vals.take : ∀ {xs : List V} {us : List Value} (n : Nat), Vals xs us → Vals (xs.take n) (us.take n)
  | _, _, 0, _ => .nil
  | _, _, _ + 1, .nil => .nil
  | _, _, n + 1, .cons r t => .cons r (Vals.take n t)
theorem Vals.drop : ∀ {xs : List V} {us : List Value} (n : Nat), Vals xs us → Vals (xs.drop n) (us.drop n)
  | _, _, 0, r => r
  | _, _, _ + 1, .nil => .nil
  | _, _, n + 1, .cons _ t => Vals.drop n t
def RelO : Option V → Option Value → Prop
  | some v, some u => RelV v u
  | none, none => True
  | _, _ => False
def KV {κ : Type} : List (κ × V) → List (κ × Value) → Prop := Paired fun (p : κ × V) (q : κ × Value) => p.1 = q.1 ∧ RelV p.2 q.2

/-- a key of a dict (00_mix): an int or a text -/
def kV : Key → V
  | .inl i => .int i
  | .inr x => .str x

/-- what stands at a tracked address -/
inductive HO where
  /-- a list -/
  | lst (xs : List V)
  /-- a tuple (never changes) -/
  | tup (xs : List V)
  /-- a dict whose keys are ints and texts; one whose keys are tuples of ints and texts (the empty one is both) -/
  | dK (kvs : List (Key × V)) | dT (kvs : List (List Key × V))
  /-- a set of ints: its members, its size -/
  | set (S : Int → Bool) (n : Nat)
  /-- an instance of the class at C, its dict at dx, its attributes -/
  | ins (C dx : Addr) (fs : List (Str × V))
  /-- the dict of the instance at x -/
  | own (x : Addr)
  /-- the dict of an exception -/
  | xd (fs : List (Str × V))
  /-- a bound method, f of x -/
  | met (f x : Addr)
  /-- a range object lo, lo + 1, .. below hi -/
  | rng (lo hi : Int)
  /-- a thing that is known to the object (the script; a dict while a loop walks it): read, never written while it is so -/
  | frz (o : Obj) (u : HO)
  /-- a code object's table -/
  | tbl (ps : Array Value)
  /-- any other thing, by what is true of its one object (a def of one's own: SetO a S n := HO.ext fun h => ..) -/
  | ext (φ : Heap → Prop)

abbrev Hp := Addr → Option HO
def upd (H : Hp) (a : Addr) (o : HO) : Hp := fun b => if b = a then some o else H b
theorem upd_same {H : Hp} {a : Addr} {o : HO} : upd H a o a = some o := by unfold upd; rw [if_pos rfl]
theorem upd_ne {H : Hp} {a b : Addr} {o : HO} (h : b ≠ a) : upd H a o b = H b := by unfold upd; rw [if_neg h]
theorem upd_upd {H : Hp} {a : Addr} {o u : HO} : upd (upd H a o) a u = upd H a u := by
  funext b; unfold upd; split <;> rfl
/-- two objects of different content stand apart -/
theorem ne_of {H : Hp} {a b : Addr} {o u : HO} (h : H a = some o) (h' : H b = some u) (d : o ≠ u) : a ≠ b := by
  intro e; subst e; rw [h] at h'; exact d (Option.some.inj h')
theorem ne_of_none {H : Hp} {a b : Addr} {o : HO} (h : H a = some o) (h' : H b = none) : a ≠ b := by
  intro e; subst e; rw [h] at h'; cases h'

section
variable (P : Program) (w : World)
def ObjOk (H : Hp) (h : Heap) (a : Addr) : HO → Prop
  | .lst xs => xs.length ≤ sizeLine ∧ ∃ (its : List Value) (n : Nat), Vals xs its ∧ h.get? a = some { cls := .type "list", data := .seq its.toArray n }
  | .tup xs => xs.length ≤ sizeLine ∧ ∃ its : List Value, Vals xs its ∧ IsTup h a its.toArray
  | .dK kvs => kvs.length ≤ sizeLine ∧ (a == sysModules) = false ∧ ∃ vs, KV kvs vs ∧ h.DictOf (mixKind P w) a vs
  | .dT kvs => kvs.length ≤ sizeLine ∧ (a == sysModules) = false ∧ ∃ xs : List (List Key × Addr × Value),
      Paired (fun (p : List Key × V) (q : List Key × Addr × Value) => p.1 = q.1 ∧ H q.2.1 = some (.tup (p.1.map kV)) ∧ RelV p.2 q.2.2) kvs xs ∧
      ∃ o es ep, h.get? a = some o ∧ o.ExactDict ∧ o.data = .dict es ep ∧ es.toList = xs.map (entryOfKey (tupleKind (mixKind P w))) ∧ (xs.map (·.1)).Nodup
  | .set S n => h.SetOf (intKind P w) a S n
  | .ins C dx fs => H dx = some (.own a) ∧ fs.length ≤ 1000 ∧ dx ≠ a ∧ h.get? a = some (PySem.W.instObj C dx) ∧
      ∃ mA, h.Ns1 dx mA ∧ (∀ f, RelO (fs.lookup f) (mA f)) ∧ PySem.Within mA (fs.map (·.1))
  | .own _ => ∃ o, h.get? a = some o
  | .xd fs => ∃ mA, h.Ns1 a mA ∧ ∀ f, RelO (fs.lookup f) (mA f)
  | .rng lo hi => ∃ t u v, h.get? a = some { cls := .type "range", data := .fields #[.int lo t, .int hi u, .int 1 v] }
  | .frz o u => h.get? a = some o ∧ ObjOk H h a u
  | .tbl ps => h.get? a = some { cls := .none, data := .fields ps }
  | .met f x => h.get? a = some (PySem.W.methodObj (.ref f) (.ref x))
  | .ext φ => φ h ∧ (∃ o, h.get? a = some o) ∧ ∀ h1 h2 : Heap, φ h1 → (∀ o, h1.get? a = some o → h2.get? a = some o) → φ h2
/-- the abstract heap is held -/
def HOk (H : Hp) (h : Heap) : Prop := ∀ a o, H a = some o → ObjOk P w H h a o
end

section
variable {P : Program} {w : World} {H H' : Hp} {h h' : Heap} {a : Addr} {o : HO}
theorem ObjOk.lt (x : ObjOk P w H h a o) : a < h.objs.size := by
  cases o with
  | lst xs => obtain ⟨_, _, _, _, e⟩ := x; exact Heap.lt_size e
  | tup xs => obtain ⟨_, _, _, p⟩ := x; exact p.lt
  | dK kvs => obtain ⟨_, _, _, _, o, _, _, e, _⟩ := x; exact Heap.lt_size e
  | dT kvs => obtain ⟨_, _, _, _, o, _, _, e, _⟩ := x; exact Heap.lt_size e
  | set S n => obtain ⟨o, _, _, _, e, _⟩ := x; exact Heap.lt_size e
  | ins C dx fs => obtain ⟨_, _, _, e, _⟩ := x; exact Heap.lt_size e
  | own y => obtain ⟨_, e⟩ := x; exact Heap.lt_size e
  | xd fs => obtain ⟨_, ⟨_, _, _, e, _⟩, _⟩ := x; exact Heap.lt_size e
  | rng lo hi => obtain ⟨_, _, _, e⟩ := x; exact Heap.lt_size e
  | frz ob u => obtain ⟨e, _⟩ := x; exact Heap.lt_size e
  | tbl ps => exact Heap.lt_size (show h.get? a = some _ from x)
  | met f y => exact Heap.lt_size (show h.get? a = some _ from x)
  | ext φ => obtain ⟨_, ⟨_, e⟩, _⟩ := x; exact Heap.lt_size e
theorem Paired.mapP {α β : Type} {F G : α → β → Prop} : ∀ {l₁ : List α} {l₂ : List β}, Paired F l₁ l₂ → (∀ a b, F a b → G a b) → Paired G l₁ l₂
  | _, _, .nil, _ => .nil
  | _, _, .cons r t, f => .cons (f _ _ r) (Paired.mapP t f)
/-- what an object's description leans on: its own object, its own dict, the tuples -/
theorem ObjOk.stay (x : ObjOk P w H h a o) (k : ∀ b u, (b = a ∨ H b = some (.own a)) → h.get? b = some u → h'.get? b = some u)
    (ho : ∀ b, H b = some (.own a) → H' b = some (.own a)) (ht : ∀ b xs, H b = some (.tup xs) → H' b = some (.tup xs)) : ObjOk P w H' h' a o := by
  induction o with
  | lst xs => obtain ⟨z, its, n, r, e⟩ := x; exact ⟨z, its, n, r, k _ _ (.inl rfl) e⟩
  | tup xs => obtain ⟨z, its, r, ob, e, c⟩ := x; exact ⟨z, its, r, ob, k _ _ (.inl rfl) e, c⟩
  | dK kvs => obtain ⟨z, y, vs, r, ob, es, ep, e, c⟩ := x; exact ⟨z, y, vs, r, ob, es, ep, k _ _ (.inl rfl) e, c⟩
  | dT kvs =>
    obtain ⟨z, y, xs, r, ob, es, ep, e, c⟩ := x
    exact ⟨z, y, xs, Paired.mapP r fun p q z => ⟨z.1, ht _ _ z.2.1, z.2.2⟩, ob, es, ep, k _ _ (.inl rfl) e, c⟩
  | set S n => obtain ⟨ob, es, ep, t, e, c⟩ := x; exact ⟨ob, es, ep, t, k _ _ (.inl rfl) e, c⟩
  | ins C dx fs =>
    obtain ⟨d, z, ne, e, mA, ⟨od, es, ep, e2, c⟩, r⟩ := x
    exact ⟨ho _ d, z, ne, k _ _ (.inl rfl) e, mA, ⟨od, es, ep, k _ _ (.inr d) e2, c⟩, r⟩
  | own y => obtain ⟨ob, e⟩ := x; exact ⟨ob, k _ _ (.inl rfl) e⟩
  | xd fs => obtain ⟨mA, ⟨od, es, ep, e, c⟩, r⟩ := x; exact ⟨mA, ⟨od, es, ep, k _ _ (.inl rfl) e, c⟩, r⟩
  | rng lo hi => obtain ⟨t, u, v, e⟩ := x; exact ⟨t, u, v, k _ _ (.inl rfl) e⟩
  | frz ob u ih => obtain ⟨e, q⟩ := x; exact ⟨k _ _ (.inl rfl) e, ih q⟩
  | tbl ps =>
    have e : h.get? a = some { cls := .none, data := .fields ps } := x
    show h'.get? a = some { cls := .none, data := .fields ps }
    exact k a _ (.inl rfl) e
  | met f y =>
    have e : h.get? a = some (PySem.W.methodObj (.ref f) (.ref y)) := x
    show h'.get? a = some (PySem.W.methodObj (.ref f) (.ref y))
    exact k a _ (.inl rfl) e
  | ext φ => obtain ⟨p, ⟨o, e⟩, st⟩ := x; exact ⟨st _ _ p fun o q => k _ _ (.inl rfl) q, ⟨o, k _ _ (.inl rfl) e⟩, st⟩
theorem HOk.lt (x : HOk P w H h) (e : H a = some o) : a < h.objs.size := (x a o e).lt
theorem HOk.fresh (x : HOk P w H h) (e : h.objs.size ≤ a) : H a = none := by
  cases q : H a with
  | none => rfl
  | some u => exact absurd (Nat.lt_of_lt_of_le (x.lt q) e) (Nat.lt_irrefl _)
/-- every object of the heap is kept -/
theorem HOk.kept (x : HOk P w H h) (k : ∀ b u, h.get? b = some u → h'.get? b = some u) : HOk P w H h' := fun a o e =>
  (x a o e).stay (fun b u _ q => k b u q) (fun _ q => q) fun _ _ q => q
/-- a new object is laid and tracked -/
theorem HOk.laid (x : HOk P w H h) (k : ∀ b u, h.get? b = some u → h'.get? b = some u) (hp : h.objs.size ≤ a) (new : ObjOk P w (upd H a o) h' a o) : HOk P w (upd H a o) h' := fun b u e => by
  have hn := x.fresh hp
  by_cases hb : b = a
  · subst hb; rw [upd_same] at e; cases e; exact new
  · rw [upd_ne hb] at e
    exact (x b u e).stay (fun c v _ q => k c v q) (fun c q => by rw [upd_ne (ne_of_none q hn)]; exact q) fun c xs q => by rw [upd_ne (ne_of_none q hn)]; exact q
end

/-- what may be read as u: it is u, or a known u -/
def Rd (H : Hp) (a : Addr) (u : HO) : Prop := H a = some u ∨ ∃ o, H a = some (.frz o u)
theorem Rd.ok {P : Program} {w : World} {H : Hp} {h : Heap} {a : Addr} {u : HO} (r : Rd H a u) (x : HOk P w H h) : ObjOk P w H h a u := by
  rcases r with r | ⟨o, r⟩
  · exact x a u r
  · obtain ⟨_, q⟩ := x a _ r
    exact q
/-- what may be written -/
def Mut : Option HO → Prop
  | some (.lst _) => True
  | some (.dK _) => True
  | some (.dT _) => True
  | some (.set _ _) => True
  | some (.ins _ _ _) => True
  | some (.ext _) => True
  | _ => False
section
variable {P : Program} {w : World} {H : Hp} {h h' : Heap} {x e : Addr} {o' : HO}
/-- the object at e is changed: x itself, or the dict of the instance x -/
theorem HOk.write (ok : HOk P w H h) (mu : Mut (H x)) (he : e = x ∨ H e = some (.own x)) (k : ∀ b u, b ≠ e → h.get? b = some u → h'.get? b = some u) (heo : ∃ u, h'.get? e = some u)
    (new : ObjOk P w (upd H x o') h' x o') : HOk P w (upd H x o') h' := fun b u q => by
  have nown : ∀ c y, H c = some (.own y) → c ≠ x := fun c y r z => by subst z; rw [r] at mu; exact mu
  have ntup : ∀ c xs, H c = some (.tup xs) → c ≠ x := fun c xs r z => by subst z; rw [r] at mu; exact mu
  by_cases hb : b = x
  · subst hb; rw [upd_same] at q; cases q; exact new
  · rw [upd_ne hb] at q
    by_cases hbe : b = e
    · have q' : H b = some (.own x) := by
        rcases he with z | z
        · exact absurd (hbe.trans z) hb
        · rw [hbe]; exact z
      rw [q] at q'; cases q'
      obtain ⟨v, hv⟩ := heo
      exact ⟨v, by rw [hbe]; exact hv⟩
    · refine (ok b u q).stay (fun c v hc r => k c v ?_ r) (fun c r => by rw [upd_ne (nown c b r)]; exact r) fun c xs r => by rw [upd_ne (ntup c xs r)]; exact r
      rcases hc with rfl | hc
      · exact hbe
      · rintro rfl
        rcases he with z | z
        · exact nown c b hc z
        · rw [hc] at z; cases z; exact hb rfl
end

/-! ### kept unless tracked; of the frames at fs (the callers') the slots may change (an exception that passes writes there); of the records at ex (iterators) nothing is said -/
structure Un (fs ex : List Addr) (H H' : Hp) (h h' : Heap) : Prop where
  keep : ∀ b o, h.get? b = some o → H b = none → b ∉ fs → b ∉ ex → h'.get? b = some o
  slot : ∀ b o, h.get? b = some o → H b = none → b ∈ fs → b ∉ ex → ∃ sl, h'.get? b = some { o with slots := sl }
  free : ∀ b o, h.get? b = some o → H b = none → b ∉ ex → H' b = none
  there : ∀ b o, h.get? b = some o → b ∉ ex → ∃ o', h'.get? b = some o'
  tups : ∀ b xs, H b = some (.tup xs) → H' b = some (.tup xs)
  frzs : ∀ b o u, H b = some (.frz o u) → H' b = some (.frz o u)
  tbls : ∀ b ps, H b = some (.tbl ps) → ∃ more, H' b = some (.tbl (ps ++ more))
section
variable {fs fs' ex ex' : List Addr} {H H1 H2 : Hp} {h h1 h2 h' : Heap} {a x e : Addr} {o : HO}
theorem Un.any (u : Un fs ex H H1 h h1) {b : Addr} {ob : Obj} (q : h.get? b = some ob) (n : H b = none) (hx : b ∉ ex) : ∃ sl, h1.get? b = some { ob with slots := sl } := by
  by_cases hb : b ∈ fs
  · exact u.slot b ob q n hb hx
  · exact ⟨ob.slots, u.keep b ob q n hb hx⟩
theorem Un.kept (k : ∀ b u, h.get? b = some u → h'.get? b = some u) : Un fs ex H H h h' :=
  ⟨fun b ob q _ _ _ => k b ob q, fun b ob q _ _ _ => ⟨ob.slots, k b ob q⟩, fun _ _ _ n _ => n, fun b ob q _ => ⟨ob, k b ob q⟩, fun _ _ q => q, fun _ _ _ q => q, fun _ ps q => ⟨#[], by rw [q]; simp⟩⟩
theorem Un.refl : Un fs ex H H h h := Un.kept fun _ _ q => q
theorem Un.laid (k : ∀ b u, h.get? b = some u → h'.get? b = some u) (hp : h.objs.size ≤ a) (hn : H a = none) : Un fs ex H (upd H a o) h h' where
  keep := fun b u q _ _ _ => k b u q
  slot := fun b u q _ _ _ => ⟨u.slots, k b u q⟩
  free := fun b u q n _ => by rw [upd_ne (Nat.ne_of_lt (Nat.lt_of_lt_of_le (Heap.lt_size q) hp))]; exact n
  there := fun b u q _ => ⟨u, k b u q⟩
  tups := fun b xs q => by rw [upd_ne (ne_of_none q hn)]; exact q
  frzs := fun b u xs q => by rw [upd_ne (ne_of_none q hn)]; exact q
  tbls := fun b ps q => ⟨#[], by rw [upd_ne (ne_of_none q hn), q]; simp⟩
theorem Un.write (mu : Mut (H x)) (he : e = x ∨ H e = some (.own x)) (k : ∀ b u, b ≠ e → h.get? b = some u → h'.get? b = some u) (heo : ∃ u, h'.get? e = some u) : Un fs ex H (upd H x o) h h' := by
  have hx : ∀ b, H b = none → b ≠ x := fun b n z => by subst z; rw [n] at mu; exact mu
  have hb : ∀ b, H b = none → b ≠ e := fun b n z => by
    subst z
    rcases he with r | r
    · exact hx b n r
    · rw [n] at r; cases r
  have hm : ∀ b u, H b = some u → ¬ Mut (some u) → b ≠ x := fun b u q nm z => by subst z; rw [q] at mu; exact nm mu
  refine ⟨fun b u q n _ _ => k b u (hb b n) q, fun b u q n _ _ => ⟨u.slots, k b u (hb b n) q⟩, fun b u q n _ => by rw [upd_ne (hx b n)]; exact n, fun b u q _ => ?_,
    fun b xs q => by rw [upd_ne (hm b _ q fun z => z)]; exact q, fun b u xs q => by rw [upd_ne (hm b _ q fun z => z)]; exact q, fun b ps q => ⟨#[], by rw [upd_ne (hm b _ q fun z => z), q]; simp⟩⟩
  by_cases hbe : b = e
  · subst hbe; exact heo
  · exact ⟨u, k b u hbe q⟩
end

/-! ### the heap without what is tracked -/
def trk (h : Heap) (H : Hp) : List Addr := (List.range h.objs.size).filter fun a => (H a).isSome
def hidT (h : Heap) (H : Hp) : Heap := PySem.W.hideAll h (trk h H)
theorem hidT_size (h : Heap) (H : Hp) : (hidT h H).objs.size = h.objs.size := PySem.W.hideAll_size _ _
theorem hidT_get {h : Heap} {H : Hp} {b : Addr} {o : Obj} (e : h.get? b = some o) (n : H b = none) : (hidT h H).get? b = some o :=
  PySem.W.hideAll_get _ e fun hm => by
    have q : (H b).isSome = true := (List.mem_filter.mp hm).2
    rw [n] at q; simp at q
theorem of_hidT {h : Heap} {H : Hp} {b : Addr} {o : Obj} (e : (hidT h H).get? b = some o) : h.get? b = some o ∧ H b = none := by
  have e' : h.get? b = some o := PySem.W.of_hideAll (trk h H) e
  refine ⟨e', ?_⟩
  cases q : H b with
  | none => rfl
  | some x =>
    have hm : b ∈ trk h H := List.mem_filter.mpr ⟨List.mem_range.mpr (Heap.lt_size e'), by simp [q]⟩
    have z : (hidT h H).get? b = none := PySem.W.hideAll_none (trk h H) hm
    rw [z] at e; cases e

/-! ### OpenK's ledger, filled with every new object but one -/
def allNews (g h : Heap) (L : Addr) : List (Addr × Obj) := (List.range h.objs.size).filterMap fun a => if a = L ∨ (g.get? a).isSome = true then none else (h.get? a).map fun o => (a, o)
def rest (g h : Heap) (L d : Addr) : List (Addr × Obj) := (allNews g h L).filter fun p => decide (p.1 ≠ d)
end L2

namespace L2
open PySem PySem.Spec PyProof.Rows

/-- the module's facts, over the base: the heap at the law's entry without what is tracked there -/
structure Mod (K : PySem.W.Frag) (mg : Str → Option Value) (base : Heap) : Prop where
  kin : K.In base
  glob : base.Ns mainGlobals mg
  blt : ∃ mb, base.Ns builtinsNs mb ∧ ∀ x : Str, x ≠ "__name__" → mb x = bootBuiltins x
  nolimit : base.NoLimit

/-- the context: a def's body (or a comprehension's block) running. base: fixed through the whole law; s₀, H₀: the entry; outer: the frames whose slots others may change (a def's callers); stack: all frames that run;
   ex: iterators that were made ahead of the entry and are walked here (a comprehension's); fn: the names whose cells were made at the entry (a def: all; a comprehension's block: its own); calm: not within an except suite; pn: pins that every state bears; xe: what is wanted of an exception that leaves the code -/
structure Cx where
  prog : Program
  w : World
  K : PySem.W.Frag
  mg : Str → Option Value
  base : Heap
  A : Around
  N : List Str
  s₀ : Shared
  H₀ : Hp
  env : Env
  outer : List Env
  stack : List Env
  ex : List Addr
  fn : Str → Bool
  calm : Bool
  pn : List (Addr × Obj)
  xe : Value → Shared → Prop
/-- the callers' frames -/
def frs (l : List Env) : List Addr := l.filterMap (·.frame)
abbrev Cx.fs (X : Cx) : List Addr := frs X.outer

def Vis (sc : Scope) (x : Str) : Prop := sc.names.lookup x = some .local ∨ sc.names.lookup x = some .cell ∨ sc.names.lookup x = some .free
def Loc (sc : Scope) (x : Str) : Prop := sc.names.lookup x = some .local ∨ sc.names.lookup x = some .cell
def Look (env : Env) (h : Heap) (m : Str → Option Value) (x : Str) (u : Value) : Prop :=
  (env.kindOf x = some .local ∧ m x = some u) ∨ ((env.kindOf x = some .cell ∨ env.kindOf x = some .free) ∧ ∃ c, env.cells.lookup x = some c ∧ h.IsCell c (some u))

structure Cx.Ok (X : Cx) : Prop where
  mod : Mod X.K X.mg X.base
  kind : X.env.scope.kind = .function
  glob : X.env.globals = mainGlobals
  blt : X.env.builtins = builtinsNs
  above : X.s₀.heap.objs.size ≤ X.env.locals
  inj : ∀ x y c, X.env.cells.lookup x = some c → X.env.cells.lookup y = some c → x = y
  has : ∀ x, (X.env.kindOf x = some .cell ∨ X.env.kindOf x = some .free) → ∃ c, X.env.cells.lookup x = some c
  cab : ∀ x c, X.fn x = true → X.env.cells.lookup x = some c → X.s₀.heap.objs.size ≤ c
  hd : X.calm = true → X.A.handled = none
  frames : X.A.frames = some X.stack
  stk : X.stack = X.outer ∨ (X.stack = X.env :: X.outer ∧ X.env.frame = some X.env.locals)
  exf : ∀ b ∈ X.ex, b ≠ X.env.locals ∧ ∀ x c, X.env.cells.lookup x = some c → c ≠ b
  bs : ∀ b o, X.base.get? b = some o → X.s₀.heap.get? b = some o ∧ X.H₀ b = none
  bsz : X.base.objs.size ≤ X.s₀.heap.objs.size
  noex : ∀ b o, X.base.get? b = some o → b ∉ X.ex
  exfs : ∀ b ∈ X.ex, b ∉ X.fs
  funs : X.s₀.heap.FunFrames X.base X.outer
  frf : ∀ b ∈ X.fs, X.H₀ b = none

structure Inv (X : Cx) (pins : List (Addr × Obj)) (σ : List (Option V)) (H : Hp) (s : Shared) : Prop where
  ok : X.Ok
  os : s.os = X.s₀.os
  bare : AllBare s.gens
  base : Un X.fs X.ex X.H₀ H X.s₀.heap s.heap
  loc : ∃ m, s.heap.Ns X.env.locals m ∧ ∀ (i : Nat) (x : Str) (v : V), X.N[i]? = some x → σ[i]? = some (some v) → Vis X.env.scope x → ∃ u, RelV v u ∧ Look X.env s.heap m x u
  cell : ∀ x c, X.env.cells.lookup x = some c → ∃ v, s.heap.IsCell c v
  free : H X.env.locals = none
  freeC : ∀ x c, X.env.cells.lookup x = some c → H c = none
  pin : ∀ p ∈ X.pn ++ pins, s.heap.get? p.1 = some p.2 ∧ H p.1 = none ∧ p.1 ≠ X.env.locals ∧ p.1 ∉ X.fs ∧ ∀ v, p.2.data ≠ .cell v
  hok : HOk X.prog X.w H s.heap
  len : σ.length = X.N.length

section
variable {X : Cx} {pins : List (Addr × Obj)} {σ : List (Option V)} {H H' : Hp} {s : Shared} {h' : Heap}

theorem Cx.Ok.nofr (ok : X.Ok) {b : Addr} {o : Obj} (e : X.base.get? b = some o) : b ∉ X.fs := fun hb => by
  have := (ok.funs.mem hb).1
  rw [e] at this; cases this
theorem Inv.bs (I : Inv X pins σ H s) : ∀ b o, X.base.get? b = some o → s.heap.get? b = some o ∧ H b = none := fun b o e =>
  ⟨I.base.keep b o (I.ok.bs b o e).1 (I.ok.bs b o e).2 (I.ok.nofr e) (I.ok.noex b o e), I.base.free b o (I.ok.bs b o e).1 (I.ok.bs b o e).2 (I.ok.noex b o e)⟩
theorem Inv.bk (I : Inv X pins σ H s) : ∀ b o, X.base.get? b = some o → s.heap.get? b = some o := fun b o e => (I.bs b o e).1
theorem Inv.mod (I : Inv X pins σ H s) : Mod X.K X.mg X.base := I.ok.mod
theorem Inv.kIn (I : Inv X pins σ H s) : X.K.In s.heap := I.ok.mod.kin.keeps I.bk
theorem Inv.lt (I : Inv X pins σ H s) : X.env.locals < s.heap.objs.size := let ⟨_, hn, _⟩ := I.loc; hn.lt
theorem Inv.sz (I : Inv X pins σ H s) : X.s₀.heap.objs.size ≤ s.heap.objs.size := Nat.le_trans I.ok.above (Nat.le_of_lt I.lt)
theorem Inv.nofs (I : Inv X pins σ H s) {a : Addr} (h : s.heap.objs.size ≤ a) : a ∉ X.fs := fun hb => by
  obtain ⟨_, o, ho, _⟩ := I.ok.funs.mem hb
  exact absurd (Nat.lt_of_lt_of_le (Heap.lt_size ho) (Nat.le_trans I.sz h)) (Nat.lt_irrefl _)
theorem Inv.cne (I : Inv X pins σ H s) : ∀ x c, X.env.cells.lookup x = some c → c ≠ X.env.locals := fun x c e z => by
  obtain ⟨v, o, ho, hd⟩ := I.cell x c e
  obtain ⟨m, ⟨o', es, ep, ho', hd', _⟩, _⟩ := I.loc
  rw [z, ho'] at ho; cases ho; rw [hd'] at hd; cases hd
theorem Inv.funs (I : Inv X pins σ H s) : s.heap.FunFrames X.base X.outer := by
  have all : ∀ (l : List Env), (∀ b ∈ frs l, b ∈ X.fs) → X.s₀.heap.FunFrames X.base l → s.heap.FunFrames X.base l := by
    intro l
    induction l with
    | nil => intro _ _; trivial
    | cons env r ih =>
      intro hs hl
      obtain ⟨hk, ⟨L, o, hf, hn, ho, hd⟩, hr⟩ := hl
      have hL : L ∈ X.fs := hs L (by unfold frs; rw [List.filterMap_cons, hf]; exact List.mem_cons_self)
      obtain ⟨sl, e⟩ := I.base.slot L o ho (I.ok.frf L hL) hL fun z => I.ok.exfs L z hL
      exact ⟨hk, ⟨L, _, hf, hn, e, hd⟩, ih (fun b hb => hs b (by unfold frs; rw [List.filterMap_cons, hf]; exact List.mem_cons_of_mem _ hb)) hr⟩
  exact all X.outer (fun _ hb => hb) I.ok.funs

/-- the frames that run, for a call -/
theorem Inv.stack (I : Inv X pins σ H s) : s.heap.FunFrames X.base X.stack := by
  rcases I.ok.stk with e | ⟨e, hf⟩
  · rw [e]; exact I.funs
  · rw [e]
    obtain ⟨m, hn, _⟩ := I.loc
    refine .cons (by rw [I.ok.kind]; decide) hf hn ?_ I.funs
    exact Heap.get?_none_of_le (Nat.le_trans I.ok.bsz I.ok.above)
theorem Inv.stkSub (I : Inv X pins σ H s) : ∀ b ∈ frs X.stack, b ∈ X.env.locals :: X.fs := fun b hb => by
  rcases I.ok.stk with e | ⟨e, hf⟩
  · rw [e] at hb; exact List.mem_cons_of_mem _ hb
  · rw [e] at hb
    unfold frs at hb
    rw [List.filterMap_cons, hf] at hb
    exact hb
theorem Inv.stkFree (I : Inv X pins σ H s) : ∀ b ∈ frs X.stack, H b = none := fun b hb => by
  rcases List.mem_cons.mp (I.stkSub b hb) with e | hb
  · rw [e]; exact I.free
  · obtain ⟨_, o, ho, _⟩ := I.ok.funs.mem hb
    exact I.base.free b o ho (I.ok.frf b hb) fun z => I.ok.exfs b z hb

/-- THE STEP: the untracked objects but the frame and the records at ch are kept (the callers' frames up to slots), the frame's map is kept, the new abstract heap is held -/
theorem Inv.step {g' : Array GenState} {t' : Nat} {d' : Drawn} {ch : List Addr} (I : Inv X pins σ H s)
    (hch : ∀ b ∈ ch, (b ∈ X.ex ∨ X.s₀.heap.objs.size ≤ b) ∧ b ≠ X.env.locals ∧ (∀ x c, X.env.cells.lookup x = some c → c ≠ b) ∧ ∀ p ∈ X.pn ++ pins, p.1 ≠ b)
    (keep : ∀ b o, b ≠ X.env.locals → b ∉ X.fs → b ∉ ch → s.heap.get? b = some o → H b = none → h'.get? b = some o)
    (slot : ∀ b o, b ≠ X.env.locals → b ∈ X.fs → b ∉ ch → s.heap.get? b = some o → H b = none → ∃ sl, h'.get? b = some { o with slots := sl }) (free : ∀ b o, b ∉ ch → s.heap.get? b = some o → H b = none → H' b = none)
    (there : ∀ b o, b ∉ ch → s.heap.get? b = some o → ∃ o', h'.get? b = some o')
    (tups : ∀ b xs, H b = some (.tup xs) → H' b = some (.tup xs)) (frzs : ∀ b o u, H b = some (.frz o u) → H' b = some (.frz o u)) (tbls : ∀ b ps, H b = some (.tbl ps) → ∃ more, H' b = some (.tbl (ps ++ more)))
    (ns : ∀ m, s.heap.Ns X.env.locals m → h'.Ns X.env.locals m) (hok : HOk X.prog X.w H' h') (hg : AllBare g') :
    Inv X pins σ H' { s with heap := h', gens := g', drawn := d', toks := t' } := by
  have neL : ∀ b o, X.s₀.heap.get? b = some o → b ≠ X.env.locals := fun b o e => Nat.ne_of_lt (Nat.lt_of_lt_of_le (Heap.lt_size e) I.ok.above)
  have neC : ∀ b o, X.s₀.heap.get? b = some o → b ∉ X.ex → b ∉ ch := fun b o e hx hb => by
    rcases (hch b hb).1 with z | z
    · exact hx z
    · exact absurd (Nat.lt_of_lt_of_le (Heap.lt_size e) z) (Nat.lt_irrefl _)
  have cellK : ∀ x c, X.env.cells.lookup x = some c → ∀ v, s.heap.IsCell c v → h'.IsCell c v := fun x c e v ⟨o, ho, hd⟩ => by
    have nch : c ∉ ch := fun z => (hch c z).2.2.1 x c e rfl
    by_cases hc : c ∈ X.fs
    · obtain ⟨sl, q⟩ := slot c o (I.cne x c e) hc nch ho (I.freeC x c e)
      exact ⟨_, q, hd⟩
    · exact ⟨o, keep c o (I.cne x c e) hc nch ho (I.freeC x c e), hd⟩
  refine ⟨I.ok, I.os, hg, ⟨fun b o e n hb hx => ?_, fun b o e n hb hx => ?_, fun b o e n hx => ?_, fun b o e hx => ?_, fun b xs e => tups b xs (I.base.tups b xs e), fun b o xs e => frzs b o xs (I.base.frzs b o xs e), fun b ps e => ?_⟩, ?_, fun x c e => ?_, ?_, fun x c e => ?_, fun p hp => ?_, hok, I.len⟩
  · exact keep b o (neL b o e) hb (neC b o e hx) (I.base.keep b o e n hb hx) (I.base.free b o e n hx)
  · obtain ⟨sl, e1⟩ := I.base.slot b o e n hb hx
    obtain ⟨sl', e2⟩ := slot b _ (neL b o e) hb (neC b o e hx) e1 (I.base.free b o e n hx)
    exact ⟨sl', e2⟩
  · obtain ⟨o', e1⟩ := I.base.there b o e hx
    exact free b o' (neC b o e hx) e1 (I.base.free b o e n hx)
  · obtain ⟨o', e1⟩ := I.base.there b o e hx
    exact there b o' (neC b o e hx) e1
  · obtain ⟨m1, e1⟩ := I.base.tbls b ps e
    obtain ⟨m2, e2⟩ := tbls b _ e1
    exact ⟨m1 ++ m2, by rw [e2, Array.append_assoc]⟩
  · obtain ⟨m, hn, hl⟩ := I.loc
    refine ⟨m, ns m hn, fun i x v e1 e2 e3 => ?_⟩
    obtain ⟨u, r, l⟩ := hl i x v e1 e2 e3
    refine ⟨u, r, ?_⟩
    rcases l with l | ⟨k, c, e, z⟩
    · exact .inl l
    · exact .inr ⟨k, c, e, cellK x c e _ z⟩
  · obtain ⟨v, z⟩ := I.cell x c e
    exact ⟨v, cellK x c e v z⟩
  · obtain ⟨m, ⟨o, _, _, ho, _⟩, _⟩ := I.loc
    exact free _ o (fun z => (hch _ z).2.1 rfl) ho I.free
  · obtain ⟨v, o, ho, hd⟩ := I.cell x c e
    exact free c o (fun z => (hch c z).2.2.1 x c e rfl) ho (I.freeC x c e)
  · obtain ⟨e, n, ne, nf, d⟩ := I.pin p hp
    have nch : p.1 ∉ ch := fun z => (hch p.1 z).2.2.2 p hp rfl
    exact ⟨keep p.1 p.2 ne nf nch e n, free p.1 p.2 nch e n, ne, nf, d⟩
/-- .. where the frame's own object is kept too -/
theorem Inv.un {t' : Nat} (I : Inv X pins σ H s) (u : Un X.fs [] H H' s.heap h') (hok : HOk X.prog X.w H' h') : Inv X pins σ H' { s with heap := h', toks := t' } := by
  obtain ⟨m, ⟨o, es, ep, ho, r⟩, _⟩ := id I.loc
  obtain ⟨sl, hL⟩ := u.any ho I.free (by simp)
  exact I.step (g' := s.gens) (d' := s.drawn) (ch := []) (fun _ z => nomatch z) (fun b o _ hb _ e n => u.keep b o e n hb (by simp)) (fun b o _ hb _ e n => u.slot b o e n hb (by simp)) (fun b o _ e n => u.free b o e n (by simp)) (fun b o _ e => u.there b o e (by simp)) u.tups u.frzs u.tbls (fun m' hm => by
    obtain ⟨o', es', ep', ho', r'⟩ := hm
    rw [ho] at ho'; cases ho'
    exact ⟨_, es', ep', hL, r'⟩) hok I.bare
/-- behind a call (or a comprehension's block): the slots of this frame may have changed too, the records at ch may have turned -/
theorem Inv.call {g' : Array GenState} {t' : Nat} {d' : Drawn} {ch : List Addr} (I : Inv X pins σ H s) (u : Un (frs X.stack) ch H H' s.heap h') (hok : HOk X.prog X.w H' h') (hg : AllBare g')
    (hch : ∀ b ∈ ch, (b ∈ X.ex ∨ X.s₀.heap.objs.size ≤ b) ∧ b ≠ X.env.locals ∧ (∀ x c, X.env.cells.lookup x = some c → c ≠ b) ∧ ∀ p ∈ X.pn ++ pins, p.1 ≠ b) :
    Inv X pins σ H' { s with heap := h', gens := g', drawn := d', toks := t' } := by
  obtain ⟨m, ⟨o, es, ep, ho, r⟩, _⟩ := id I.loc
  obtain ⟨sl, hL⟩ := u.any ho I.free fun z => (hch _ z).2.1 rfl
  exact I.step (ch := ch) hch (fun b o hL hb hc e n => u.keep b o e n (fun z => (List.mem_cons.mp (I.stkSub b z)).elim hL hb) hc) (fun b o _ _ hc e n => u.any e n hc) (fun b o hc e n => u.free b o e n hc) (fun b o hc e => u.there b o e hc) u.tups u.frzs u.tbls (fun m' hm => by
    obtain ⟨o', es', ep', ho', r'⟩ := hm
    rw [ho] at ho'; cases ho'
    exact ⟨_, es', ep', hL, r'⟩) hok hg
/-- an untracked record of ours (an iterator) has turned -/
theorem Inv.turned {t' : Nat} {it : Addr} (I : Inv X pins σ H s) (k : ∀ b o, b ≠ it → s.heap.get? b = some o → h'.get? b = some o) (hn : H it = none) (hL : it ≠ X.env.locals)
    (h1 : it ∈ X.ex ∨ X.s₀.heap.objs.size ≤ it) (h2 : ∀ x c, X.env.cells.lookup x = some c → c ≠ it) (h3 : ∀ p ∈ X.pn ++ pins, p.1 ≠ it) : Inv X pins σ H { s with heap := h', toks := t' } := by
  have nit : ∀ b u, H b = some u → b ≠ it := fun b u e z => by rw [z, hn] at e; cases e
  refine I.step (g' := s.gens) (d' := s.drawn) (ch := [it]) (fun b hb => ?_) (fun b o _ _ hc e _ => k b o (fun z => hc (by simp [z])) e) (fun b o _ _ hc e _ => ⟨o.slots, k b o (fun z => hc (by simp [z])) e⟩) (fun _ _ _ _ n => n)
    (fun b o hc e => ⟨o, k b o (fun z => hc (by simp [z])) e⟩) (fun _ _ e => e) (fun _ _ _ e => e) (fun b ps e => ⟨#[], by rw [e]; simp⟩) (fun m hm => ?_) (fun b u e => ?_) I.bare
  · have e : b = it := by simpa using hb
    subst e
    exact ⟨h1, hL, h2, h3⟩
  · obtain ⟨o, es, ep, ho, r⟩ := hm
    exact ⟨o, es, ep, k _ o (Ne.symm hL) ho, r⟩
  · refine (I.hok b u e).stay (fun c v hc q => k c v ?_ q) (fun _ q => q) fun _ _ q => q
    rcases hc with z | z
    · rw [z]; exact nit b u e
    · exact nit c _ z
theorem Inv.tok (I : Inv X pins σ H s) (t : Nat) : Inv X pins σ H { s with toks := t } := I.un (h' := s.heap) (t' := t) Un.refl I.hok
/-- all objects kept -/
theorem Inv.kept {t' : Nat} (I : Inv X pins σ H s) (k : ∀ b u, s.heap.get? b = some u → h'.get? b = some u) : Inv X pins σ H { s with heap := h', toks := t' } := I.un (Un.kept k) (I.hok.kept k)
/-- a new object laid and tracked -/
theorem Inv.laid {a : Addr} {o : HO} {t' : Nat} (I : Inv X pins σ H s) (k : ∀ b u, s.heap.get? b = some u → h'.get? b = some u) (hp : s.heap.objs.size ≤ a) (new : ObjOk X.prog X.w (upd H a o) h' a o) :
    Inv X pins σ (upd H a o) { s with heap := h', toks := t' } := I.un (Un.laid k hp (I.hok.fresh hp)) (I.hok.laid k hp new)
/-- an object written -/
theorem Inv.write {x e : Addr} {o : HO} {t' : Nat} (I : Inv X pins σ H s) (mu : Mut (H x)) (he : e = x ∨ H e = some (.own x)) (k : ∀ b u, b ≠ e → s.heap.get? b = some u → h'.get? b = some u) (heo : ∃ u, h'.get? e = some u)
    (new : ObjOk X.prog X.w (upd H x o) h' x o) : Inv X pins σ (upd H x o) { s with heap := h', toks := t' } := I.un (Un.write mu he k heo) (I.hok.write mu he k heo new)
theorem Inv.pins_of {pins' : List (Addr × Obj)} (I : Inv X pins σ H s) (h : ∀ p ∈ pins', s.heap.get? p.1 = some p.2 ∧ H p.1 = none ∧ p.1 ≠ X.env.locals ∧ p.1 ∉ X.fs ∧ ∀ v, p.2.data ≠ .cell v) : Inv X pins' σ H s :=
  ⟨I.ok, I.os, I.bare, I.base, I.loc, I.cell, I.free, I.freeC, fun p hp => (List.mem_append.mp hp).elim (fun z => I.pin p (List.mem_append_left _ z)) (h p), I.hok, I.len⟩

theorem nodup_ix {N : List Str} (hN : N.Nodup) {i j : Nat} {x : Str} (a : N[i]? = some x) (b : N[j]? = some x) : i = j := by
  obtain ⟨h1, e1⟩ := List.getElem?_eq_some_iff.mp a
  obtain ⟨h2, e2⟩ := List.getElem?_eq_some_iff.mp b
  exact (List.getElem_inj hN).mp (e1.trans e2.symm)

/-- a name is stored; what changed -/
theorem store_ok2 {M : Model} {A : Around} {E : Value → Shared → Prop} {i : Nat} {x : Str} {v : V} {u : Value} {Q : Unit → Shared → Prop} (I : Inv X pins σ H s) (hN : X.N.Nodup) (hi : X.N[i]? = some x) (hx : Loc X.env.scope x) (r : RelV v u)
    (h : ∀ s', Inv X pins (σ.set i (some v)) H s' → (∃ a, Heap.SameBut a s.heap s'.heap ∧ (a = X.env.locals ∨ X.env.cells.lookup x = some a)) → Q () s') (hf : X.fn x = true ∨ X.env.scope.names.lookup x = some .local := by first | exact .inl rfl | exact .inr rfl | assumption) : wpAny M A (storeName X.env x u) Q E s := by
  obtain ⟨m, hn, hl⟩ := id I.loc
  have hcls : (X.env.scope.kind == .class || (X.env.scope.kind == .module && X.env.locals != X.env.globals)) = false := by rw [I.ok.kind]; rfl
  have hiσ : i < σ.length := by rw [I.len]; exact (List.getElem?_eq_some_iff.mp hi).1
  have cne := I.cne
  have tracked : ∀ {a : Addr} {h' : Heap}, (∃ o, s.heap.get? a = some o ∧ H a = none) → Heap.SameBut a s.heap h' → HOk X.prog X.w H h' := fun {a h'} ha hs b ob e => by
    obtain ⟨_, _, hfree⟩ := ha
    refine (I.hok b ob e).stay (fun c w' hc q => (hs.2 c ?_).trans q) (fun _ q => q) fun _ _ q => q
    rintro rfl
    rcases hc with rfl | hc
    · rw [hfree] at e; cases e
    · rw [hfree] at hc; cases hc
  rcases hx with hk | hk
  · refine wpAny_storeName_local hk hn (fun h' hn' hs => ?_) hcls
    obtain ⟨oL, _, _, hoL, _⟩ := id hn
    refine h _ ⟨I.ok, I.os, I.bare, ⟨fun b o e n hb hx => ?_, fun b o e n hb hx => ?_, I.base.free, fun b o e hx => ?_, I.base.tups, I.base.frzs, I.base.tbls⟩, ⟨_, hn', fun j y v' e1 e2 e3 => ?_⟩, fun y c e => ?_, I.free, I.freeC, fun p hp => ?_, tracked ⟨oL, hoL, I.free⟩ hs, by simpa using I.len⟩ ⟨_, hs, .inl rfl⟩
    · exact (hs.2 b (Nat.ne_of_lt (Nat.lt_of_lt_of_le (Heap.lt_size e) I.ok.above))).trans (I.base.keep b o e n hb hx)
    · obtain ⟨sl, e1⟩ := I.base.slot b o e n hb hx
      exact ⟨sl, (hs.2 b (Nat.ne_of_lt (Nat.lt_of_lt_of_le (Heap.lt_size e) I.ok.above))).trans e1⟩
    · obtain ⟨o', e1⟩ := I.base.there b o e hx
      exact ⟨o', (hs.2 b (Nat.ne_of_lt (Nat.lt_of_lt_of_le (Heap.lt_size e) I.ok.above))).trans e1⟩
    · by_cases hj : j = i
      · subst hj
        rw [hi] at e1; cases e1
        rw [List.getElem?_set_self hiσ] at e2
        cases e2
        exact ⟨u, r, .inl ⟨hk, by simp⟩⟩
      · rw [List.getElem?_set_ne (Ne.symm hj)] at e2
        obtain ⟨u', r', q⟩ := hl j y v' e1 e2 e3
        refine ⟨u', r', ?_⟩
        rcases q with ⟨k, e⟩ | ⟨k, c, e, z⟩
        · refine .inl ⟨k, ?_⟩
          have : y ≠ x := fun e => hj (nodup_ix hN e1 (e ▸ hi))
          simp [this, e]
        · exact .inr ⟨k, c, e, z.sameBut hs (cne y c e)⟩
    · obtain ⟨w', z⟩ := I.cell y c e
      exact ⟨w', z.sameBut hs (cne y c e)⟩
    · obtain ⟨e, n, ne, nf, d⟩ := I.pin p hp
      exact ⟨(hs.2 p.1 ne).trans e, n, ne, nf, d⟩
  · have hfn : X.fn x = true := by
      rcases hf with z | z
      · exact z
      · rw [z] at hk; cases hk
    obtain ⟨c, hc⟩ := I.ok.has x (.inl hk)
    obtain ⟨w', z⟩ := I.cell x c hc
    refine wpAny_storeName_cell I.ok.kind hk hc z (fun h' hc' hs => ?_)
    obtain ⟨oc, hoc, hocd⟩ := id z
    refine h { s with heap := h' } ⟨I.ok, I.os, I.bare, ⟨fun b o e n hb hx => ?_, fun b o e n hb hx => ?_, I.base.free, fun b o e hx => ?_, I.base.tups, I.base.frzs, I.base.tbls⟩, ⟨m, hn.sameBut hs (Ne.symm (cne x c hc)), fun j y v' e1 e2 e3 => ?_⟩, fun y c' e => ?_, I.free, I.freeC, fun p hp => ?_, tracked ⟨oc, hoc, I.freeC x c hc⟩ hs, by simpa using I.len⟩ ⟨c, hs, .inr hc⟩
    · exact (hs.2 b (Nat.ne_of_lt (Nat.lt_of_lt_of_le (Heap.lt_size e) (I.ok.cab x c hfn hc)))).trans (I.base.keep b o e n hb hx)
    · obtain ⟨sl, e1⟩ := I.base.slot b o e n hb hx
      exact ⟨sl, (hs.2 b (Nat.ne_of_lt (Nat.lt_of_lt_of_le (Heap.lt_size e) (I.ok.cab x c hfn hc)))).trans e1⟩
    · obtain ⟨o', e1⟩ := I.base.there b o e hx
      exact ⟨o', (hs.2 b (Nat.ne_of_lt (Nat.lt_of_lt_of_le (Heap.lt_size e) (I.ok.cab x c hfn hc)))).trans e1⟩
    · by_cases hj : j = i
      · subst hj
        rw [hi] at e1; cases e1
        rw [List.getElem?_set_self hiσ] at e2
        cases e2
        exact ⟨u, r, .inr ⟨.inl hk, c, hc, hc'⟩⟩
      · rw [List.getElem?_set_ne (Ne.symm hj)] at e2
        obtain ⟨u', r', q⟩ := hl j y v' e1 e2 e3
        refine ⟨u', r', ?_⟩
        rcases q with q | ⟨k, c', e, z'⟩
        · exact .inl q
        · refine .inr ⟨k, c', e, z'.sameBut hs ?_⟩
          rintro rfl
          exact hj (nodup_ix hN e1 (I.ok.inj _ _ _ e hc ▸ hi))
    · by_cases hcc : c' = c
      · subst hcc; exact ⟨_, hc'⟩
      · obtain ⟨w2, z2⟩ := I.cell y c' e
        exact ⟨w2, z2.sameBut hs hcc⟩
    · obtain ⟨e, n, ne, nf, d⟩ := I.pin p hp
      refine ⟨(hs.2 p.1 ?_).trans e, n, ne, nf, d⟩
      intro q
      rw [q, hoc] at e
      have q' : oc = p.2 := Option.some.inj e
      exact d w' (by rw [← q']; exact hocd)
theorem store_ok {M : Model} {A : Around} {E : Value → Shared → Prop} {i : Nat} {x : Str} {v : V} {u : Value} {Q : Unit → Shared → Prop} (I : Inv X pins σ H s) (hN : X.N.Nodup) (hi : X.N[i]? = some x) (hx : Loc X.env.scope x) (r : RelV v u)
    (h : ∀ s', Inv X pins (σ.set i (some v)) H s' → Q () s') (hf : X.fn x = true ∨ X.env.scope.names.lookup x = some .local := by first | exact .inl rfl | exact .inr rfl | assumption) : wpAny M A (storeName X.env x u) Q E s :=
  store_ok2 I hN hi hx r (fun s' I' _ => h s' I') hf
/-- behind a call or a block, the state as it is -/
theorem Inv.call' {s' : Shared} {ch : List Addr} (I : Inv X pins σ H s) (ho : s'.os = s.os) (u : Un (frs X.stack) ch H H' s.heap s'.heap) (hok : HOk X.prog X.w H' s'.heap) (hg : AllBare s'.gens)
    (hch : ∀ b ∈ ch, (b ∈ X.ex ∨ X.s₀.heap.objs.size ≤ b) ∧ b ≠ X.env.locals ∧ (∀ x c, X.env.cells.lookup x = some c → c ≠ b) ∧ ∀ p ∈ X.pn ++ pins, p.1 ≠ b) : Inv X pins σ H' s' := by
  obtain ⟨h', g', d', t', o'⟩ := s'
  have e : o' = s.os := ho
  subst e
  exact I.call (g' := g') (t' := t') (d' := d') u hok hg hch
end

/-! ### the judgements -/
/-- an exception: its class, its own dict's address (where it has one), the abstract heap behind it -/
abbrev XK := Value → Option Addr → Hp → Prop
abbrev St := List (Option V)
abbrev VK := V → Hp → Prop
/-- an expression's reading; a test's; an argument list's -/
abbrev TE := St → Hp → VK → Prop
abbrev TT := St → Hp → (Bool → Hp → Prop) → Prop
abbrev TA := St → Hp → (List V → Hp → Prop) → Prop
/-- what is wanted behind a statement -/
structure Ends where
  nx : St → Hp → Prop
  rt : VK
  bk : St → Hp → Prop := fun _ _ => False
  ct : St → Hp → Prop := fun _ _ => False
abbrev TS := Ends → St → Hp → Prop

def EP (X : Cx) (pins : List (Addr × Obj)) (σ : St) (Q : VK) (u : Value) (s' : Shared) : Prop := ∃ v H', Inv X pins σ H' s' ∧ RelV v u ∧ Q v H'
def TP (X : Cx) (pins : List (Addr × Obj)) (σ : St) (Q : Bool → Hp → Prop) (b : Bool) (s' : Shared) : Prop := ∃ H', Inv X pins σ H' s' ∧ Q b H'
def AP (X : Cx) (pins : List (Addr × Obj)) (σ : St) (Q : List V → Hp → Prop) (us : List Value) (s' : Shared) : Prop := ∃ vs H', Inv X pins σ H' s' ∧ Vals vs us ∧ Q vs H'
def SP (X : Cx) (pins : List (Addr × Obj)) (D : Ends) (f : Flow) (s' : Shared) : Prop :=
  match f with
  | .next => ∃ σ' H', Inv X pins σ' H' s' ∧ D.nx σ' H'
  | .brk => ∃ σ' H', Inv X pins σ' H' s' ∧ D.bk σ' H'
  | .cont => ∃ σ' H', Inv X pins σ' H' s' ∧ D.ct σ' H'
  | .ret u => ∃ v σ' H', Inv X pins σ' H' s' ∧ RelV v u ∧ D.rt v H'

def PE (X : Cx) (e : Expr) (t : TE) : Prop :=
  ∀ (pins : List (Addr × Obj)) (s : Shared) (σ : St) (H : Hp) (Q : VK), Inv X pins σ H s → t σ H Q → wpAny (model X.prog X.w) X.A (eval e X.env) (EP X pins σ Q) X.xe s
def PT (X : Cx) (e : Expr) (t : TT) : Prop :=
  ∀ (pins : List (Addr × Obj)) (s : Shared) (σ : St) (H : Hp) (Q : Bool → Hp → Prop), Inv X pins σ H s → t σ H Q → wpAny (model X.prog X.w) X.A (isTrue e X.env (eval e X.env)) (TP X pins σ Q) X.xe s
/-- a test whatever its 'whole' is (and, or) -/
def PW (X : Cx) (e : Expr) (t : TT) : Prop :=
  ∀ (whole : Sem Value) (pins : List (Addr × Obj)) (s : Shared) (σ : St) (H : Hp) (Q : Bool → Hp → Prop), Inv X pins σ H s → t σ H Q → wpAny (model X.prog X.w) X.A (isTrue e X.env whole) (TP X pins σ Q) X.xe s
theorem PW.pt {X : Cx} {e : Expr} {t : TT} (h : PW X e t) : PT X e t := h _
/-- an argument list (no star), from the left -/
def PA (X : Cx) (es : List Expr) (t : TA) : Prop :=
  ∀ (pos : Pos) (pins : List (Addr × Obj)) (s : Shared) (σ : St) (H : Hp) (Q : List V → Hp → Prop), Inv X pins σ H s → t σ H Q → wpAny (model X.prog X.w) X.A (spliced (backTo pos (starEach es X.env))) (AP X pins σ Q) X.xe s
def PS (X : Cx) (st : Stmt) (t : TS) : Prop :=
  ∀ (pins : List (Addr × Obj)) (s : Shared) (σ : St) (H : Hp) (D : Ends), Inv X pins σ H s → t D σ H → wpAny (model X.prog X.w) X.A (exec st X.env) (SP X pins D) X.xe s
def PSs (X : Cx) (st : List Stmt) (t : TS) : Prop :=
  ∀ (pins : List (Addr × Obj)) (s : Shared) (σ : St) (H : Hp) (D : Ends), Inv X pins σ H s → t D σ H → wpAny (model X.prog X.w) X.A (execs st X.env) (SP X pins D) X.xe s
/-- weaken the end -/
theorem thn {α : Type} {t : Sem α} {Q Q' : α → Shared → Prop} {M : Model} {A : Around} {E : Value → Shared → Prop} {s : Shared} (h : wpAny M A t Q E s) (hQ : ∀ a s, Q a s → Q' a s) : wpAny M A t Q' E s := wpAny_mono h hQ fun _ _ x => x
end L2

namespace L2
open PySem PySem.Spec PyProof.Rows
section
variable {X : Cx}

/-! ### names and constants -/
def tVar (i : Nat) : TE := fun σ H Q => ∃ v, σ[i]? = some (some v) ∧ Q v H
def tC (v : V) : TE := fun _ H Q => Q v H
theorem pe_var {i : Nat} {x : Str} {pos : Pos} (hN : X.N[i]? = some x) (hv : Vis X.env.scope x) (hd : (x == ("__debug__" : Str)) = false := by decide) (hcd : (x == ("__classdict__" : Str)) = false := by decide) : PE X (.Name x pos) (tVar i) := by
  intro pins s σ H Q I h
  obtain ⟨v, e, h⟩ := h
  obtain ⟨m, hn, hl⟩ := I.loc
  obtain ⟨u, r, l⟩ := hl i x v hN e hv
  have fin : EP X pins σ Q u s := ⟨v, H, I, r, h⟩
  rcases l with ⟨hk, hm⟩ | ⟨hk, c, hc, hcell⟩
  · exact wpAny_Name (wpAny_loadName_local I.ok.kind hk hn hm fin) hd
  · rcases hk with hk | hk
    · exact wpAny_Name (wpAny_loadName_cell I.ok.kind hk hc hcell fin) hd
    · exact wpAny_Name (wpAny_loadName_free I.ok.kind hk hc hcell fin hcd) hd
theorem pe_int {i j pos} : PE X (.Constant (.int i) j pos) (tC (.int i)) := fun _ _ _ H _ I h => wpAny_Constant_int ⟨.int i, H, I.tok _, ⟨_, rfl⟩, h⟩
theorem pe_bl {b j pos} : PE X (.Constant (.bool b) j pos) (tC (.bl b)) := fun _ _ _ H _ I h => Constant_bool ⟨.bl b, H, I, rfl, h⟩
/-- a global name of the def -/
def Gl (X : Cx) (x : Str) : Prop := X.env.kindOf x = some .globalImplicit
theorem ld_glob {E : Value → Shared → Prop} {pins : List (Addr × Obj)} {s : Shared} {σ : St} {H : Hp} {x : Str} {u : Value} {pos : Pos} {Q : Value → Shared → Prop} (I : Inv X pins σ H s) (hg : Gl X x) (hm : X.mg x = some u) (h : Q u s)
    (hd : (x == ("__debug__" : Str)) = false := by decide) : wpAny (model X.prog X.w) X.A (eval (.Name x pos) X.env) Q E s :=
  Calls.Name_function_global I.ok.kind hg (Calls.loadGlobal_global (by rw [I.ok.glob]; exact I.mod.glob.keeps I.bk) hm h) hd
theorem ld_blt {E : Value → Shared → Prop} {pins : List (Addr × Obj)} {s : Shared} {σ : St} {H : Hp} {x : Str} {u : Value} {pos : Pos} {Q : Value → Shared → Prop} (I : Inv X pins σ H s) (hg : Gl X x) (hm : X.mg x = none) (hv : bootBuiltins x = some u) (h : Q u s)
    (hn : x ≠ "__name__" := by decide) (hd : (x == ("__debug__" : Str)) = false := by decide) : wpAny (model X.prog X.w) X.A (eval (.Name x pos) X.env) Q E s := by
  obtain ⟨mb, h1, h2⟩ := I.mod.blt
  exact Calls.Name_function_global I.ok.kind hg (Calls.loadGlobal_builtin (by rw [I.ok.glob]; exact I.mod.glob.keeps I.bk) hm (by rw [I.ok.blt]; exact h1.keeps I.bk) ((h2 x hn).trans hv) h) hd
theorem pe_bltn {x : Str} {v : V} {u : Value} {pos : Pos} (hg : Gl X x) (hm : X.mg x = none) (hv : bootBuiltins x = some u) (r : RelV v u) (hn : x ≠ "__name__" := by decide) (hd : (x == ("__debug__" : Str)) = false := by decide) : PE X (.Name x pos) (tC v) :=
  fun _ _ _ H _ I h => ld_blt I hg hm hv ⟨v, H, I, r, h⟩ hn hd

/-! ### arithmetic -/
/-- two ints -/
def t2I (ta tb : TE) (k : Int → Int → Hp → Prop) : St → Hp → Prop := fun σ H => ta σ H fun x H1 => tb σ H1 fun y H2 => ∃ i j, x = .int i ∧ y = .int j ∧ k i j H2
def tAdd (ta tb : TE) : TE := fun σ H Q => t2I ta tb (fun i j H2 => Q (.int (i + j)) H2) σ H
def tSub (ta tb : TE) : TE := fun σ H Q => t2I ta tb (fun i j H2 => Q (.int (i - j)) H2) σ H
/-- the left factor below 2^64 -/
def tMul (ta tb : TE) : TE := fun σ H Q => t2I ta tb (fun i j H2 => (-(2 ^ 64) < i ∧ i < 2 ^ 64) ∧ Q (.int (i * j)) H2) σ H
variable {a b : Expr} {ta tb : TE} {pos : Pos}
/-! ### comparisons -/
def PC (X : Cx) (op : CmpOp) (a b : Expr) (t : TE) : Prop :=
  ∀ (pins : List (Addr × Obj)) (s : Shared) (σ : St) (H : Hp) (Q : VK), Inv X pins σ H s → t σ H Q →
    wpAny (model X.prog X.w) X.A (eval a X.env) (fun v s₁ => wpAny (model X.prog X.w) X.A (eval b X.env) (fun u s₂ => wpAny (model X.prog X.w) X.A (compareOp op v u) (EP X pins σ Q) X.xe s₂) X.xe s₁) X.xe s
def tCmp (p : Int → Int → Bool) (ta tb : TE) : TE := fun σ H Q => t2I ta tb (fun i j H2 => Q (.bl (p i j)) H2) σ H
abbrev tLt : TE → TE → TE := tCmp fun i j => decide (i < j)
abbrev tLe : TE → TE → TE := tCmp fun i j => decide (i ≤ j)
abbrev tGt : TE → TE → TE := tCmp fun i j => decide (j < i)
abbrev tGe : TE → TE → TE := tCmp fun i j => decide (j ≤ i)
abbrev tEqI : TE → TE → TE := tCmp fun i j => decide (i = j)
abbrev tNeI : TE → TE → TE := tCmp fun i j => !decide (i = j)
/-- is None -/
def tIsN (ta : TE) : TE := fun σ H Q => ta σ H fun x H1 => Q (.bl (decide (x = .non))) H1
def tNotN (ta : TE) : TE := fun σ H Q => ta σ H fun x H1 => Q (.bl (!decide (x = .non))) H1
/-- a comparison as a value, as a test -/
def tB (t : TE) : TT := fun σ H Q => t σ H fun x H1 => ∃ c, x = .bl c ∧ Q c H1
/-- an expression whose value is a bool, as a test -/
theorem pt_val {e : Expr} {t : TE} (h : PE X e t) (he : ∀ whole, isTrue e X.env whole = (do let v ← whole; standAt e.pos; holding [v] (truthy v)) := by intro _; rfl) : PT X e (tB t) := by
  intro pins s σ H Q I hw
  refine isTrue_plain (thn (h pins s σ H _ I hw) fun v s1 ⟨x, H1, I1, r1, q1⟩ => ?_) (he _)
  obtain ⟨d, rfl, q⟩ := q1
  cases r1
  exact wpAny_truthy_bool ⟨H1, I1, q⟩

/-! ### and, or, not -/
variable {tA tB' : TT} {rest : List Expr}
def tAnd (t u : TT) : TT := fun σ H Q => t σ H fun c H1 => if c = true then u σ H1 Q else Q false H1
def tOr (t u : TT) : TT := fun σ H Q => t σ H fun c H1 => if c = true then Q true H1 else u σ H1 Q
def tNot (t : TT) : TT := fun σ H Q => t σ H fun c H1 => Q (!c) H1
theorem pw_and1 (ha : PT X a tA) : PW X (.BoolOp .And [a] pos) tA := by
  intro wh pins s σ H Q I h
  refine isTrue_and (thn (ha pins s σ H Q I h) fun c s1 e => ?_)
  cases c with
  | true => exact isTrue_and_nil e
  | false => exact e
theorem pw_or1 (ha : PT X a tA) : PW X (.BoolOp .Or [a] pos) tA := by
  intro wh pins s σ H Q I h
  refine isTrue_or (thn (ha pins s σ H Q I h) fun c s1 e => ?_)
  cases c with
  | false => exact isTrue_or_nil e
  | true => exact e
theorem pw_and (ha : PT X a tA) (hb : PW X (.BoolOp .And (b :: rest) pos) tB') : PW X (.BoolOp .And (a :: b :: rest) pos) (tAnd tA tB') := by
  intro wh pins s σ H Q I h
  refine isTrue_and (thn (ha pins s σ H _ I h) fun c s1 ⟨H1, I1, q1⟩ => ?_)
  cases c with
  | true => exact hb wh pins s1 σ H1 Q I1 q1
  | false => exact ⟨H1, I1, q1⟩
theorem pw_or (ha : PT X a tA) (hb : PW X (.BoolOp .Or (b :: rest) pos) tB') : PW X (.BoolOp .Or (a :: b :: rest) pos) (tOr tA tB') := by
  intro wh pins s σ H Q I h
  refine isTrue_or (thn (ha pins s σ H _ I h) fun c s1 ⟨H1, I1, q1⟩ => ?_)
  cases c with
  | true => exact ⟨H1, I1, q1⟩
  | false => exact hb wh pins s1 σ H1 Q I1 q1
theorem pt_not (ha : PT X a tA) : PT X (.UnaryOp .Not a pos) (tNot tA) := by
  intro pins s σ H Q I h
  exact isTrue_not (ha pins s σ H (fun c H1 => Q (!c) H1) I h)
/-- .. as values (bools) -/
def tAndV (ta tb : TE) : TE := fun σ H Q => ta σ H fun x H1 => ∃ c, x = .bl c ∧ if c = true then tb σ H1 Q else Q (.bl false) H1
def tOrV (ta tb : TE) : TE := fun σ H Q => ta σ H fun x H1 => ∃ c, x = .bl c ∧ if c = true then Q (.bl true) H1 else tb σ H1 Q
def tNotV (ta : TE) : TE := fun σ H Q => ta σ H fun x H1 => ∃ c, x = .bl c ∧ Q (.bl (!c)) H1
theorem pe_one {op} {t : TE} (h : PE X a t) : PE X (.BoolOp op [a] pos) t := fun pins s σ H Q I hw => BoolOp_one (h pins s σ H Q I hw)
theorem pe_and (ha : PE X a ta) (hb : PE X (.BoolOp .And (b :: rest) pos) tb) : PE X (.BoolOp .And (a :: b :: rest) pos) (tAndV ta tb) := by
  intro pins s σ H Q I h
  refine BoolOp_and (thn (ha pins s σ H _ I h) fun v s1 ⟨x, H1, I1, r1, q1⟩ => ?_)
  obtain ⟨c, rfl, q1⟩ := q1
  cases r1
  refine wpAny_truthy_bool ?_
  cases c with
  | true => exact hb pins s1 σ H1 Q I1 q1
  | false => exact ⟨.bl false, H1, I1, rfl, q1⟩
theorem pe_not (ha : PE X a ta) : PE X (.UnaryOp .Not a pos) (tNotV ta) := by
  intro pins s σ H Q I h
  refine UnaryOp_ (thn (ha pins s σ H _ I h) fun v s1 ⟨x, H1, I1, r1, q1⟩ => ?_)
  obtain ⟨c, rfl, q1⟩ := q1
  cases r1
  exact not_of (wpAny_truthy_bool ⟨.bl (!c), H1, I1, rfl, q1⟩)
/-- a if t else b -/
def tIf (t : TT) (ta tb : TE) : TE := fun σ H Q => t σ H fun c H1 => if c = true then ta σ H1 Q else tb σ H1 Q
end
end L2

namespace L2
open PySem PySem.Spec PyProof.Rows

/-! ### a list, a tuple that is read: tracked, frozen, or an object of the module -/
def SqL (K : PySem.W.Frag) (H : Hp) (a : Addr) (xs : List V) : Prop :=
  Rd H a (.lst xs) ∨
    ∃ (o : Obj) (its : Array Value) (n : Nat), K.lookup a = some o ∧ o.cls = .type "list" ∧ o.dict = none ∧ o.data = .seq its n ∧ its.size ≤ sizeLine ∧ Vals xs its.toList
def SqT (K : PySem.W.Frag) (H : Hp) (a : Addr) (xs : List V) : Prop :=
  Rd H a (.tup xs) ∨
    ∃ (o : Obj) (its : Array Value) (n : Nat), K.lookup a = some o ∧ o.cls = .type "tuple" ∧ o.data = .seq its n ∧ its.size ≤ sizeLine ∧ Vals xs its.toList
def absV : Value → Option V
  | .none => some .non
  | .bool b => some (.bl b)
  | .int i _ => some (.int i)
  | .str x _ => some (.str x)
  | .bytes b _ => some (.byt b)
  | .float b _ => some (.flt b)
  | .ref a => some (.ref a)
  | .type n => some (.ty n)
  | _ => none
theorem RelV.abs {x : V} {u : Value} (r : RelV x u) : absV u = some x := by
  cases x with
  | non => cases r; rfl
  | bl _ => cases r; rfl
  | int _ => obtain ⟨t, rfl⟩ := r; rfl
  | str _ => obtain ⟨t, rfl⟩ := r; rfl
  | byt _ => obtain ⟨t, rfl⟩ := r; rfl
  | flt _ => obtain ⟨t, rfl⟩ := r; rfl
  | ref _ => cases r; rfl
  | ty _ => cases r; rfl
theorem RelV.inj {x y : V} {u : Value} (r : RelV x u) (q : RelV y u) : x = y := Option.some.inj (r.abs.symm.trans q.abs)
theorem Vals.inj : ∀ {xs ys : List V} {us : List Value}, Vals xs us → Vals ys us → xs = ys
  | _, _, _, .nil, .nil => rfl
  | _, _, _, .cons r t, .cons r' t' => by rw [r.inj r', Vals.inj t t']
section
variable {X : Cx} {pins : List (Addr × Obj)} {σ : St} {H : Hp} {s : Shared} {a : Addr} {xs ys : List V}
theorem SqL.of {K : PySem.W.Frag} (h : H a = some (.lst xs)) : SqL K H a xs := .inl (.inl h)
theorem SqT.of {K : PySem.W.Frag} (h : H a = some (.tup xs)) : SqT K H a xs := .inl (.inl h)
theorem Inv.list (I : Inv X pins σ H s) (h : SqL X.K H a xs) : ∃ its : List Value, Vals xs its ∧ PlainL s.heap a its.toArray ∧ xs.length ≤ sizeLine := by
  rcases h with h | ⟨o, its, n, hk, hc, hd, hs, hz, r⟩
  · obtain ⟨z, its, n, r, e⟩ := h.ok I.hok
    exact ⟨its, r, ⟨_, n, e, rfl, rfl, rfl⟩, z⟩
  · refine ⟨its.toList, r, ⟨o, n, I.kIn a o hk, hc, hd, by simpa using hs⟩, ?_⟩
    have e := r.length
    simp only [Array.length_toList] at e
    omega
theorem Inv.tuple (I : Inv X pins σ H s) (h : SqT X.K H a xs) : ∃ its : List Value, Vals xs its ∧ IsTup s.heap a its.toArray ∧ xs.length ≤ sizeLine := by
  rcases h with h | ⟨o, its, n, hk, hc, hs, hz, r⟩
  · obtain ⟨z, its, r, p⟩ := h.ok I.hok
    exact ⟨its, r, p, z⟩
  · refine ⟨its.toList, r, ⟨o, I.kIn a o hk, hc, n, by simpa using hs⟩, ?_⟩
    have e := r.length
    simp only [Array.length_toList] at e
    omega
theorem Inv.list_inj (I : Inv X pins σ H s) (h : SqL X.K H a xs) (h' : SqL X.K H a ys) : xs = ys := by
  obtain ⟨its, r, ⟨o, n, e, _, _, d⟩, _⟩ := I.list h
  obtain ⟨its', r', ⟨o', n', e', _, _, d'⟩, _⟩ := I.list h'
  rw [e] at e'; cases e'
  rw [d] at d'
  injection d' with d1 _
  have : its = its' := by simpa using congrArg Array.toList d1
  subst this
  exact r.inj r'
theorem Inv.tuple_inj (I : Inv X pins σ H s) (h : SqT X.K H a xs) (h' : SqT X.K H a ys) : xs = ys := by
  obtain ⟨its, r, ⟨o, e, _, n, d⟩, _⟩ := I.tuple h
  obtain ⟨its', r', ⟨o', e', _, n', d'⟩, _⟩ := I.tuple h'
  rw [e] at e'; cases e'
  rw [d] at d'
  injection d' with d1 _
  have : its = its' := by simpa using congrArg Array.toList d1
  subst this
  exact r.inj r'
end

/-! ### another wish about exceptions -/
abbrev Cx.wish (X : Cx) (E : Value → Shared → Prop) : Cx := { X with xe := E }
/-- no exception leaves -/
abbrev Cx.nox (X : Cx) : Cx := X.wish fun _ _ => False
theorem Cx.Ok.wish {X : Cx} (ok : X.Ok) (E : Value → Shared → Prop) : (X.wish E).Ok :=
  ⟨ok.mod, ok.kind, ok.glob, ok.blt, ok.above, ok.inj, ok.has, ok.cab, ok.hd, ok.frames, ok.stk, ok.exf, ok.bs, ok.bsz, ok.noex, ok.exfs, ok.funs, ok.frf⟩
theorem Cx.Ok.unwish {X : Cx} {E : Value → Shared → Prop} (ok : (X.wish E).Ok) : X.Ok :=
  ⟨ok.mod, ok.kind, ok.glob, ok.blt, ok.above, ok.inj, ok.has, ok.cab, ok.hd, ok.frames, ok.stk, ok.exf, ok.bs, ok.bsz, ok.noex, ok.exfs, ok.funs, ok.frf⟩
section
variable {X : Cx} {pins : List (Addr × Obj)} {σ : St} {H : Hp} {s : Shared} {E : Value → Shared → Prop}
theorem Inv.wish (I : Inv X pins σ H s) (E : Value → Shared → Prop) : Inv (X.wish E) pins σ H s := ⟨I.ok.wish E, I.os, I.bare, I.base, I.loc, I.cell, I.free, I.freeC, I.pin, I.hok, I.len⟩
theorem Inv.unwish (I : Inv (X.wish E) pins σ H s) : Inv X pins σ H s := ⟨I.ok.unwish, I.os, I.bare, I.base, I.loc, I.cell, I.free, I.freeC, I.pin, I.hok, I.len⟩
theorem SP.unwish {D : Ends} {f : Flow} {s' : Shared} (h : SP (X.wish E) pins D f s') : SP X pins D f s' := by
  cases f with
  | next => obtain ⟨σ', H', I, q⟩ := h; exact ⟨σ', H', I.unwish, q⟩
  | brk => obtain ⟨σ', H', I, q⟩ := h; exact ⟨σ', H', I.unwish, q⟩
  | cont => obtain ⟨σ', H', I, q⟩ := h; exact ⟨σ', H', I.unwish, q⟩
  | ret u => obtain ⟨v, σ', H', I, r, q⟩ := h; exact ⟨v, σ', H', I.unwish, r, q⟩
theorem PSs.nox {st : List Stmt} {t : TS} (h : PSs X.nox st t) : PSs X st t := fun pins s σ H D I hw =>
  wpAny_mono (h pins s σ H D (I.wish _) hw) (fun _ _ q => q.unwish) fun _ _ z => False.elim z
end

/-! ### blocks and small statements -/
section
variable {X : Cx} {st : Stmt} {rest : List Stmt} {t u : TS} {e : Expr} {te : TE} {pos : Pos}
def tNext : TS := fun D σ H => D.nx σ H
def tSeq (t u : TS) : TS := fun D σ H => t { D with nx := u D } σ H
theorem pss_nil : PSs X [] tNext := fun _ _ σ H _ I h => wpAny_execs_nil ⟨σ, H, I, h⟩
theorem pss_cons (h1 : PS X st t) (h2 : PSs X rest u) : PSs X (st :: rest) (tSeq t u) := by
  intro pins s σ H D I h
  refine wpAny_execs_cons (thn (h1 pins s σ H { D with nx := u D } I h) fun f s1 q => ?_)
  cases f with
  | next =>
    obtain ⟨σ', H', I', q⟩ := q
    exact h2 pins s1 σ' H' D I' q
  | ret v => exact q
  | brk => exact q
  | cont => exact q
theorem pss_one (h1 : PS X st t) : PSs X [st] t := by
  intro pins s σ H D I h
  refine wpAny_execs_cons (thn (h1 pins s σ H D I h) fun f s1 q => ?_)
  cases f with
  | next => exact wpAny_execs_nil q
  | ret v => exact q
  | brk => exact q
  | cont => exact q
def tBreak : TS := fun D σ H => D.bk σ H
def tCont : TS := fun D σ H => D.ct σ H
/-- in a def's body nothing is shown -/
theorem Inv.quiet {pins : List (Addr × Obj)} {σ : St} {H : Hp} {s : Shared} (I : Inv X pins σ H s) : interactive X.env = false := by simp [interactive, I.ok.kind]
/-- an expression whose value is dropped -/
def tDrop (te : TE) : TS := fun D σ H => te σ H fun _ H1 => D.nx σ H1
theorem ps_expr (he : PE X e te) (hs : swapsWith e none pos.line X.env = pure false := by rfl) : PS X (.Expr e pos) (tDrop te) := by
  intro pins s σ H D I h
  exact wpAny_Expr_any (thn (he pins s σ H _ I h) fun v s1 ⟨x, H1, I1, r1, q1⟩ => ⟨σ, H1, I1, q1⟩) I.quiet hs
def tRet (te : TE) : TS := fun D σ H => te σ H D.rt
theorem ps_ret (he : PE X e te) : PS X (.Return (some e) pos) (tRet te) := by
  intro pins s σ H D I h
  exact wpAny_Return_some (thn (he pins s σ H _ I h) fun v s1 ⟨x, H1, I1, r1, q1⟩ => ⟨x, σ, H1, I1, r1, q1⟩)
def tRetN : TS := fun D _ H => D.rt .non H
def tIfS (c : TT) (t u : TS) : TS := fun D σ H => c σ H fun b H1 => if b = true then t D σ H1 else u D σ H1
theorem ps_if {c : Expr} {a b : List Stmt} {tc : TT} (hc : PT X c tc) (ha : PSs X a t) (hb : PSs X b u) : PS X (.If c a b pos) (tIfS tc t u) := by
  intro pins s σ H D I h
  refine wpAny_If (thn (hc pins s σ H _ I h) fun d s1 ⟨H1, I1, q1⟩ => ?_)
  cases d with
  | true => exact ha pins s1 σ H1 D I1 q1
  | false => exact hb pins s1 σ H1 D I1 q1
/-- code that the proof never comes to -/
def tNever : TS := fun _ _ _ => False
end

/-! ### targets -/
abbrev TG := V → St → Hp → (St → Hp → Prop) → Prop
abbrev TGs := List V → St → Hp → (St → Hp → Prop) → Prop
def PG (X : Cx) (target : Expr) (t : TG) : Prop :=
  ∀ (pins : List (Addr × Obj)) (s : Shared) (σ : St) (H : Hp) (v : V) (u : Value) (Q : St → Hp → Prop), Inv X pins σ H s → RelV v u → t v σ H Q →
    wpAny (model X.prog X.w) X.A (assign target X.env u) (fun _ s' => ∃ σ' H', Inv X pins σ' H' s' ∧ Q σ' H') X.xe s
/-- several targets, one after another -/
def PGs (X : Cx) (ts : List Expr) (t : TGs) : Prop :=
  ∀ (pins : List (Addr × Obj)) (s : Shared) (σ : St) (H : Hp) (vs : List V) (us : List Value) (Q : St → Hp → Prop), Inv X pins σ H s → Vals vs us → t vs σ H Q →
    wpAny (model X.prog X.w) X.A (assignInOrder ((assignEach ts X.env).map (·.2)) us) (fun _ s' => ∃ σ' H', Inv X pins σ' H' s' ∧ Q σ' H') X.xe s
/-- o[i] = v, by values -/
abbrev TSet := V → V → V → Hp → (Hp → Prop) → Prop
def PSet (X : Cx) (t : TSet) : Prop :=
  ∀ (pins : List (Addr × Obj)) (s : Shared) (σ : St) (H : Hp) (o i v : V) (ov iv u : Value) (Q : Hp → Prop), Inv X pins σ H s → RelV o ov → RelV i iv → RelV v u → t o i v H Q →
    wpAny (model X.prog X.w) X.A (setItem ov iv u) (fun _ s' => ∃ H', Inv X pins σ H' s' ∧ Q H') X.xe s
/-- a op= b, by values -/
abbrev TIp := V → V → Hp → VK → Prop
def PIp (X : Cx) (op : Operator) (t : TIp) : Prop :=
  ∀ (pins : List (Addr × Obj)) (s : Shared) (σ : St) (H : Hp) (x y : V) (v u : Value) (Q : VK), Inv X pins σ H s → RelV x v → RelV y u → t x y H Q →
    wpAny (model X.prog X.w) X.A (inplaceOp op v u) (EP X pins σ Q) X.xe s
section
variable {X : Cx} {pos : Pos}
def gName (i : Nat) : TG := fun v σ H Q => Q (σ.set i (some v)) H
theorem pg_name {i : Nat} {x : Str} (hN : X.N.Nodup) (hi : X.N[i]? = some x) (hx : Loc X.env.scope x) (hf : X.fn x = true ∨ X.env.scope.names.lookup x = some .local := by first | exact .inl rfl | exact .inr rfl | assumption) : PG X (.Name x pos) (gName i) := by
  intro pins s σ H v u Q I r h
  exact wpAny_assign_Name (store_ok I hN hi hx r (fun s' I' => ⟨_, H, I', h⟩) hf)
def gNil : TGs := fun vs σ H Q => vs = [] ∧ Q σ H
def gCons (t : TG) (u : TGs) : TGs := fun vs σ H Q => ∃ v r, vs = v :: r ∧ t v σ H fun σ' H' => u r σ' H' Q
theorem pgs_nil : PGs X [] gNil := by
  intro pins s σ H vs us Q I r h
  obtain ⟨e, h⟩ := h
  subst e
  cases r
  exact assignInOrder_nil ⟨σ, H, I, h⟩
theorem pgs_cons {e : Expr} {es : List Expr} {t : TG} {u : TGs} (h1 : PG X e t) (h2 : PGs X es u)
    (hs : (assignEach (e :: es) X.env).map (·.2) = assign e X.env :: (assignEach es X.env).map (·.2) := by rfl) : PGs X (e :: es) (gCons t u) := by
  intro pins s σ H vs us Q I r h
  obtain ⟨v, vr, e1, h⟩ := h
  subst e1
  cases r with
  | cons r rr =>
    rw [hs]
    refine assignInOrder_cons (thn (h1 pins s σ H _ _ _ I r h) fun _ s1 ⟨σ1, H1, I1, q1⟩ => ?_)
    exact h2 pins s1 σ1 H1 _ _ Q I1 rr q1
/-- (a, b, ..) = a tuple of that length -/
def gTup (K : PySem.W.Frag) (n : Nat) (t : TGs) : TG := fun v σ H Q => ∃ a xs, v = .ref a ∧ SqT K H a xs ∧ xs.length = n ∧ t xs σ H Q
theorem pg_tup {es : List Expr} {k : Nat} {t : TGs} {n : Nat} (hc : X.calm = true) (h : PGs X es t)
    (hn : (assignEach es X.env).length = n := by rfl) (hst : (assignEach es X.env).findIdx? (·.1) = none := by rfl) : PG X (.Tuple es k pos) (gTup X.K n t) := by
  intro pins s σ H v u Q I r hw
  obtain ⟨a, xs, e1, hq, hl, hw⟩ := hw
  subst e1
  cases r
  obtain ⟨its, rv, ht, hz⟩ := I.tuple hq
  refine assign_Tuple_tuple (I.ok.hd hc) ht (by simp [hn, ← hl, rv.length]) hst fun h' hx => ?_
  have I1 : Inv X pins σ H { s with heap := h' } := I.kept (t' := s.toks) fun b o e => hx b o (Nat.ne_of_lt (Heap.lt_size e)) e
  exact h pins _ σ H xs _ Q I1 (by simpa using rv) hw
/-- o[i] = .. -/
def gSub (to ti : TE) (t : TSet) : TG := fun v σ H Q => to σ H fun o H1 => ti σ H1 fun i H2 => t o i v H2 fun H3 => Q σ H3
/-- target = value -/
def tAsg (te : TE) (g : TG) : TS := fun D σ H => te σ H fun x H1 => g x σ H1 D.nx
/-- name = value -/
theorem ps_set {i : Nat} {x : Str} {e : Expr} {te : TE} {pos' : Pos} (hN : X.N.Nodup) (hi : X.N[i]? = some x) (hx : Loc X.env.scope x) (he : PE X e te) (hs : swapsWith e (some (.Name x pos')) pos.line X.env = pure false := by rfl) (hf : X.fn x = true ∨ X.env.scope.names.lookup x = some .local := by first | exact .inl rfl | exact .inr rfl | assumption) :
    PS X (.Assign [.Name x pos'] e pos) (tAsg te (gName i)) := by
  intro pins s σ H D I h
  refine wpAny_Assign_Name (thn (he pins s σ H _ I h) fun v s1 ⟨y, H1, I1, r1, q1⟩ => ?_) hs
  exact store_ok I1 hN hi hx r1 (fun s2 I2 => ⟨_, H1, I2, q1⟩) hf
/-- a, b = x, y with plain local names: stored from the right; the pair itself is not tracked (the opening rows as in PyProof/Rows/TupAssign.lean:23) -/
def tPar (i j : Nat) (ta : TA) : TS := fun D σ H => ta σ H fun vs H1 => ∃ v w, vs = [v, w] ∧ D.nx ((σ.set i (some v)).set j (some w)) H1
/-- name op= e -/
def tAug (i : Nat) (te : TE) (ti : TIp) : TS := fun D σ H => ∃ x, σ[i]? = some (some x) ∧ te σ H fun y H1 => ti x y H1 fun z H2 => D.nx (σ.set i (some z)) H2
/-- o[i] op= e -/
def tAugS (to ti te : TE) (tget : V → V → Hp → VK → Prop) (tip : TIp) (tset : TSet) : TS := fun D σ H => to σ H fun o H1 => ti σ H1 fun i H2 => tget o i H2 fun x H3 => te σ H3 fun y H4 => tip x y H4 fun z H5 => tset o i z H5 fun H6 => D.nx σ H6
/-- o[i], by values -/
def PGet (X : Cx) (t : V → V → Hp → VK → Prop) : Prop :=
  ∀ (pins : List (Addr × Obj)) (s : Shared) (σ : St) (H : Hp) (o i : V) (ov iv : Value) (Q : VK), Inv X pins σ H s → RelV o ov → RelV i iv → t o i H Q →
    wpAny (model X.prog X.w) X.A (getItem ov iv) (EP X pins σ Q) X.xe s
/-- ints -/
def ipI (f : Int → Int → Int) : TIp := fun x y H Q => ∃ i j, x = .int i ∧ y = .int j ∧ Q (.int (f i j)) H
end

/-! ### while -/
section
variable {X : Cx} {pos : Pos}
/-- the invariant W with its measure -/
def tWhile (c : TT) (tb : TS) : TS := fun D σ H => ∃ W : Nat → St → Hp → Prop, (∃ m, W m σ H) ∧ ∀ m σ H, W m σ H →
  c σ H fun b H1 => if b = true then ∃ N : St → Hp → Prop, (∀ σ' H', N σ' H' → ∃ m', m' < m ∧ W m' σ' H') ∧ tb { D with nx := N, ct := N, bk := D.nx } σ H1 else D.nx σ H1
theorem ps_while {c : Expr} {body : List Stmt} {tc : TT} {tb : TS} (hp : PassesOwn (model X.prog X.w) X.A X.env X.xe) (hc : PT X c tc) (hb : PSs X body tb) : PS X (.While c body [] pos) (tWhile tc tb) := by
  intro pins s σ H D I h
  obtain ⟨W, ⟨m0, w0⟩, turn⟩ := h
  refine wpAny_While (codeAny_whileLoop (fun n s' => ∃ σ' H', Inv X pins σ' H' s' ∧ W n σ' H') ?_ m0 ⟨σ, H, I, w0⟩)
  rintro n s1 ⟨σ1, H1, I1, w1⟩
  refine wpAny_passesOwn hp (thn (hc pins s1 σ1 H1 _ I1 (turn n σ1 H1 w1)) fun b s2 ⟨H2, I2, q2⟩ => ?_)
  cases b with
  | true =>
    obtain ⟨N, hN, q2⟩ := q2
    rw [if_pos rfl]
    refine wpAny_passesOwn hp (thn (hb pins s2 σ1 H2 _ I2 q2) fun f s3 q3 => ?_)
    cases f with
    | next =>
      obtain ⟨σ3, H3, I3, n3⟩ := q3
      obtain ⟨m', hm, w3⟩ := hN σ3 H3 n3
      exact ⟨m', hm, σ3, H3, I3, w3⟩
    | cont =>
      obtain ⟨σ3, H3, I3, n3⟩ := q3
      obtain ⟨m', hm, w3⟩ := hN σ3 H3 n3
      exact ⟨m', hm, σ3, H3, I3, w3⟩
    | brk => exact q3
    | ret v => exact q3
  | false =>
    rw [if_neg Bool.false_ne_true]
    exact wpAny_execs_nil ⟨σ1, H2, I2, q2⟩
end

/-! ### what a loop or a comprehension walks -/
/-- at turn i: it yields x (the heap may grow), or it stops -/
structure It where
  go : Nat → Hp → Prop
  yld : Nat → Hp → V → Hp → Prop
  stop : Nat → Hp → Prop
/-- the iterator's own objects may turn: they are not the frame's, not pinned, younger than the entry (or a comprehension's own) -/
def FpOk (X : Cx) (pins : List (Addr × Obj)) (H : Hp) (b : Addr) : Prop :=
  H b = none ∧ b ≠ X.env.locals ∧ b ∉ X.fs ∧ (b ∈ X.ex ∨ X.s₀.heap.objs.size ≤ b) ∧ (∀ x c, X.env.cells.lookup x = some c → c ≠ b) ∧ ∀ p ∈ X.pn ++ pins, p.1 ≠ b
theorem Inv.fpOk {X : Cx} {pins : List (Addr × Obj)} {σ : St} {H H' : Hp} {s : Shared} {b : Addr} (I : Inv X pins σ H s) (hb : s.heap.objs.size ≤ b) (hn : H' b = none) : FpOk X pins H' b := by
  refine ⟨hn, Nat.ne_of_gt (Nat.lt_of_lt_of_le I.lt hb), I.nofs hb, .inr (Nat.le_trans I.sz hb), fun x c e z => ?_, fun p hp z => ?_⟩
  · obtain ⟨v, q⟩ := I.cell x c e
    exact absurd (Nat.lt_of_lt_of_le q.lt (by rw [z]; exact hb)) (Nat.lt_irrefl _)
  · exact absurd (Nat.lt_of_lt_of_le (Heap.lt_size (I.pin p hp).1) (by rw [z]; exact hb)) (Nat.lt_irrefl _)
structure Turn (P : Program) (w : World) (K : PySem.W.Frag) (tg : Expr) (J : It) (fp : List Addr) (it : Addr) (tn : Nat → Heap → Prop) : Prop where
  mem : it ∈ fp
  obj : ∀ i h, tn i h → ∀ b ∈ fp, ∃ o, h.get? b = some o ∧ ∀ v, o.data ≠ .cell v
  keep : ∀ i h h', tn i h → (∀ b ∈ fp, ∀ o, h.get? b = some o → h'.get? b = some o) → tn i h'
  item : ∀ (X : Cx), X.prog = P → X.w = w → X.K = K → X.calm = true → ∀ (i : Nat) (pins : List (Addr × Obj)) (s : Shared) (σ : St) (H : Hp) (E : Value → Shared → Prop), Inv X pins σ H s → (∀ b ∈ fp, FpOk X pins H b) → tn i s.heap → J.go i H →
    wpAny (model P w) X.A (pyNext (.ref it)) (fun r s1 => ∃ u, r = some u ∧
      wpAny (model P w) X.A (letOwnedTupleGo tg (.ref it) u) (fun _ s2 => ∃ x H', Inv X pins σ H' s2 ∧ RelV x u ∧ J.yld i H x H' ∧ tn (i + 1) s2.heap ∧ ∀ b ∈ fp, H' b = none) E s1) E s
  done : ∀ (X : Cx), X.prog = P → X.w = w → X.K = K → X.calm = true → ∀ (i : Nat) (pins : List (Addr × Obj)) (s : Shared) (σ : St) (H : Hp) (E : Value → Shared → Prop), Inv X pins σ H s → (∀ b ∈ fp, FpOk X pins H b) → tn i s.heap → J.stop i H →
    wpAny (model P w) X.A (pyNext (.ref it)) (fun r s1 => r = none ∧ Inv X pins σ H s1) E s
  self : ∀ (A : Around) (i : Nat) (s : Shared) (Q : Value → Shared → Prop) (E : Value → Shared → Prop), tn i s.heap → Q (.ref it) s → wpAny (model P w) A (pyIter (.ref it)) Q E s
abbrev TI := St → Hp → (It → Hp → Prop) → Prop
/-- an iterator has come -/
def PIE (X : Cx) (pins : List (Addr × Obj)) (σ : St) (tg : Expr) (R : It → Hp → Prop) (itv : Value) (s2 : Shared) : Prop :=
  ∃ (it : Addr) (fp : List Addr) (tn : Nat → Heap → Prop) (J : It) (H' : Hp), itv = .ref it ∧ Inv X pins σ H' s2 ∧ Turn X.prog X.w X.K tg J fp it tn ∧ tn 0 s2.heap ∧ (∀ b ∈ fp, FpOk X pins H' b) ∧ R J H'
def PI (X : Cx) (tg iter : Expr) (wi : TI) : Prop :=
  ∀ (pins : List (Addr × Obj)) (s : Shared) (σ : St) (H : Hp) (R : It → Hp → Prop), Inv X pins σ H s → wi σ H R →
    wpAny (model X.prog X.w) X.A (eval iter X.env) (fun v s1 => wpAny (model X.prog X.w) X.A (pyIter v) (PIE X pins σ tg R) X.xe s1) X.xe s

/-- the step ahead of the store is nothing for an iterator that keeps no tuple -/
theorem go_of {M : Model} {A : Around} {E : Value → Shared → Prop} {s : Shared} {tg : Expr} {it : Addr} {u : Value} {o : Obj} {n : String} {vs : Array Value} {Q : Unit → Shared → Prop} (ho : s.heap.get? it = some o) (hc : o.cls = .type n) (hd : o.data = .fields vs)
    (hn : ["enumerate", "zip", "dict_itemiterator", "dict_reverseitemiterator", "odict_iterator", "itertools.zip_longest", "itertools.pairwise"].contains n = false) (hQ : Q () s) : wpAny M A (letOwnedTupleGo tg (.ref it) u) Q E s := by
  unfold letOwnedTupleGo
  cases tg <;> first
    | exact wpAny_pure hQ
    | (cases u <;> first
        | exact wpAny_pure hQ
        | (refine wpAny_bind (wpAny_load ho ?_)
           rw [hc, hd]
           show wpAny M A (if (["enumerate", "zip", "dict_itemiterator", "dict_reverseitemiterator", "odict_iterator", "itertools.zip_longest", "itertools.pairwise"].contains n && vs[0]? == some (rawInt _)) = true then _ else _) Q E s
           rw [if_neg (by intro h; rw [hn, Bool.false_and] at h; cases h)]
           exact wpAny_pure hQ))

/-- the list at a, as it stands at each turn (a loop may append to it) -/
def Itl (K : PySem.W.Frag) (a : Addr) : It :=
  ⟨fun i H => ∃ xs x, SqL K H a xs ∧ xs[i]? = some x, fun i H x H' => H' = H ∧ ∀ xs, SqL K H a xs → xs[i]? = some x, fun i H => ∃ xs, SqL K H a xs ∧ xs.length ≤ i⟩
def Itt (K : PySem.W.Frag) (a : Addr) : It :=
  ⟨fun i H => ∃ xs x, SqT K H a xs ∧ xs[i]? = some x, fun i H x H' => H' = H ∧ ∀ xs, SqT K H a xs → xs[i]? = some x, fun i H => ∃ xs, SqT K H a xs ∧ xs.length ≤ i⟩
/-- lo, lo + 1, .. (n of them) -/
def Itr (lo : Int) (n : Nat) : It := ⟨fun i _ => i < n, fun i H x H' => H' = H ∧ x = .int (lo + i), fun i _ => n ≤ i⟩
theorem turn_list {P : Program} {w : World} {K : PySem.W.Frag} {tg : Expr} (a it : Addr) : Turn P w K tg (Itl K a) [it] it (fun i h => h.IsListIter it a i) where
  mem := by simp
  obj := fun i h st b hb => by
    have e : b = it := by simpa using hb
    subst e
    obtain ⟨o, e, c, d⟩ := st
    exact ⟨o, e, fun v z => by rw [d] at z; cases z⟩
  keep := fun i h h' st k => st.at fun o e => k it (by simp) o e
  item := by
    intro X hP hw hK hc i pins s σ H E I hf st hg
    subst hP hw hK
    obtain ⟨xs, x, hq, hx⟩ := hg
    obtain ⟨its, rv, p, hz⟩ := I.list hq
    obtain ⟨u, hu, ru⟩ := rv.get hx
    obtain ⟨f0, f1, f2, f3, f4, f5⟩ := hf it (by simp)
    refine wpAny_pyNext_list_item st p.isList (x := u) (by simpa using hu) fun h' st' sb => ?_
    have I1 : Inv X pins σ H { s with heap := h' } := I.turned (t' := s.toks) (fun b o hb e => (sb.2 b hb).trans e) f0 f1 f3 f4 f5
    obtain ⟨o, e, c, d⟩ := id st'
    exact ⟨u, rfl, go_of (s := { s with heap := h' }) e c d (by decide) ⟨x, H, I1, ru, ⟨rfl, fun ys hy => by rw [I.list_inj hy hq]; exact hx⟩, st', fun b hb => (hf b hb).1⟩⟩
  done := by
    intro X hP hw hK hc i pins s σ H E I hf st hg
    subst hP hw hK
    obtain ⟨xs, hq, hx⟩ := hg
    obtain ⟨its, rv, p, hz⟩ := I.list hq
    obtain ⟨f0, f1, f2, f3, f4, f5⟩ := hf it (by simp)
    have hl := rv.length
    exact wpAny_pyNext_list_end (I.ok.hd hc) st p.isList (by simp; omega) fun h' eb => ⟨rfl, I.turned (t' := s.toks) (fun b o hb e => eb b o hb e) f0 f1 f3 f4 f5⟩
  self := fun _ _ _ _ _ st h => wpAny_pyIter_listiter st h
theorem turn_range {P : Program} {w : World} {K : PySem.W.Frag} {tg : Expr} (it : Addr) (lo : Int) (n : Nat) : Turn P w K tg (Itr lo n) [it] it (fun i h => IsRangeIter h it (lo + (i : Nat) * 1) ((n : Int) - (i : Nat)) 1) where
  mem := by simp
  obj := fun i h st b hb => by
    have e : b = it := by simpa using hb
    subst e
    exact ⟨_, st, fun v z => by
      have z' : Data.fields _ = Data.cell v := z
      cases z'⟩
  keep := fun i h h' st k => k it (by simp) _ st
  item := by
    intro X hP hw hK hc i pins s σ H E I hf st hg
    subst hP hw hK
    obtain ⟨f0, f1, f2, f3, f4, f5⟩ := hf it (by simp)
    have W := Walks.range (prog := X.prog) (w := X.w) (I.ok.hd hc) it lo 1 n
    refine W.item i s _ _ hg st fun v h' tk hv st' kk => ?_
    obtain ⟨t, rfl⟩ := hv
    have I1 : Inv X pins σ H { s with heap := h', toks := tk } := I.turned (fun b o hb e => kk b o (by simpa using hb) e) f0 f1 f3 f4 f5
    refine ⟨_, rfl, go_of (s := { s with heap := h', toks := tk }) (n := "range_iterator") st' rfl rfl (by decide) ⟨.int (lo + i), H, I1, ⟨t, ?_⟩, ⟨rfl, rfl⟩, st', fun b hb => (hf b hb).1⟩⟩
    rw [Int.mul_one]
  done := by
    intro X hP hw hK hc i pins s σ H E I hf st hg
    subst hP hw hK
    obtain ⟨f0, f1, f2, f3, f4, f5⟩ := hf it (by simp)
    exact wpAny_pyNext_range_end (I.ok.hd hc) st (by have : n ≤ i := hg; omega) fun h' eb => ⟨rfl, I.turned (t' := s.toks) (fun b o hb e => eb b o hb e) f0 f1 f3 f4 f5⟩
  self := fun _ _ _ _ _ st h => wpAny_pyIter_rangeiter st h
end L2

namespace L2
open PySem PySem.Spec PyProof.Rows
section
variable {X : Cx} {tg : Expr}
def iList (K : PySem.W.Frag) (tl : TE) : TI := fun σ H R => tl σ H fun x H1 => ∃ a, x = .ref a ∧ (∃ xs, SqL K H1 a xs) ∧ R (Itl K a) H1
def iTup (K : PySem.W.Frag) (tl : TE) : TI := fun σ H R => tl σ H fun x H1 => ∃ a, x = .ref a ∧ (∃ xs, SqT K H1 a xs) ∧ R (Itt K a) H1
theorem pi_list {l : Expr} {tl : TE} (hl : PE X l tl) : PI X tg l (iList X.K tl) := by
  intro pins s σ H R I h
  refine thn (hl pins s σ H _ I h) fun v s1 ⟨x, H1, I1, r1, q1⟩ => ?_
  obtain ⟨a, e, ⟨xs, hq⟩, q⟩ := q1
  subst e
  cases r1
  obtain ⟨its, rv, p, hz⟩ := I1.list hq
  refine wpAny_pyIter_list p.isList ?_
  refine ⟨s1.heap.objs.size, [s1.heap.objs.size], _, _, H1, rfl, I1.kept (t' := s1.toks) fun b o e => Heap.get?_push_of_some _ e, turn_list a _, ⟨_, Heap.get?_push_size _ rfl, rfl, rfl⟩, fun b hb => ?_, q⟩
  have e : b = s1.heap.objs.size := by simpa using hb
  subst e
  exact I1.fpOk (Nat.le_refl _) (I1.hok.fresh (Nat.le_refl _))
/-- a range object just made, walked -/
theorem range_it {pins : List (Addr × Obj)} {σ : St} {H : Hp} {s : Shared} {R : It → Hp → Prop} {E : Value → Shared → Prop} {lo hi : Int} {t u v : Tok} {tk : Nat} (I : Inv X pins σ H s) (h1 : -(2 ^ 62) ≤ lo) (h2 : lo < 2 ^ 62) (h3 : -(2 ^ 62) ≤ hi) (h4 : hi < 2 ^ 62)
    (q : R (Itr lo (hi - lo).toNat) H) : wpAny (model X.prog X.w) X.A (pyIter (.ref s.heap.objs.size)) (PIE X pins σ tg R) E { s with heap := s.heap.push { cls := .type "range", data := .fields #[.int lo t, .int hi u, .int 1 v] }, toks := tk } := by
  refine wpAny_pyIter_range (IsRange.new ..) (small_one h1 h2 h3 h4) ?_
  have I1 : Inv X pins σ H { s with heap := s.heap.push { cls := .type "range", data := .fields #[.int lo t, .int hi u, .int 1 v] }, toks := tk } := I.kept fun b o e => Heap.get?_push_of_some _ e
  refine ⟨(s.heap.push { cls := .type "range", data := .fields #[.int lo t, .int hi u, .int 1 v] }).objs.size, [(s.heap.push { cls := .type "range", data := .fields #[.int lo t, .int hi u, .int 1 v] }).objs.size], _, _, H, rfl,
    I1.kept (t' := tk) fun b o e => Heap.get?_push_of_some _ e, turn_range _ lo (hi - lo).toNat, ?_, fun b hb => ?_, q⟩
  · have e1 : lo + ((0 : Nat) : Int) * 1 = lo := by simp
    have e2 : (((hi - lo).toNat : Nat) : Int) - ((0 : Nat) : Int) = Builtin.Range.rangeSize lo hi 1 := by rw [rangeSize_one]; split <;> omega
    show IsRangeIter _ _ (lo + ((0 : Nat) : Int) * 1) ((((hi - lo).toNat : Nat) : Int) - ((0 : Nat) : Int)) 1
    rw [e1, e2]
    exact Heap.get?_push_size _ rfl
  · have e : b = (s.heap.push { cls := .type "range", data := .fields #[.int lo t, .int hi u, .int 1 v] }).objs.size := by simpa using hb
    subst e
    exact I1.fpOk (Nat.le_refl _) (I1.hok.fresh (Nat.le_refl _))
def iRng1 (ta : TA) : TI := fun σ H R => ta σ H fun vs H1 => ∃ j : Int, vs = [.int j] ∧ -(2 ^ 62) ≤ j ∧ j < 2 ^ 62 ∧ R (Itr 0 j.toNat) H1
def iRng2 (ta : TA) : TI := fun σ H R => ta σ H fun vs H1 => ∃ i j : Int, vs = [.int i, .int j] ∧ (-(2 ^ 62) ≤ i ∧ i < 2 ^ 62 ∧ -(2 ^ 62) ≤ j ∧ j < 2 ^ 62) ∧ R (Itr i (j - i).toNat) H1
theorem pi_range1 {a : Expr} {ta : TA} {p pos : Pos} (hg : Gl X "range") (hm : X.mg "range" = none) (ha : PA X [a] ta) (hs : starEach [a] X.env = [(false, eval a X.env)] := by rfl) : PI X tg (.Call (.Name "range" p) [a] [] pos) (iRng1 ta) := by
  intro pins s σ H R I h
  refine Call_ (ld_blt I hg hm boot_range (PyProof.Rows.callWith_type1 (thn (ha pos pins s σ H _ I h) fun us s1 ⟨vs, H1, I1, r1, q1⟩ => ?_) hs rfl))
  obtain ⟨j, e, q1, q2, q⟩ := q1
  subst e
  cases r1 with
  | cons r rr =>
    cases rr
    obtain ⟨t, rfl⟩ := r
    exact call_range_1 (range_it I1 (by omega) (by omega) q1 q2 (by simpa using q))
/-! ### for -/
/-- W: the invariant by the turn and a measure; N: what the body is to reach -/
def tFor (wi : TI) (g : TG) (tb : TS) : TS := fun D σ H => wi σ H fun J H1 => ∃ W : Nat → Nat → St → Hp → Prop, (∃ m, W 0 m σ H1) ∧ ∀ i m σ H, W i m σ H →
  (J.stop i H ∧ D.nx σ H) ∨ (J.go i H ∧ ∃ N : St → Hp → Prop, (∀ σ' H', N σ' H' → ∃ m', m' < m ∧ W (i + 1) m' σ' H') ∧ ∀ x H', J.yld i H x H' → g x σ H' fun σ2 H2 => tb { D with nx := N, ct := N, bk := D.nx } σ2 H2)
/-- the records at fp as they stand -/
def pinsAt (fp : List Addr) (h : Heap) : List (Addr × Obj) := fp.filterMap fun b => (h.get? b).map fun o => (b, o)
theorem mem_pinsAt {fp : List Addr} {h : Heap} {b : Addr} {o : Obj} (hb : b ∈ fp) (e : h.get? b = some o) : (b, o) ∈ pinsAt fp h := List.mem_filterMap.mpr ⟨b, hb, by rw [e]; rfl⟩
theorem of_pinsAt {fp : List Addr} {h : Heap} {p : Addr × Obj} (hp : p ∈ pinsAt fp h) : p.1 ∈ fp ∧ h.get? p.1 = some p.2 := by
  obtain ⟨b, hb, e⟩ := List.mem_filterMap.mp hp
  cases q : h.get? b with
  | none => rw [q] at e; cases e
  | some o =>
    rw [q] at e
    have e' : (b, o) = p := Option.some.inj e
    subst e'
    exact ⟨hb, q⟩
theorem Inv.pinned {pins : List (Addr × Obj)} {σ : St} {H : Hp} {s : Shared} {fp : List Addr} (I : Inv X pins σ H s) (hf : ∀ b ∈ fp, FpOk X pins H b) (ho : ∀ b ∈ fp, ∃ o, s.heap.get? b = some o ∧ ∀ v, o.data ≠ .cell v) : Inv X (pins ++ pinsAt fp s.heap) σ H s :=
  I.pins_of fun p hp => (List.mem_append.mp hp).elim (fun z => I.pin p (List.mem_append_right _ z)) fun z => by
    obtain ⟨hb, e⟩ := of_pinsAt z
    obtain ⟨f0, f1, f2, _⟩ := hf p.1 hb
    obtain ⟨o, e', d⟩ := ho p.1 hb
    rw [e] at e'; cases e'
    exact ⟨e, f0, f1, f2, d⟩
theorem Inv.unpinned {pins pl : List (Addr × Obj)} {σ : St} {H : Hp} {s : Shared} (I : Inv X (pins ++ pl) σ H s) : Inv X pins σ H s := I.pins_of fun p hp => I.pin p (List.mem_append_right _ (List.mem_append_left _ hp))
theorem ps_for {iter : Expr} {body : List Stmt} {wi : TI} {g : TG} {tb : TS} {pos : Pos} (hp : PassesOwn (model X.prog X.w) X.A X.env X.xe) (hc : X.calm = true) (hi : PI X tg iter wi) (hg : PG X tg g) (hb : PSs X body tb)
    (hs : ∀ x, foldedSetIterable iter X.env x = pure x := by intro _; rfl) : PS X (.For tg iter body [] pos) (tFor wi g tb) := by
  intro pins s σ H D I h
  refine wpAny_For (thn (hi pins s σ H _ I h) fun v s1 h1 => thn h1 fun itv s2 h2 => ?_) hs
  obtain ⟨it, fp, tn, J, H2, e, I2, T, st2, f2, W, ⟨m0, w0⟩, turn⟩ := h2
  subst e
  -- what stays true of the iterator's objects through the loop
  have stat : ∀ {H' : Hp}, (∀ b ∈ fp, H' b = none) → ∀ b ∈ fp, FpOk X pins H' b := fun hn b hb => ⟨hn b hb, (f2 b hb).2⟩
  refine codeAny_forLoop_any (fun n s' => ∃ i σ' H', Inv X pins σ' H' s' ∧ tn i s'.heap ∧ (∀ b ∈ fp, H' b = none) ∧ W i n σ' H') ?_ m0 ⟨0, σ, H2, I2, st2, fun b hb => (f2 b hb).1, w0⟩
  rintro n s3 ⟨i, σ3, H3, I3, st3, fr3, w3⟩
  rcases turn i n σ3 H3 w3 with ⟨stop, qn⟩ | ⟨go, N, hN, step⟩
  · refine wpAny_passesOwn hp (thn (T.done X rfl rfl rfl hc i pins s3 σ3 H3 X.xe I3 (stat fr3) st3 stop) fun r s4 ⟨hr, I4⟩ => ?_)
    subst hr
    exact wpAny_execs_nil ⟨σ3, H3, I4, qn⟩
  · refine wpAny_passesOwn hp (thn (T.item X rfl rfl rfl hc i pins s3 σ3 H3 X.xe I3 (stat fr3) st3 go) fun r s4 ⟨u, hr, h4⟩ => ?_)
    subst hr
    refine wpAny_passesOwn hp (thn h4 fun _ s5 ⟨x, H5, I5, r5, y5, st5, fr5⟩ => ?_)
    have I5' := I5.pinned (stat fr5) (T.obj _ _ st5)
    refine wpAny_passesOwn hp (thn (hg _ s5 σ3 H5 x u _ I5' r5 (step x H5 y5)) fun _ s6 ⟨σ6, H6, I6, q6⟩ => ?_)
    refine wpAny_passesOwn hp (thn (hb _ s6 σ6 H6 _ I6 q6) fun f s7 q7 => ?_)
    have again : ∀ {σ7 : St} {H7 : Hp}, Inv X (pins ++ pinsAt fp s5.heap) σ7 H7 s7 → N σ7 H7 → ∃ m, m < n ∧ ∃ i σ' H', Inv X pins σ' H' s7 ∧ tn i s7.heap ∧ (∀ b ∈ fp, H' b = none) ∧ W i m σ' H' := fun {σ7 H7} I7 n7 => by
      obtain ⟨m', hm, w7⟩ := hN σ7 H7 n7
      refine ⟨m', hm, i + 1, σ7, H7, I7.unpinned, T.keep _ _ _ st5 fun b hb o e => (I7.pin (b, o) (List.mem_append_right _ (List.mem_append_right _ (mem_pinsAt hb e)))).1, fun b hb => ?_, w7⟩
      obtain ⟨o, e, d⟩ := T.obj _ _ st5 b hb
      exact (I7.pin (b, o) (List.mem_append_right _ (List.mem_append_right _ (mem_pinsAt hb e)))).2.1
    cases f with
    | next => obtain ⟨σ7, H7, I7, n7⟩ := q7; exact again I7 n7
    | cont => obtain ⟨σ7, H7, I7, n7⟩ := q7; exact again I7 n7
    | brk => obtain ⟨σ7, H7, I7, q7⟩ := q7; exact ⟨σ7, H7, I7.unpinned, q7⟩
    | ret v => obtain ⟨x7, σ7, H7, I7, r7, q7⟩ := q7; exact ⟨x7, σ7, H7, I7.unpinned, r7, q7⟩
end

/-! ### the forms one uses -/
/-- over a list that the body leaves as it is -/
theorem for_list {K : PySem.W.Frag} {a : Addr} {xs : List V} {g : TG} {tb : TS} {D : Ends} {σ : St} {H : Hp} (Pv : Nat → St → Hp → Prop) (h0 : Pv 0 σ H) (hl : ∀ i σ H, i ≤ xs.length → Pv i σ H → SqL K H a xs)
    (hs : ∀ i x σ H, xs[i]? = some x → Pv i σ H → g x σ H fun σ2 H2 => tb { D with nx := Pv (i + 1), ct := Pv (i + 1), bk := D.nx } σ2 H2) (hd : ∀ σ H, Pv xs.length σ H → D.nx σ H) :
    ∃ W : Nat → Nat → St → Hp → Prop, (∃ m, W 0 m σ H) ∧ ∀ i m σ H, W i m σ H →
      ((Itl K a).stop i H ∧ D.nx σ H) ∨ ((Itl K a).go i H ∧ ∃ N : St → Hp → Prop, (∀ σ' H', N σ' H' → ∃ m', m' < m ∧ W (i + 1) m' σ' H') ∧ ∀ x H', (Itl K a).yld i H x H' → g x σ H' fun σ2 H2 => tb { D with nx := N, ct := N, bk := D.nx } σ2 H2) := by
  refine ⟨fun i m σ H => m = xs.length - i ∧ i ≤ xs.length ∧ Pv i σ H, ⟨xs.length, by simp, Nat.zero_le _, h0⟩, ?_⟩
  rintro i m σ H ⟨rfl, hi, p⟩
  have q := hl i σ H hi p
  by_cases hlt : i < xs.length
  · refine .inr ⟨⟨xs, xs[i], q, by simp [hlt]⟩, Pv (i + 1), fun σ' H' p' => ⟨xs.length - (i + 1), by omega, rfl, hlt, p'⟩, fun x H' y => ?_⟩
    obtain ⟨e, y⟩ := y
    subst e
    exact hs i x σ _ (y xs q) p
  · have e : i = xs.length := by omega
    subst e
    exact .inl ⟨⟨xs, q, Nat.le_refl _⟩, hd σ H p⟩
theorem for_range {lo : Int} {n : Nat} {g : TG} {tb : TS} {D : Ends} {σ : St} {H : Hp} (Pv : Nat → St → Hp → Prop) (h0 : Pv 0 σ H)
    (hs : ∀ i σ H, i < n → Pv i σ H → g (.int (lo + i)) σ H fun σ2 H2 => tb { D with nx := Pv (i + 1), ct := Pv (i + 1), bk := D.nx } σ2 H2) (hd : ∀ σ H, Pv n σ H → D.nx σ H) :
    ∃ W : Nat → Nat → St → Hp → Prop, (∃ m, W 0 m σ H) ∧ ∀ i m σ H, W i m σ H →
      ((Itr lo n).stop i H ∧ D.nx σ H) ∨ ((Itr lo n).go i H ∧ ∃ N : St → Hp → Prop, (∀ σ' H', N σ' H' → ∃ m', m' < m ∧ W (i + 1) m' σ' H') ∧ ∀ x H', (Itr lo n).yld i H x H' → g x σ H' fun σ2 H2 => tb { D with nx := N, ct := N, bk := D.nx } σ2 H2) := by
  refine ⟨fun i m σ H => m = n - i ∧ i ≤ n ∧ Pv i σ H, ⟨n, by simp, Nat.zero_le _, h0⟩, ?_⟩
  rintro i m σ H ⟨rfl, hi, p⟩
  by_cases hlt : i < n
  · refine .inr ⟨hlt, Pv (i + 1), fun σ' H' p' => ⟨n - (i + 1), by omega, rfl, hlt, p'⟩, fun x H' y => ?_⟩
    obtain ⟨e, y⟩ := y
    subst e y
    exact hs i σ _ hlt p
  · have e : i = n := by omega
    subst e
    exact .inl ⟨Nat.le_refl _, hd σ H p⟩
end L2

namespace L2
open PySem PySem.Spec PyProof.Rows

abbrev R2 := V → V → Hp → VK → Prop
/-- a two-place operation on values: f is binaryOp op, inplaceOp op or compareOp op -/
def OpR (X : Cx) (f : Value → Value → Sem Value) (r : R2) : Prop :=
  ∀ (pins : List (Addr × Obj)) (s : Shared) (σ : St) (H : Hp) (x y : V) (v u : Value) (Q : VK), Inv X pins σ H s → RelV x v → RelV y u → r x y H Q →
    wpAny (model X.prog X.w) X.A (f v u) (EP X pins σ Q) X.xe s
/-- a one-place operation -/
def UnR (X : Cx) (f : Value → Sem Value) (r : V → Hp → VK → Prop) : Prop :=
  ∀ (pins : List (Addr × Obj)) (s : Shared) (σ : St) (H : Hp) (x : V) (v : Value) (Q : VK), Inv X pins σ H s → RelV x v → r x H Q →
    wpAny (model X.prog X.w) X.A (f v) (EP X pins σ Q) X.xe s
/-- a call of a value that is known (a builtin, a type) with values -/
def CallR (X : Cx) (f : Value) (r : List V → Hp → VK → Prop) : Prop :=
  ∀ (pins : List (Addr × Obj)) (s : Shared) (σ : St) (H : Hp) (xs : List V) (us : List Value) (Q : VK), Inv X pins σ H s → Vals xs us → r xs H Q →
    wpAny (model X.prog X.w) X.A (call f us) (EP X pins σ Q) X.xe s
/-- a value's truth -/
def TruR (X : Cx) (r : V → Hp → (Bool → Hp → Prop) → Prop) : Prop :=
  ∀ (pins : List (Addr × Obj)) (s : Shared) (σ : St) (H : Hp) (x : V) (v : Value) (Q : Bool → Hp → Prop), Inv X pins σ H s → RelV x v → r x H Q →
    wpAny (model X.prog X.w) X.A (truthy v) (TP X pins σ Q) X.xe s

def tOp (r : R2) (ta tb : TE) : TE := fun σ H Q => ta σ H fun x H1 => tb σ H1 fun y H2 => r x y H2 Q
def tUn (r : V → Hp → VK → Prop) (ta : TE) : TE := fun σ H Q => ta σ H fun x H1 => r x H1 Q
/-- ints in, under C, and a value out -/
def rI (C : Int → Int → Prop) (g : Int → Int → V) : R2 := fun x y H Q => ∃ i j, x = .int i ∧ y = .int j ∧ C i j ∧ Q (g i j) H
def rI0 (g : Int → Int → V) : R2 := fun x y H Q => ∃ i j, x = .int i ∧ y = .int j ∧ Q (g i j) H
def rU (g : Int → V) : V → Hp → VK → Prop := fun x H Q => ∃ i, x = .int i ∧ Q (g i) H

section
variable {X : Cx} {a b c : Expr} {ta tb tc : TE} {pos : Pos}

theorem binT (ha : PE X a ta) (hb : PE X b tb) {pins : List (Addr × Obj)} {s : Shared} {σ : St} {H : Hp} {R : V → V → Hp → Prop} (I : Inv X pins σ H s)
    (h : ta σ H fun x H1 => tb σ H1 fun y H2 => R x y H2) {Q : Value → Shared → Prop} {f : Value → Value → Sem Value}
    (hf : ∀ v u s2 x y H2, Inv X pins σ H2 s2 → RelV x v → RelV y u → R x y H2 → wpAny (model X.prog X.w) X.A (f v u) Q X.xe s2) :
    wpAny (model X.prog X.w) X.A (eval a X.env) (fun v s₁ => wpAny (model X.prog X.w) X.A (eval b X.env) (fun u s₂ => wpAny (model X.prog X.w) X.A (f v u) Q X.xe s₂) X.xe s₁) X.xe s := by
  refine thn (ha pins s σ H _ I h) fun v s1 ⟨x, H1, I1, r1, q1⟩ => ?_
  refine thn (hb pins s1 σ H1 _ I1 q1) fun u s2 ⟨y, H2, I2, r2, q2⟩ => ?_
  exact hf v u s2 x y H2 I2 r1 r2 q2

theorem pe_op {op : Operator} {r : R2} (ho : OpR X (binaryOp op) r) (ha : PE X a ta) (hb : PE X b tb) : PE X (.BinOp a op b pos) (tOp r ta tb) := by
  intro pins s σ H Q I h
  exact wpAny_BinOp (binT ha hb I h fun v u s2 x y H2 I2 rx ry q => ho pins s2 σ H2 x y v u Q I2 rx ry q)
theorem pe_un {op : UnaryOp} {r : V → Hp → VK → Prop} (ho : UnR X (unaryOp op) r) (ha : PE X a ta) : PE X (.UnaryOp op a pos) (tUn r ta) := by
  intro pins s σ H Q I h
  exact UnaryOp_ (thn (ha pins s σ H _ I h) fun v s1 ⟨x, H1, I1, r1, q1⟩ => ho pins s1 σ H1 x v Q I1 r1 q1)
/-! ### ints -/
theorem opI {f : Value → Value → Sem Value} {C : Int → Int → Prop} {g : Int → Int → Int}
    (rule : ∀ (i j : Int) (t u : Tok) (s : Shared) (Q : Value → Shared → Prop) (E : Value → Shared → Prop), C i j → Q (.int (g i j) s.toks) { s with toks := s.toks + 1 } → wpAny (model X.prog X.w) X.A (f (.int i t) (.int j u)) Q E s) :
    OpR X f (rI C fun i j => .int (g i j)) := by
  intro pins s σ H x y v u Q I rx ry h
  obtain ⟨i, j, rfl, rfl, hc, q⟩ := h
  obtain ⟨t, rfl⟩ := rx
  obtain ⟨t', rfl⟩ := ry
  exact rule i j t t' s _ _ hc ⟨.int (g i j), H, I.tok _, ⟨_, rfl⟩, q⟩
theorem opI0 {f : Value → Value → Sem Value} {g : Int → Int → Int}
    (rule : ∀ (i j : Int) (t u : Tok) (s : Shared) (Q : Value → Shared → Prop) (E : Value → Shared → Prop), Q (.int (g i j) s.toks) { s with toks := s.toks + 1 } → wpAny (model X.prog X.w) X.A (f (.int i t) (.int j u)) Q E s) :
    OpR X f (rI0 fun i j => .int (g i j)) := by
  intro pins s σ H x y v u Q I rx ry h
  obtain ⟨i, j, rfl, rfl, q⟩ := h
  obtain ⟨t, rfl⟩ := rx
  obtain ⟨t', rfl⟩ := ry
  exact rule i j t t' s _ _ ⟨.int (g i j), H, I.tok _, ⟨_, rfl⟩, q⟩
theorem opB0 {f : Value → Value → Sem Value} {g : Int → Int → Bool}
    (rule : ∀ (i j : Int) (t u : Tok) (s : Shared) (Q : Value → Shared → Prop) (E : Value → Shared → Prop), Q (.bool (g i j)) s → wpAny (model X.prog X.w) X.A (f (.int i t) (.int j u)) Q E s) :
    OpR X f (rI0 fun i j => .bl (g i j)) := by
  intro pins s σ H x y v u Q I rx ry h
  obtain ⟨i, j, rfl, rfl, q⟩ := h
  obtain ⟨t, rfl⟩ := rx
  obtain ⟨t', rfl⟩ := ry
  exact rule i j t t' s _ _ ⟨.bl (g i j), H, I, rfl, q⟩

def CDiv (i j : Int) : Prop := 0 < j ∧ j < 1073741824
def CDivN (i j : Int) : Prop := j ≠ 0 ∧ j.natAbs < 1073741824
def CPow (i j : Int) : Prop := 0 ≤ j ∧ j ≤ 1000000 ∧ i.natAbs < 2 ^ 64
def CMul (i j : Int) : Prop := (-(2 ^ 64) < i ∧ i < 2 ^ 64) ∨ (-(2 ^ 64) < j ∧ j < 2 ^ 64)
theorem CMul.ok {i j : Int} (h : CMul i j) : IntMulOk i j := by
  rcases h with ⟨h1, h2⟩ | ⟨h1, h2⟩
  · exact .of_left (intBits_le_64 h1 h2)
  · exact .of_right (intBits_le_64 h1 h2)
theorem op_add : OpR X (binaryOp .Add) (rI0 fun i j => .int (i + j)) := opI0 fun _ _ _ _ _ _ _ q => add_int q
theorem op_sub : OpR X (binaryOp .Sub) (rI0 fun i j => .int (i - j)) := opI0 fun _ _ _ _ _ _ _ q => sub_int q
theorem op_mul : OpR X (binaryOp .Mult) (rI CMul fun i j => .int (i * j)) := opI fun _ _ _ _ _ _ _ hc q => mul_int q hc.ok
/-- // by a positive divisor -/
theorem op_fdiv : OpR X (binaryOp .FloorDiv) (rI CDiv fun i j => .int (i / j)) := opI fun i j _ _ _ _ _ hc q => by
  have h1 : (0 : Int) < j := hc.1
  have h2 : j < 1073741824 := hc.2
  exact floordiv_int (by omega) (by rw [Int.fdiv_eq_ediv_of_nonneg i (by omega)]; exact q) (.inl (PyProof.noPylong_small (by omega)))
/-- % by a positive divisor of any size -/
theorem op_mod : OpR X (binaryOp .Mod) (rI (fun _ j => 0 < j) fun i j => .int (i % j)) := opI fun i j _ _ _ _ _ hc q => by
  have h1 : (0 : Int) < j := hc
  exact mod_int' (by omega) (by rw [Int.fmod_eq_emod_of_nonneg i (by omega)]; exact q)
theorem op_pow : OpR X (binaryOp .Pow) (rI CPow fun i j => .int (i ^ j.toNat)) := opI fun _ _ _ _ _ _ _ hc q => pow_int_small hc.1 hc.2.1 hc.2.2 q
theorem unI {f : Value → Sem Value} {g : Int → Int}
    (rule : ∀ (i : Int) (t : Tok) (s : Shared) (Q : Value → Shared → Prop) (E : Value → Shared → Prop), Q (.int (g i) s.toks) { s with toks := s.toks + 1 } → wpAny (model X.prog X.w) X.A (f (.int i t)) Q E s) :
    UnR X f (rU fun i => .int (g i)) := by
  intro pins s σ H x v Q I rx h
  obtain ⟨i, rfl, q⟩ := h
  obtain ⟨t, rfl⟩ := rx
  exact rule i t s _ _ ⟨.int (g i), H, I.tok _, ⟨_, rfl⟩, q⟩
theorem un_neg : UnR X (unaryOp .USub) (rU fun i => .int (-i)) := unI fun _ _ _ _ _ q => neg_int q
/-! ### bools among ints: n += (a < b) -/
end

/-! ### comparisons -/
/-- the scalars that == tells apart as data does -/
def scal : V → V → Bool
  | .non, .non => true | .non, .int _ => true | .int _, .non => true | .non, .bl _ => true | .bl _, .non => true | .non, .str _ => true | .str _, .non => true
  | .int _, .int _ => true | .bl _, .bl _ => true | .str _, .str _ => true | .byt _, .byt _ => true
  | .int _, .str _ => true | .str _, .int _ => true | .bl _, .str _ => true | .str _, .bl _ => true
  | _, _ => false
def rEq : R2 := fun x y H Q => scal x y = true ∧ Q (.bl (decide (x = y))) H
def rNe : R2 := fun x y H Q => scal x y = true ∧ Q (.bl (!decide (x = y))) H

theorem dec_int {i j : Int} : decide (V.int i = V.int j) = (i == j) := by
  rw [Bool.eq_iff_iff]
  simp
theorem dec_bl {i j : Bool} : decide (V.bl i = V.bl j) = (i == j) := by
  rw [Bool.eq_iff_iff]
  simp
theorem dec_str {i j : Str} : decide (V.str i = V.str j) = (i == j) := by
  rw [Bool.eq_iff_iff]
  simp
theorem dec_byt {i j : Array UInt8} : decide (V.byt i = V.byt j) = (i.toList == j.toList) := by
  rw [Bool.eq_iff_iff]
  cases i
  cases j
  simp

section
variable {X : Cx} {a b c : Expr} {ta tb tc : TE} {pos : Pos}
theorem fin_bl {pins : List (Addr × Obj)} {σ : St} {H : Hp} {s : Shared} {Q : VK} {k k' : Bool} (I : Inv X pins σ H s) (q : Q (.bl k) H) (e : k = k') : EP X pins σ Q (.bool k') s := by
  subst e
  exact ⟨.bl k, H, I, rfl, q⟩
theorem op_eq : OpR X (compareOp .Eq) rEq := by
  intro pins s σ H x y v u Q I rx ry h
  obtain ⟨hs, q⟩ := h
  cases x with
  | non =>
    cases rx
    cases y with
    | non => cases ry; exact PySem.EqNone.eq_none_none (fin_bl I q (by simp))
    | bl j => cases ry; exact PySem.EqNone.eq_none_bool (fin_bl I q (by simp))
    | int j => obtain ⟨t', rfl⟩ := ry; exact PySem.EqNone.eq_none_int (fin_bl I q (by simp))
    | str j => obtain ⟨t', rfl⟩ := ry; exact PySem.EqNone.eq_none_str (fin_bl I q (by simp))
    | _ => exact absurd (show false = true from hs) Bool.false_ne_true
  | bl i =>
    cases rx
    cases y with
    | non => cases ry; exact PySem.EqNone.eq_bool_none (fin_bl I q (by simp))
    | bl j => cases ry; exact eq_bool (fin_bl I q dec_bl)
    | str j => obtain ⟨t', rfl⟩ := ry; exact PySem.EqMixed.eq_bool_str (fin_bl I q (by simp))
    | _ => exact absurd (show false = true from hs) Bool.false_ne_true
  | int i =>
    obtain ⟨t, rfl⟩ := rx
    cases y with
    | non => cases ry; exact PySem.EqNone.eq_int_none (fin_bl I q (by simp))
    | int j => obtain ⟨t', rfl⟩ := ry; exact eq_int (fin_bl I q dec_int)
    | str j => obtain ⟨t', rfl⟩ := ry; exact PySem.EqMixed.eq_int_str (fin_bl I q (by simp))
    | _ => exact absurd (show false = true from hs) Bool.false_ne_true
  | str i =>
    obtain ⟨t, rfl⟩ := rx
    cases y with
    | non => cases ry; exact PySem.EqNone.eq_str_none (fin_bl I q (by simp))
    | bl j => cases ry; exact PySem.EqMixed.eq_str_bool (fin_bl I q (by simp))
    | int j => obtain ⟨t', rfl⟩ := ry; exact PySem.EqMixed.eq_str_int (fin_bl I q (by simp))
    | str j => obtain ⟨t', rfl⟩ := ry; exact eq_str (fin_bl I q dec_str)
    | _ => exact absurd (show false = true from hs) Bool.false_ne_true
  | byt i =>
    obtain ⟨t, rfl⟩ := rx
    cases y with
    | byt j => obtain ⟨t', rfl⟩ := ry; exact PySem.W.eq_bytes (fin_bl I q dec_byt)
    | _ => exact absurd (show false = true from hs) Bool.false_ne_true
  | _ => cases y <;> exact absurd (show false = true from hs) Bool.false_ne_true
theorem op_ne : OpR X (compareOp .NotEq) rNe := by
  intro pins s σ H x y v u Q I rx ry h
  obtain ⟨hs, q⟩ := h
  cases x with
  | non =>
    cases rx
    cases y with
    | non => cases ry; exact PySem.EqNone.ne_none_none (fin_bl I q (by simp))
    | bl j => cases ry; exact PySem.EqNone.ne_none_bool (fin_bl I q (by simp))
    | int j => obtain ⟨t', rfl⟩ := ry; exact PySem.EqNone.ne_none_int (fin_bl I q (by simp))
    | str j => obtain ⟨t', rfl⟩ := ry; exact PySem.EqNone.ne_none_str (fin_bl I q (by simp))
    | _ => exact absurd (show false = true from hs) Bool.false_ne_true
  | bl i =>
    cases rx
    cases y with
    | non => cases ry; exact PySem.EqNone.ne_bool_none (fin_bl I q (by simp))
    | bl j => cases ry; exact ne_bool (fin_bl I q (congrArg not dec_bl))
    | str j => obtain ⟨t', rfl⟩ := ry; exact PySem.EqMixed.ne_bool_str (fin_bl I q (by simp))
    | _ => exact absurd (show false = true from hs) Bool.false_ne_true
  | int i =>
    obtain ⟨t, rfl⟩ := rx
    cases y with
    | non => cases ry; exact PySem.EqNone.ne_int_none (fin_bl I q (by simp))
    | int j => obtain ⟨t', rfl⟩ := ry; exact ne_int (fin_bl I q (congrArg not dec_int))
    | str j => obtain ⟨t', rfl⟩ := ry; exact PySem.EqMixed.ne_int_str (fin_bl I q (by simp))
    | _ => exact absurd (show false = true from hs) Bool.false_ne_true
  | str i =>
    obtain ⟨t, rfl⟩ := rx
    cases y with
    | non => cases ry; exact PySem.EqNone.ne_str_none (fin_bl I q (by simp))
    | bl j => cases ry; exact PySem.EqMixed.ne_str_bool (fin_bl I q (by simp))
    | int j => obtain ⟨t', rfl⟩ := ry; exact PySem.EqMixed.ne_str_int (fin_bl I q (by simp))
    | str j => obtain ⟨t', rfl⟩ := ry; exact ne_str (fin_bl I q (congrArg not dec_str))
    | _ => exact absurd (show false = true from hs) Bool.false_ne_true
  | byt i =>
    obtain ⟨t, rfl⟩ := rx
    cases y with
    | byt j => obtain ⟨t', rfl⟩ := ry; exact PySem.W.ne_bytes (fin_bl I q (congrArg not dec_byt))
    | _ => exact absurd (show false = true from hs) Bool.false_ne_true
  | _ => cases y <;> exact absurd (show false = true from hs) Bool.false_ne_true

theorem op_lt : OpR X (compareOp .Lt) (rI0 fun i j => .bl (decide (i < j))) := opB0 fun _ _ _ _ _ _ _ q => lt_int q
theorem op_gt : OpR X (compareOp .Gt) (rI0 fun i j => .bl (decide (j < i))) := opB0 fun _ _ _ _ _ _ _ q => gt_int q
theorem op_ge : OpR X (compareOp .GtE) (rI0 fun i j => .bl (decide (j ≤ i))) := opB0 fun _ _ _ _ _ _ _ q => ge_int q
/-- is, is not of two objects that are tracked lists or instances -/
def isObj : HO → Bool
  | .lst _ => true
  | .ins _ _ _ => true
  | _ => false
theorem nomark (b : Expr) {op : CmpOp} (h : op ≠ .In := by decide) (h2 : op ≠ .NotIn := by decide) : behindInMarks op b = false := by
  have e1 : (op == CmpOp.In) = false := by cases op <;> first | rfl | exact absurd rfl h
  have e2 : (op == CmpOp.NotIn) = false := by cases op <;> first | rfl | exact absurd rfl h2
  cases b <;> simp [behindInMarks, e1, e2]
/-- a comparison as a value; hm: nomark b, or (for in, not in) by with_unfolding_all rfl -/
theorem pe_cmpR {op : CmpOp} {r : R2} (ho : OpR X (compareOp op) r) (ha : PE X a ta) (hb : PE X b tb) (hm : behindInMarks op b = false) : PE X (.Compare a [op] [b] pos) (tOp r ta tb) := by
  intro pins s σ H Q I h
  exact wpAny_Compare1 (binT ha hb I h fun v u s2 x y H2 I2 rx ry q => ho pins s2 σ H2 x y v u Q I2 rx ry q) hm
/-- a reading of a value as a test -/
def tTest (t : TE) : TT := fun σ H Q => t σ H fun x H' => ∃ k, x = .bl k ∧ Q k H'
theorem pt_cmpR {op : CmpOp} {r : R2} (ho : OpR X (compareOp op) r) (ha : PE X a ta) (hb : PE X b tb) (hm : behindInMarks op b = false) : PT X (.Compare a [op] [b] pos) (tTest (tOp r ta tb)) := by
  intro pins s σ H Q I h
  refine wpAny_isTrue_Compare1 (thn (ha pins s σ H _ I h) fun v s1 ⟨x, H1, I1, r1, q1⟩ => thn (hb pins s1 σ H1 _ I1 q1) fun u s2 ⟨y, H2, I2, r2, q2⟩ =>
    thn (ho pins s2 σ H2 x y v u _ I2 r1 r2 q2) fun c s3 ⟨z, H3, I3, r3, k, e, q3⟩ => ?_) hm
  subst e
  cases r3
  exact wpAny_truthy_bool ⟨H3, I3, q3⟩
/-- a op1 b op2 c -/
def tChain (r r' : R2) (ta tb tc : TE) : TE := fun σ H Q => ta σ H fun x H1 => tb σ H1 fun y H2 => r x y H2 fun z H3 => ∃ k, z = .bl k ∧
  (if k = true then tc σ H3 fun w' H4 => r' y w' H4 Q else Q (.bl false) H3)
/-! ### truth -/
/-- a value's truth by the abstract heap -/
def TruV (K : PySem.W.Frag) (x : V) (H : Hp) (k : Bool) : Prop :=
  match x with
  | .non => k = false
  | .bl b => k = b
  | .int i => k = (i != 0)
  | .str y => y.length ≤ sizeLine ∧ k = ((y.length : Int) != 0)
  | .byt y => y.size ≤ sizeLine ∧ k = ((y.size : Int) != 0)
  | .ref p => (∃ xs, SqL K H p xs ∧ k = !xs.isEmpty) ∨ (∃ xs, SqT K H p xs ∧ k = !xs.isEmpty) ∨ ∃ kvs, H p = some (.dK kvs) ∧ k = !kvs.isEmpty
  | _ => False
theorem line63 : (sizeLine : Nat) < 2 ^ 63 := by rw [sizeLine_eq]; decide
/-! ### strs and bytes -/
def PlainIxT (b : Expr) : Prop := ∀ o i, subscripted b false o i = operate [o, i] (getItem o i)
/-! ### scalar builtins, by CallR -/
theorem vals1 {x : V} {us : List Value} (r : Vals [x] us) : ∃ u, us = [u] ∧ RelV x u := by
  cases r with
  | cons r1 r2 => cases r2; exact ⟨_, rfl, r1⟩
/-- len of a str, a bytes, a list, a tuple -/
def LenV (K : PySem.W.Frag) (x : V) (H : Hp) (n : Nat) : Prop :=
  match x with
  | .str y => y.length ≤ sizeLine ∧ n = y.length
  | .byt y => y.size ≤ sizeLine ∧ n = y.size
  | .ref p => (∃ xs, SqL K H p xs ∧ n = xs.length) ∨ ∃ xs, SqT K H p xs ∧ n = xs.length
  | _ => False
end
end L2

namespace L2
open PySem PySem.Spec PyProof.Rows

/-! ### an instance, its attributes a map -/
structure ObjM (h : Heap) (x dx C : Addr) (mA : Str → Option Value) : Prop where
  obj : h.get? x = some (PySem.W.instObj C dx)
  ns : h.Ns1 dx mA
  ne : dx ≠ x

theorem lookIn_ns {h : Heap} {dx : Addr} {mA : Str → Option Value} (n : h.Ns1 dx mA) : ∃ od, h.get? dx = some od ∧ ∀ name, PySem.W.lookIn name od = some (mA name) := by
  obtain ⟨o, es, ep, ho, hd, hk, _, hm⟩ := n
  refine ⟨o, ho, fun name => ?_⟩
  have e := hm name
  unfold nsFind findBy at e
  rw [← Array.find?_toList] at e
  unfold PySem.W.lookIn
  rw [hd]
  dsimp only
  split
  · rename_i y q
    rw [q] at e
    exact congrArg some e
  · rename_i q
    rw [q] at e
    have a : es.toList.any (·.refKey) = false := by
      rw [List.any_eq_false]
      intro y hy
      obtain ⟨z, t, hkey⟩ := hk y (Array.mem_toList_iff.mp hy)
      simp [DictEntry.refKey, hkey]
    have a' : ¬ es.toList.any (·.refKey) = true := by rw [a]; exact Bool.false_ne_true
    rw [if_neg a']
    exact congrArg some e

theorem ObjM.look {h : Heap} {x dx C : Addr} {mA : Str → Option Value} (I : ObjM h x dx C mA) : ∃ od, PySem.W.InstAt h x (PySem.W.instObj C dx) C (some od) ∧ ∀ name, PySem.W.lookIn name od = some (mA name) :=
  let ⟨od, ho, hl⟩ := lookIn_ns I.ns
  ⟨od, ⟨I.obj, rfl, rfl, ho⟩, hl⟩

section
variable {prog : Program} {w : World} {A : Around} {E : Value → Shared → Prop} {s : Shared} {K : PySem.W.Frag} {x dx C f : Addr} {mA : Str → Option Value} {name : Str} {v : Value}

end

/-! ### the attributes as a list of pairs -/
def putF (f : Str) (v : V) : List (Str × V) → List (Str × V)
  | [] => [(f, v)]
  | (g, x) :: r => if g = f then (g, v) :: r else (g, x) :: putF f v r
theorem RelO.some_of {v : V} {o : Option Value} (r : RelO (some v) o) : ∃ u, o = some u ∧ RelV v u := by
  cases o with
  | none => exact (show False from r).elim
  | some u => exact ⟨u, rfl, r⟩
section
variable {P : Program} {w : World} {H H' : Hp} {h h' : Heap} {a C dx : Addr} {fs fs' : List (Str × V)}
theorem ins_get (hok : HOk P w H h) (e : H a = some (.ins C dx fs)) : ∃ mA, ObjM h a dx C mA ∧ (∀ f, RelO (fs.lookup f) (mA f)) ∧ PySem.Within mA (fs.map (·.1)) ∧ fs.length ≤ 1000 ∧ H dx = some (.own a) := by
  obtain ⟨d, z, ne, ob, mA, n, r, q⟩ := (show ObjOk P w H h a (.ins C dx fs) from hok a _ e)
  exact ⟨mA, ⟨ob, n, ne⟩, r, q, z, d⟩
end

/-! ### what of the text a class must have -/
structure Cls (K : PySem.W.Frag) (C : Addr) : Prop where
  pg : PySem.W.plainGet K C Str.empty = true
  hd : PySem.W.hasDictIn K C = true
  po : PySem.W.plainOver K C = true
  sa : PySem.W.findIn K (.ref C) "__setattr__" = some (some (.builtin "object.__setattr__"))
theorem Cls.get {K : PySem.W.Frag} {C : Addr} (c : Cls K C) (f : Str) : PySem.W.plainGet K C f = true := c.pg
/-- no class of it has the name -/
def NoAttr (K : PySem.W.Frag) (C : Addr) (f : Str) : Prop := PySem.W.findIn K (.ref C) f = some none
/-- a constant of the class -/
structure Con (K : PySem.W.Frag) (C : Addr) (f : Str) (v : V) (u : Value) : Prop where
  at_ : PySem.W.findIn K (.ref C) f = some (some u)
  rel : RelV v u
  get : PySem.W.specialIn K u "__get__" = some none
  cp : PySem.W.copiedNames.contains f = false
/-- a method: a plain def of the class or of one above it -/
structure Meth (K : PySem.W.Frag) (C : Addr) (m : Str) (f : Addr) : Prop where
  at_ : PySem.W.findIn K (.ref C) m = some (some (.ref f))
  fn : PySem.W.isFn K (.ref f) = true
  kp : PySem.W.keepIn K (.ref f) = true

section
variable {X : Cx} {pins : List (Addr × Obj)} {σ : St} {H : Hp} {s : Shared} {a C dx : Addr} {fs : List (Str × V)} {f : Str} {v : V} {A : Around} {E : Value → Shared → Prop}

end

/-! ### readings and rules -/
/-- e.f, an attribute of the instance -/
def tFld (K : PySem.W.Frag) (ta : TE) (f : Str) : TE := fun σ H Q => ta σ H fun x H1 => ∃ a C dx fs v, x = .ref a ∧ H1 a = some (.ins C dx fs) ∧ Cls K C ∧ NoAttr K C f ∧ fs.lookup f = some v ∧ Q v H1
/-- e.f, a constant of the class -/
def tCon (K : PySem.W.Frag) (ta : TE) (f : Str) : TE := fun σ H Q => ta σ H fun x H1 => ∃ a C dx fs v u, x = .ref a ∧ H1 a = some (.ins C dx fs) ∧ Cls K C ∧ Con K C f v u ∧ fs.lookup f = none ∧ Q v H1
/-- e.f = value -/
def sFld (K : PySem.W.Frag) (ta tv : TE) (f : Str) : TS := fun D σ H => tv σ H fun y H1 => ta σ H1 fun x H2 => ∃ a C dx fs, x = .ref a ∧ H2 a = some (.ins C dx fs) ∧ Cls K C ∧ NoAttr K C f ∧ fs.length < 1000 ∧
  D.nx σ (upd H2 a (.ins C dx (putF f y fs)))
/-- an augmented operator on two values -/
def InOp (X : Cx) (op : Operator) (rd : V → V → Hp → VK → Prop) : Prop :=
  ∀ (pins : List (Addr × Obj)) (s : Shared) (σ : St) (H : Hp) (x y : V) (u v : Value) (Q : VK), Inv X pins σ H s → RelV x u → RelV y v → rd x y H Q → wpAny (model X.prog X.w) X.A (inplaceOp op u v) (EP X pins σ Q) X.xe s
/-- e.f op= value -/
def sFldAug (K : PySem.W.Frag) (ta tv : TE) (rd : V → V → Hp → VK → Prop) (f : Str) : TS := fun D σ H => ta σ H fun x H1 => ∃ a C dx fs v, x = .ref a ∧ H1 a = some (.ins C dx fs) ∧ Cls K C ∧ NoAttr K C f ∧ fs.lookup f = some v ∧
  tv σ H1 fun y H2 => rd v y H2 fun z H3 => ∃ dx' fs', H3 a = some (.ins C dx' fs') ∧ fs'.length < 1000 ∧ D.nx σ (upd H3 a (.ins C dx' (putF f z fs')))

section
variable {X : Cx} {o e value : Expr} {f : Str} {pos pos' tpos : Pos} {ta tv : TE}
def rAdd : V → V → Hp → VK → Prop := fun x y H Q => ∃ i j, x = .int i ∧ y = .int j ∧ Q (.int (i + j)) H
def rSub : V → V → Hp → VK → Prop := fun x y H Q => ∃ i j, x = .int i ∧ y = .int j ∧ Q (.int (i - j)) H
end

/-! ### isinstance -/
section
variable {X : Cx} {pins : List (Addr × Obj)} {σ : St} {H : Hp} {s : Shared} {A : Around} {E : Value → Shared → Prop} {Q : Value → Shared → Prop} {c : Value} {b : Bool}
/-- the type of a value, as the fragment's deciders take it; for an instance its class -/
inductive TyOf (K : PySem.W.Frag) (H : Hp) : V → Value → Prop where
  | non : TyOf K H .non (.type "NoneType")
  | bl (x : Bool) : TyOf K H (.bl x) (.type "bool")
  | int (i : Int) : TyOf K H (.int i) (.type "int")
  | str (x : Str) : TyOf K H (.str x) (.type "str")
  | flt (x : UInt64) : TyOf K H (.flt x) (.type "float")
  | lst {a : Addr} {xs : List V} (e : H a = some (.lst xs)) : TyOf K H (.ref a) (.type "list")
  | frz {a : Addr} {o : Obj} {xs : List V} (e : H a = some (.frz o (.lst xs))) : TyOf K H (.ref a) (.type "list")
  | tup {a : Addr} {xs : List V} (e : H a = some (.tup xs)) : TyOf K H (.ref a) (.type "tuple")
  | dK {a : Addr} {kvs : List (Key × V)} (e : H a = some (.dK kvs)) : TyOf K H (.ref a) (.type "dict")
  | dT {a : Addr} {kvs : List (List Key × V)} (e : H a = some (.dT kvs)) : TyOf K H (.ref a) (.type "dict")
  | ins {a C dx : Addr} {fs : List (Str × V)} (e : H a = some (.ins C dx fs)) (cl : Cls K C) (ha : PySem.W.findIn K (.ref C) "__class__" = some (some (.builtin "object.__class__")))
      (hn : PySem.W.specialIn K (.builtin "object.__class__") "__get__" = some (some (.builtin "getset_descriptor.__get__"))) (htk : PySem.W.takesIn K (.builtin "object.__class__") = some true)
      (hm : PySem.W.mroIn K C (.type "object") = some true) : TyOf K H (.ref a) (.ref C)
/-- isinstance(x, c) for one class c, a built-in or an own one: kitOne's answer -/
theorem isinst_ok {x : V} {u t : Value} (I : Inv X pins σ H s) (rx : RelV x u) (ty : TyOf X.K H x t) (e : PySem.W.kitOne X.K t c = some b) (h : ∀ tk, Q (.bool b) { s with toks := tk }) :
    wpAny (model X.prog X.w) A (call (.builtin "isinstance") [u, c]) Q E s := by
  cases ty with
  | non => cases (show u = Value.none from rx); exact PySem.W.kia_one PySem.W.kitx_none I.kIn True.intro e (fun z => nomatch z) h
  | bl y => cases (show u = Value.bool y from rx); exact PySem.W.kia_one PySem.W.kitx_bool I.kIn True.intro e (fun z => nomatch z) h
  | int i => obtain ⟨t, q⟩ := (show ∃ t, u = Value.int i t from rx); cases q; exact PySem.W.kia_one PySem.W.kitx_int I.kIn True.intro e (fun z => nomatch z) h
  | str y => obtain ⟨t, q⟩ := (show ∃ t, u = Value.str y t from rx); cases q; exact PySem.W.kia_one PySem.W.kitx_str I.kIn True.intro e (fun z => nomatch z) h
  | flt y => obtain ⟨t, q⟩ := (show ∃ t, u = Value.float y t from rx); cases q; exact PySem.W.kia_one PySem.W.kitx_float I.kIn True.intro e (fun z => nomatch z) h
  | @lst a xs ea =>
    cases (show u = Value.ref a from rx)
    obtain ⟨_, _, n, _, h1⟩ := (show ObjOk X.prog X.w H s.heap a (.lst xs) from I.hok a _ ea)
    exact PySem.W.kia_one PySem.W.kitx_list I.kIn ⟨_, h1, rfl⟩ e (fun z => nomatch z) h
  | @frz a ob xs ea =>
    cases (show u = Value.ref a from rx)
    obtain ⟨_, _, _, n, _, h1⟩ := (show ObjOk X.prog X.w H s.heap a (.frz ob (.lst xs)) from I.hok a _ ea)
    exact PySem.W.kia_one PySem.W.kitx_list I.kIn ⟨_, h1, rfl⟩ e (fun z => nomatch z) h
  | @tup a xs ea =>
    cases (show u = Value.ref a from rx)
    obtain ⟨_, _, _, p⟩ := (show ObjOk X.prog X.w H s.heap a (.tup xs) from I.hok a _ ea)
    obtain ⟨o, h1, h2, _⟩ := p
    exact PySem.W.kia_one PySem.W.kitx_tuple I.kIn ⟨o, h1, h2⟩ e (fun z => nomatch z) h
  | @dK a kvs ea =>
    cases (show u = Value.ref a from rx)
    obtain ⟨_, _, vs, _, p⟩ := (show ObjOk X.prog X.w H s.heap a (.dK kvs) from I.hok a _ ea)
    obtain ⟨o, es, ep, h1, h2, _⟩ := p
    exact PySem.W.kia_one PySem.W.kitx_dict I.kIn ⟨o, h1, h2.1⟩ e (fun z => nomatch z) h
  | @dT a kvs ea =>
    cases (show u = Value.ref a from rx)
    obtain ⟨_, _, xs, _, o, es, ep, h1, h2, _⟩ := (show ObjOk X.prog X.w H s.heap a (.dT kvs) from I.hok a _ ea)
    exact PySem.W.kia_one PySem.W.kitx_dict I.kIn ⟨o, h1, h2.1⟩ e (fun z => nomatch z) h
  | @ins a C dx fs ea cl ha hn htk hm =>
    cases (show u = Value.ref a from rx)
    obtain ⟨mA, O, _⟩ := ins_get I.hok ea
    obtain ⟨od, J, _⟩ := O.look
    exact PySem.W.kia_one (PySem.W.kitx_own (cl.get _) cl.hd ha hn htk hm) I.kIn J e (fun z => nomatch z) h
end
end L2

namespace L2
open PySem PySem.Spec PyProof.Rows

/-! ### room -/
structure Room (k : Nat) (A : Around) : Prop where
  hd : A.handled = none
  dp : A.depth + 3 * k + 5 < recursionLimit
  un : A.units + 16 * k + 200 < cLine
theorem Room.mono {j k : Nat} {A : Around} (r : Room k A) (h : j ≤ k) : Room j A := ⟨r.hd, by have := r.dp; omega, by have := r.un; omega⟩
theorem Room.deeper {k : Nat} {A : Around} (r : Room (k + 1) A) (env : Env) : Room k (A.deeper env) :=
  ⟨r.hd, by have := r.dp; show A.depth + 1 + 3 * k + 5 < _; omega, by have := r.un; show A.units + 3 + 16 * k + 200 < _; omega⟩
theorem Room.depth {k : Nat} {A : Around} (r : Room k A) : A.depth < recursionLimit := by have := r.dp; omega
theorem Room.units {k : Nat} {A : Around} (r : Room k A) : A.units + 64 < cLine := by have := r.un; omega
/-! ### argument lists and displays -/
def tNil : TA := fun _ H Q => Q [] H
def tCons (ta : TE) (tr : TA) : TA := fun σ H Q => ta σ H fun x H1 => tr σ H1 fun xs H2 => Q (x :: xs) H2
section
variable {X : Cx} {e : Expr} {es : List Expr} {te : TE} {t : TA} {pos : Pos}
theorem pa_nil : PA X [] tNil := fun _ _ _ _ H Q I h => Calls.spliced_nil ⟨[], H, I, .nil, h⟩
theorem pa_cons (ha : PE X e te) (hr : PA X es t) (hs : starEach (e :: es) X.env = (false, eval e X.env) :: starEach es X.env := by rfl) : PA X (e :: es) (tCons te t) := by
  intro pos pins s σ H Q I h
  rw [hs]
  show wpAny _ _ (spliced ((false, eval e X.env) :: backTo pos (starEach es X.env))) _ _ s
  refine Calls.spliced_cons (thn (ha pins s σ H _ I h) fun u s1 ⟨x, H1, I1, r1, q1⟩ => ?_)
  exact thn (hr pos pins s1 σ H1 _ I1 q1) fun us s2 ⟨xs, H2, I2, r2, q2⟩ => ⟨x :: xs, H2, I2, .cons r1 r2, q2⟩

/-- a tuple, a list of written items -/
def tTup (t : TA) : TE := fun σ H Q => t σ H fun xs H1 => xs.length ≤ sizeLine ∧ ∀ p, H1 p = none → Q (.ref p) (upd H1 p (.tup xs))
def tLst (t : TA) : TE := fun σ H Q => t σ H fun xs H1 => xs.length ≤ sizeLine ∧ ∀ p, H1 p = none → Q (.ref p) (upd H1 p (.lst xs))
theorem pe_tup {x1} (h : PA X es t) : PE X (.Tuple es x1 pos) (tTup t) := by
  intro pins s σ H Q I hq
  refine wpAny_Tuple_spliced (thn (h pos pins s σ H _ I hq) fun us s1 ⟨xs, H1, I1, r, z, q⟩ => ⟨by rw [← r.length]; exact z, ?_⟩)
  have hf : H1 s1.heap.objs.size = none := I1.hok.fresh (Nat.le_refl _)
  refine ⟨.ref s1.heap.objs.size, upd H1 s1.heap.objs.size (.tup xs), I1.laid (t' := s1.toks) (fun b u e => Heap.get?_push_of_some _ e) (Nat.le_refl _) ?_, rfl, q _ hf⟩
  exact ⟨z, us, r, ⟨_, Heap.get?_push_size _ rfl, rfl, _, rfl⟩⟩
theorem pe_lst (h : PA X es t) : PE X (.List es pos) (tLst t) := by
  intro pins s σ H Q I hq
  refine wpAny_List_spliced (thn (h pos pins s σ H _ I hq) fun us s1 ⟨xs, H1, I1, r, z, q⟩ => ⟨by rw [← r.length]; exact z, ?_⟩)
  have hf : H1 s1.heap.objs.size = none := I1.hok.fresh (Nat.le_refl _)
  refine ⟨.ref s1.heap.objs.size, upd H1 s1.heap.objs.size (.lst xs), I1.laid (t' := s1.toks) (fun b u e => Heap.get?_push_of_some _ e) (Nat.le_refl _) ?_, rfl, q _ hf⟩
  exact ⟨z, us, 0, r, Heap.get?_push_size _ rfl⟩
end

/-! ### what a def promises -/
/-- a def's promise: the bound arguments in the parameters' order, the heap, the wanted end, the wanted exception -/
abbrev Sp := List V → Hp → VK → XK → Prop
/-- how an exception lies behind a call (file 08 gives it): the callers' frames, abstract heap and state ahead of the call, the wish, the exception, the state -/
abbrev CXT := List Env → Hp → Shared → XK → Value → Shared → Prop

/-- the state at a call -/
structure Env0 (P : Program) (w : World) (K : PySem.W.Frag) (mg : Str → Option Value) (base : Heap) (A : Around) (outer : List Env) (s : Shared) (H : Hp) : Prop where
  frames : A.frames = some outer
  mod : Mod K mg base
  bs : ∀ b o, base.get? b = some o → s.heap.get? b = some o ∧ H b = none
  bsz : base.objs.size ≤ s.heap.objs.size
  funs : s.heap.FunFrames base outer
  frf : ∀ b ∈ frs outer, H b = none
  hok : HOk P w H s.heap
  bare : AllBare s.gens
/-- a call's end -/
def CE (outer : List Env) (P : Program) (w : World) (H : Hp) (s : Shared) (Q : VK) (u : Value) (s' : Shared) : Prop :=
  ∃ v H', s'.os = s.os ∧ AllBare s'.gens ∧ Un (frs outer) [] H H' s.heap s'.heap ∧ HOk P w H' s'.heap ∧ RelV v u ∧ Q v H'
def CR (CX : CXT) (outer : List Env) (P : Program) (w : World) (H : Hp) (s : Shared) (Q : VK) (E : XK) (r : Result) (s' : Shared) : Prop :=
  match r with
  | .ok (.ret u) => CE outer P w H s Q u s'
  | .ok _ => False
  | .error e => CX outer H s E e s'
structure FnOk (P : Program) (w : World) (K : PySem.W.Frag) (mg : Str → Option Value) (base : Heap) (CX : CXT) (k : Nat) (f : Addr) (fd : FuncData) (ps : List Str) (sp : Sp) : Prop where
  len : ∀ vs H Q E, sp vs H Q E → vs.length = ps.length
  run : ∀ (A : Around) (outer : List Env) (s : Shared) (H : Hp) (args : Args) (us : List Value) (vs : List V) (Q : VK) (E : XK), Room k A → Env0 P w K mg base A outer s H → BindsTo s fd args (ps.zip us) → Vals vs us → sp vs H Q E →
    codeAny (model P w) A (.call (.ref f) args) (CR CX outer P w H s Q E) s
section
variable {X : Cx} {pins : List (Addr × Obj)} {σ : St} {H : Hp} {s s' : Shared}
/-- from a body: what a callee wants -/
theorem Inv.env0 (I : Inv X pins σ H s) : Env0 X.prog X.w X.K X.mg X.base X.A X.stack s H :=
  ⟨I.ok.frames, I.ok.mod, I.bs, Nat.le_trans I.ok.bsz I.sz, I.stack, I.stkFree, I.hok, I.bare⟩
/-- behind a call -/
theorem Inv.after {Q : VK} {u : Value} (I : Inv X pins σ H s) (h : CE X.stack X.prog X.w H s Q u s') : EP X pins σ Q u s' := by
  obtain ⟨v, H', os, bare, un, hok, r, q⟩ := h
  obtain ⟨hh, g, d, t, os'⟩ := s'
  obtain rfl : os' = s.os := os
  exact ⟨v, H', I.call (h' := hh) (g' := g) (d' := d) (t' := t) (ch := []) un hok bare (fun b z => absurd z (by simp)), r, q⟩
end

/-! ### calls -/
/-- f(..): the written arguments, then the defaults dvs; E: what is wanted of an exception -/
def tCall (sp : Sp) (dvs : List V) (E : XK) (t : TA) : TE := fun σ H Q => t σ H fun vs H1 => sp (vs ++ dvs) H1 Q E
/-- o.m(..) of an instance of the class at C -/
def tMeth (C : Addr) (m : Str) (sp : Sp) (dvs : List V) (E : XK) (ta : TE) (t : TA) : TE := fun σ H Q => ta σ H fun x H1 => ∃ a dx fs, x = .ref a ∧ H1 a = some (.ins C dx fs) ∧ fs.lookup m = none ∧
  t σ H1 fun vs H2 => sp (x :: (vs ++ dvs)) H2 Q E
/-- C(..): a new instance and its dict, then __init__ -/
def tMake (C : Addr) (sp : Sp) (dvs : List V) (E : XK) (t : TA) : TE := fun σ H Q => t σ H fun vs H1 => ∀ x dx, H1 x = none → H1 dx = none → dx ≠ x →
  sp (.ref x :: (vs ++ dvs)) (upd (upd H1 dx (.own x)) x (.ins C dx [])) (fun v H2 => v = .non ∧ Q (.ref x) H2) E

/-- how the parameters are bound: us the positional arguments, kw the keywords' values by name, ds the defaults that fill up -/
def Binds (K : PySem.W.Frag) (fd : FuncData) (ps : List Str) (ds : List Value) : Prop :=
  ∀ (s : Shared) (us : List Value), K.In s.heap → (us ++ ds).length = ps.length → BindsTo s fd ⟨us, []⟩ (ps.zip (us ++ ds))
/-- every parameter is given -/
theorem Binds.all {K : PySem.W.Frag} {fd : FuncData} {ps : List Str} (h : ∀ us : List Value, us.length = ps.length → bindArgs fd ⟨us, []⟩ = pure (ps.zip us)) : Binds K fd ps [] := fun s us _ hl => by
  rw [List.append_nil] at hl ⊢
  exact .of_eq (h us hl)

/-- an exception of a callee reaches what this body wants of exceptions -/
def Passes (CX : CXT) (X : Cx) (E : XK) : Prop := ∀ (pins : List (Addr × Obj)) (σ : St) (H : Hp) (s : Shared) (e : Value) (s' : Shared), Inv X pins σ H s → CX X.stack H s E e s' → X.xe e s'

section
variable {X : Cx} {CX : CXT} {k : Nat} {f C : Addr} {fd : FuncData} {ps : List Str} {sp : Sp} {dvs : List V} {ds : List Value} {E : XK} {x m : Str} {p pos apos : Pos} {e o : Expr} {es : List Expr} {ta : TE} {t : TA}

/-- the callee runs -/
theorem run_fn {pins : List (Addr × Obj)} {σ : St} {H : Hp} {s : Shared} {Q : VK} {us : List Value} {vs : List V} (F : FnOk X.prog X.w X.K X.mg X.base CX k f fd ps sp) (hr : Room k X.A) (hb : Binds X.K fd ps ds) (hd : Vals dvs ds) (hx : Passes CX X E)
    (I : Inv X pins σ H s) (r : Vals vs us) (h : sp (vs ++ dvs) H Q E) : wpAny (model X.prog X.w) X.A (call (.ref f) us) (EP X pins σ Q) X.xe s := by
  have r2 : Vals (vs ++ dvs) (us ++ ds) := r.append hd
  have hl : (us ++ ds).length = ps.length := by rw [← r2.length]; exact F.len _ _ _ _ h
  refine wpAny_call (codeAny_mono (F.run X.A X.stack s H ⟨us, []⟩ (us ++ ds) (vs ++ dvs) Q E hr I.env0 (hb s us I.kIn hl) r2 h) fun r s' hq => ?_)
  cases r with
  | error e => exact hx pins σ H s e s' I hq
  | ok fl =>
    cases fl with
    | ret u => exact I.after hq
    | next => exact False.elim hq
    | brk => exact False.elim hq
    | cont => exact False.elim hq

theorem pe_call (F : FnOk X.prog X.w X.K X.mg X.base CX k f fd ps sp) (hr : Room k X.A) (hg : Gl X x) (hm : X.mg x = some (.ref f)) (hk : PySem.W.keepIn X.K (.ref f) = true) (hb : Binds X.K fd ps ds) (hd : Vals dvs ds) (hx : Passes CX X E)
    (ha : PA X (e :: es) t) (hdb : (x == ("__debug__" : Str)) = false := by decide) (he : starEach (e :: es) X.env = (false, eval e X.env) :: starEach es X.env := by rfl) (hpl : (backTo pos (starEach es X.env)).any (·.1) = false := by rfl) :
    PE X (.Call (.Name x p) (e :: es) [] pos) (tCall sp dvs E t) := by
  intro pins s σ H Q I h
  refine wpAny_Call_Name_kw (ld_glob I hg hm ?_ hdb)
  refine PySem.W.callWith_K (h₀ := X.base) I.ok.mod.kin hk (thn (ha pos pins s σ H _ I h) fun us s1 ⟨vs, H1, I1, r, q⟩ => ⟨I1.kIn, ?_⟩) he hpl
  exact run_fn F hr hb hd hx I1 r q
/-- what a class must have to be made -/
structure Mk (K : PySem.W.Frag) (C f : Addr) : Prop where
  makes : PySem.W.makesIn K C = true
  init : PySem.W.findIn K (.ref C) "__init__" = some (some (.ref f))
  fn : PySem.W.isFn K (.ref f) = true
  kp : PySem.W.keepIn K (.ref C) = true

end

/-! ### keywords -/
/-- the values of the keywords, from the left -/
def PK (X : Cx) (kws : List Keyword) (t : TA) : Prop :=
  ∀ (pos : Pos) (pins : List (Addr × Obj)) (s : Shared) (σ : St) (H : Hp) (Q : List V → Hp → Prop), Inv X pins σ H s → t σ H Q → wpAny (model X.prog X.w) X.A (evalAll ((backToKw pos (keywordEach kws X.env)).map (·.2))) (AP X pins σ Q) X.xe s
section
variable {X : Cx} {CX : CXT} {k : Nat} {f C : Addr} {fd : FuncData} {ps ks : List Str} {sp : Sp} {E : XK} {x m : Str} {p pos apos kpos : Pos} {e o : Expr} {es : List Expr} {kws : List Keyword} {te ta : TE} {t tk : TA} {nm : Option Str}
/-- how a call with keywords binds: g puts the positional values us and the keywords' values ws (names ks) in the parameters' order, defaults among them -/
structure KBinds (K : PySem.W.Frag) (fd : FuncData) (ps ks : List Str) (g : List Value → List Value → List Value) (gV : List V → List V → List V) : Prop where
  to : ∀ (s : Shared) (us ws : List Value), K.In s.heap → (g us ws).length = ps.length → BindsTo s fd ⟨us, ks.zip ws⟩ (ps.zip (g us ws))
  rel : ∀ {vs : List V} {us : List Value} {zs : List V} {ws : List Value}, Vals vs us → Vals zs ws → Vals (gV vs zs) (g us ws)
def tCallK (sp : Sp) (gV : List V → List V → List V) (E : XK) (t tk : TA) : TE := fun σ H Q => t σ H fun vs H1 => tk σ H1 fun zs H2 => sp (gV vs zs) H2 Q E
variable {g : List Value → List Value → List Value} {gV : List V → List V → List V}
end

/-! ### a def's body keeps its promise -/
/-- names: the parameters first -/
structure FnScope (N P : List Str) (sc : Scope) : Prop where
  kind : sc.kind = .function
  co : sc.isCoroutine = false
  gen : sc.isGenerator = false
  nd : N.Nodup
  pre : N.take P.length = P
  par : ∀ x ∈ P, sc.names.lookup x = some .local ∨ sc.names.lookup x = some .cell
  nofree : ∀ y ∈ sc.names, y.2 ≠ .free

theorem bindL_out {kindOf : Str → Option NameKind} {x : Str} : ∀ {binds : List (Str × Value)} {m : Str → Option Value}, (∀ v, (x, v) ∉ binds) → bindL kindOf binds m x = m x
  | [], _, _ => rfl
  | (n, v) :: r, m, h => by
    unfold bindL
    rw [bindL_out fun w hw => h w (List.mem_cons_of_mem _ hw)]
    split
    · have : x ≠ n := by rintro rfl; exact h v List.mem_cons_self
      simp [this]
    · rfl
theorem bindC_out {kindOf : Str → Option NameKind} {x : Str} : ∀ {binds : List (Str × Value)} {m : Str → Option Value}, (∀ v, (x, v) ∉ binds) → bindC kindOf binds m x = m x
  | [], _, _ => rfl
  | (n, v) :: r, m, h => by
    unfold bindC
    rw [bindC_out fun w hw => h w (List.mem_cons_of_mem _ hw)]
    split
    · rfl
    · have : x ≠ n := by rintro rfl; exact h v List.mem_cons_self
      simp [this]
theorem bindL_get {kindOf : Str → Option NameKind} {x : Str} {v : Value} : ∀ {P : List Str} {vs : List Value} {i : Nat} {m : Str → Option Value}, P.Nodup → P[i]? = some x → vs[i]? = some v → kindOf x = some .local →
    bindL kindOf (P.zip vs) m x = some v
  | [], _, _, _, _, h, _, _ => by simp at h
  | _ :: _, [], _, _, _, _, h, _ => by simp at h
  | p :: P, w :: vs, 0, m, nd, h1, h2, hk => by
    simp at h1 h2; subst h1; subst h2
    show bindL kindOf ((p, w) :: P.zip vs) m p = _
    unfold bindL
    rw [bindL_out fun v hv => (List.nodup_cons.mp nd).1 (List.of_mem_zip hv).1, if_pos hk]
    simp
  | p :: P, w :: vs, i + 1, m, nd, h1, h2, hk => by
    show bindL kindOf ((p, w) :: P.zip vs) m x = _
    unfold bindL
    exact bindL_get (i := i) (List.nodup_cons.mp nd).2 (by simpa using h1) (by simpa using h2) hk
theorem bindC_get {kindOf : Str → Option NameKind} {x : Str} {v : Value} : ∀ {P : List Str} {vs : List Value} {i : Nat} {m : Str → Option Value}, P.Nodup → P[i]? = some x → vs[i]? = some v → kindOf x ≠ some .local →
    bindC kindOf (P.zip vs) m x = some v
  | [], _, _, _, _, h, _, _ => by simp at h
  | _ :: _, [], _, _, _, _, h, _ => by simp at h
  | p :: P, w :: vs, 0, m, nd, h1, h2, hk => by
    simp at h1 h2; subst h1; subst h2
    show bindC kindOf ((p, w) :: P.zip vs) m p = _
    unfold bindC
    rw [bindC_out fun v hv => (List.nodup_cons.mp nd).1 (List.of_mem_zip hv).1, if_neg hk]
    simp
  | p :: P, w :: vs, i + 1, m, nd, h1, h2, hk => by
    show bindC kindOf ((p, w) :: P.zip vs) m x = _
    unfold bindC
    exact bindC_get (i := i) (List.nodup_cons.mp nd).2 (by simpa using h1) (by simpa using h2) hk

/-- the names' values at the entry -/
def start (N : List Str) (vs : List V) : St := vs.map some ++ List.replicate (N.length - vs.length) none

/-- the context of a def's body, at its entry; an exception leaves the frame, then lies as CX says -/
def cxOf (CX : CXT) (P : Program) (w : World) (K : PySem.W.Frag) (mg : Str → Option Value) (base : Heap) (N : List Str) (qual : Str) (scope : Scope) (f : Addr) (cd : Value) (A : Around) (outer : List Env) (s : Shared) (H : Hp) (E : XK) : Cx where
  prog := P
  w := w
  K := K
  mg := mg
  base := base
  A := A.deeper (envOfC qual scope s.heap.objs.size f cd)
  N := N
  s₀ := s
  H₀ := H
  env := envOfC qual scope s.heap.objs.size f cd
  outer := outer
  stack := envOfC qual scope s.heap.objs.size f cd :: outer
  ex := []
  calm := true
  fn := fun _ => true
  pn := []
  xe := fun e s' => wpAny (model P w) (A.deeper (envOfC qual scope s.heap.objs.size f cd)) (leaving (envOfC qual scope s.heap.objs.size f cd) e) (fun _ s'' => CX outer H s E e s'') (fun e' s'' => CX outer H s E e' s'') s'

theorem cell_has {sc : Scope} {n : Nat} {x : Str} (h : sc.names.lookup x = some .cell) : ∃ c, (cellsFrom n sc.names []).lookup x = some c := by
  have q := PySem.W.cellsFrom_some sc.names n [] (.inl h)
  exact Option.isSome_iff_exists.mp q

theorem inv_start {CX : CXT} {P : Program} {w : World} {K : PySem.W.Frag} {mg : Str → Option Value} {base : Heap} {N ps : List Str} {qual : Str} {scope : Scope} {f : Addr} {cd : Value} {A : Around} {outer : List Env} {s s1 : Shared} {H : Hp} {E : XK} {us : List Value} {vs : List V}
    (S : FnScope N ps scope) (hd : A.handled = none) (e0 : Env0 P w K mg base A outer s H) (hl : vs.length = ps.length) (r : Vals vs us)
    (x : InCallC s s.heap.objs.size (bindL (envOfC qual scope s.heap.objs.size f cd).kindOf (ps.zip us) fun _ => none) (cellsFrom (s.heap.objs.size + 1) scope.names []) (bindC (envOfC qual scope s.heap.objs.size f cd).kindOf (ps.zip us) fun _ => none) s1) :
    Inv (cxOf CX P w K mg base N qual scope f cd A outer s H E) [] (start N vs) H s1 := by
  have hpl : ps.length ≤ N.length := by have := congrArg List.length S.pre; rw [List.length_take] at this; omega
  obtain ⟨h1, tk, rfl, hk⟩ := x.done
  have noA : ∀ b : Addr, b ∉ (cxOf CX P w K mg base N qual scope f cd A outer s H E).ex := fun b z => absurd (show b ∈ ([] : List Addr) from z) (by simp)
  refine ⟨⟨e0.mod, S.kind, rfl, rfl, Nat.le_refl _, fun y z c h1 h2 => ?_, fun y hy => ?_, fun y c _ h => ?_, fun _ => hd, Around.frames_deeper e0.frames, .inr ⟨rfl, rfl⟩, fun b z => absurd z (noA b), e0.bs, e0.bsz, fun b _ _ => noA b, fun b z => absurd z (noA b), e0.funs, e0.frf⟩,
    rfl, e0.bare, Un.kept hk, ⟨_, x.toInCall.ns, fun i y v h1 h2 h3 => ?_⟩, fun y c h => ⟨_, x.cell y c h⟩, e0.hok.fresh (Nat.le_refl _), fun y c h => ?_, fun p hp => absurd (show p ∈ ([] : List (Addr × Obj)) from hp) (by simp), e0.hok.kept hk, ?_⟩
  · exact name_of_addr x.apart (PySem.mem_of_lookup h1) (PySem.mem_of_lookup h2)
  · have hy : scope.names.lookup y = some .cell ∨ scope.names.lookup y = some .free := hy
    rcases hy with hy | hy
    · exact cell_has hy
    · exact absurd rfl (S.nofree _ (PySem.mem_of_lookup hy))
  · exact Nat.le_of_lt (x.above y c (PySem.mem_of_lookup h))
  · have hi : i < vs.length := by
      unfold start at h2
      by_cases hi : i < vs.length
      · exact hi
      · rw [List.getElem?_append_right (by simpa using hi)] at h2
        rw [List.getElem?_replicate] at h2
        split at h2 <;> cases h2
    have ha : vs[i]? = some v := by
      unfold start at h2
      rw [List.getElem?_append_left (by simpa using hi), List.getElem?_map] at h2
      cases e : vs[i]? with
      | none => rw [e] at h2; cases h2
      | some a => rw [e] at h2; cases h2; rfl
    obtain ⟨u, hu, rv⟩ := r.get ha
    have hp : ps[i]? = some y := by
      rw [← S.pre, List.getElem?_take_of_lt (by omega)]; exact h1
    have ndP : ps.Nodup := by rw [← S.pre]; exact S.nd.sublist (List.take_sublist _ _)
    refine ⟨u, rv, ?_⟩
    rcases S.par y (List.mem_of_getElem? hp) with k | k
    · exact .inl ⟨k, bindL_get ndP hp hu k⟩
    · obtain ⟨c, e⟩ := cell_has (n := s.heap.objs.size + 1) k
      refine .inr ⟨.inl k, c, e, ?_⟩
      have q := x.cell y c e
      rw [bindC_get ndP hp hu (by show scope.names.lookup y ≠ _; rw [k]; decide)] at q
      exact q
  · exact e0.hok.fresh (Nat.le_of_lt (x.above y c (PySem.mem_of_lookup h)))
  · unfold start
    show _ = N.length
    rw [List.length_append, List.length_map, List.length_replicate]
    omega

/-- THE RULE: a def (or a method) of the text, by its body. The body's reading t is chosen for each entry; it is run at the parameters' values -/
theorem fn_of {CX : CXT} {P : Program} {w : World} {K : PySem.W.Frag} {mg : Str → Option Value} {base : Heap} {k : Nat} {f : Addr} {name qual : Str} {params : Arguments} {body : List Stmt} {scope : Scope} {dV kV doc pm cdv ct oc : Value} {an od : Option Addr}
    {osl : Array (Option Value)} {N ps : List Str} {sp : Sp} (lk : K.lookup f = some ⟨oc, od, .func (PySem.W.fnOf name qual params body scope dV kV doc pm an cdv ct), osl⟩) (hcd : PySem.W.codeIn K cdv qual = true) (S : FnScope N ps scope)
    (len : ∀ vs H Q E, sp vs H Q E → vs.length = ps.length)
    (hbody : ∀ (A : Around) (outer : List Env) (s : Shared) (H : Hp) (vs : List V) (Q : VK) (E : XK), Room k (A.deeper (envOfC qual scope s.heap.objs.size f cdv)) → sp vs H Q E →
      ∃ t, PSs (cxOf CX P w K mg base N qual scope f cdv A outer s H E) body t ∧ t { nx := fun _ H' => Q .non H', rt := Q } (start N vs) H) :
    FnOk P w K mg base CX (k + 1) f (PySem.W.fnOf name qual params body scope dV kV doc pm an cdv ct) ps sp := by
  refine ⟨len, fun A outer s H args us vs Q E hr e0 hb r hsp => ?_⟩
  have hl := len _ _ _ _ hsp
  have KX : K.In s.heap := e0.mod.kin.keeps fun b o e => (e0.bs b o e).1
  have lim : s.heap.NoLimit := e0.mod.nolimit.keeps fun b o e => (e0.bs b o e).1
  have hkind : ∀ y ∈ ps.zip us, scope.names.lookup y.1 = some .local ∨ (scope.names.lookup y.1 = some .cell ∧ ((cellsFrom (s.heap.objs.size + 1) scope.names []).lookup y.1).isSome = true) := fun ⟨n, v⟩ hy => by
    rcases S.par n (List.of_mem_zip hy).1 with q | q
    · exact .inl q
    · exact .inr ⟨q, PySem.W.cellsFrom_some _ _ _ (.inl q)⟩
  refine codeAny_call_function hr.depth (KX _ _ lk) rfl S.co S.gen rfl (PySem.W.codeRec_of KX hcd) (hb _ _ _ _ ?_)
  refine wpAny_newFunctionEnv_cells S.kind hkind fun env he s1 x => ?_
  subst he
  refine ⟨lim.keeps x.toInCall.keep, codeAny_func ?_⟩
  obtain ⟨t, ht, hq⟩ := hbody A outer s H vs Q E (hr.deeper _) hsp
  have I : Inv (cxOf CX P w K mg base N qual scope f cdv A outer s H E) [] (start N vs) H s1 := inv_start S hr.hd e0 hl r x
  refine wpAny_mono (ht [] s1 (start N vs) H _ I hq) (fun fl s' hs => ?_) fun e s' hs => hs
  have fin : ∀ {σ' : St} {H' : Hp} {v : V} {u : Value}, Inv (cxOf CX P w K mg base N qual scope f cdv A outer s H E) [] σ' H' s' → RelV v u → Q v H' → CE outer P w H s Q u s' :=
    fun {σ' H' v u} J rv q => ⟨v, H', J.os, J.bare, J.base, J.hok, rv, q⟩
  cases fl with
  | ret u =>
    obtain ⟨v, σ', H', J, rv, q⟩ := hs
    exact fin J rv q
  | next =>
    obtain ⟨σ', H', J, q⟩ := hs
    exact fin (v := V.non) (u := Value.none) J rfl q
  | brk =>
    obtain ⟨_, _, _, q⟩ := hs
    exact False.elim q
  | cont =>
    obtain ⟨_, _, _, q⟩ := hs
    exact False.elim q
end L2

namespace L2
open PySem PySem.Spec PyProof.Rows
section
variable {X : Cx} {x : Str} {p pos : Pos} {e : Expr} {es : List Expr} {t : TA} {id T : String} {r : List V → Hp → VK → Prop}

def tCB (r : List V → Hp → VK → Prop) (t : TA) : TE := fun σ H Q => t σ H fun vs H1 => r vs H1 Q
/-- f(e, ..), f a built-in function -/
theorem pe_callB (hc : CallR X (.builtin id) r) (hg : Gl X x) (hm : X.mg x = none) (hv : bootBuiltins x = some (.builtin id)) (ha : PA X (e :: es) t) (hn : x ≠ "__name__" := by decide) (hdb : (x == ("__debug__" : Str)) = false := by decide)
    (he : starEach (e :: es) X.env = (false, eval e X.env) :: starEach es X.env := by rfl) (hpl : (backTo pos (starEach es X.env)).any (·.1) = false := by rfl) : PE X (.Call (.Name x p) (e :: es) [] pos) (tCB r t) := by
  intro pins s σ H Q I h
  refine wpAny_Call_Name_kw (ld_blt I hg hm hv ?_ hn hdb)
  exact PyProof.Rows.callWith_builtin1 (thn (ha pos pins s σ H _ I h) fun us s1 ⟨vs, H1, I1, r1, q1⟩ => hc pins s1 σ H1 vs us Q I1 r1 q1) he hpl
/-- T(e, ..), T a built-in type -/
theorem pe_callTy (hc : CallR X (.type T) r) (hg : Gl X x) (hm : X.mg x = none) (hv : bootBuiltins x = some (.type T)) (ha : PA X (e :: es) t) (hn : x ≠ "__name__" := by decide) (hdb : (x == ("__debug__" : Str)) = false := by decide)
    (he : starEach (e :: es) X.env = (false, eval e X.env) :: starEach es X.env := by rfl) (hpl : (backTo pos (starEach es X.env)).any (·.1) = false := by rfl) : PE X (.Call (.Name x p) (e :: es) [] pos) (tCB r t) := by
  intro pins s σ H Q I h
  refine wpAny_Call_Name_kw (ld_blt I hg hm hv ?_ hn hdb)
  exact PyProof.Rows.callWith_type1 (thn (ha pos pins s σ H _ I h) fun us s1 ⟨vs, H1, I1, r1, q1⟩ => hc pins s1 σ H1 vs us Q I1 r1 q1) he hpl
/-- T() -/
theorem pe_callTy0 (hc : CallR X (.type T) r) (hg : Gl X x) (hm : X.mg x = none) (hv : bootBuiltins x = some (.type T)) (hn : x ≠ "__name__" := by decide) (hdb : (x == ("__debug__" : Str)) = false := by decide) :
    PE X (.Call (.Name x p) [] [] pos) (tCB r tNil) := by
  intro pins s σ H Q I h
  refine wpAny_Call_Name_kw (ld_blt I hg hm hv ?_ hn hdb)
  exact PyProof.Rows.callWith_type0 (hc pins s σ H [] [] Q I .nil h)
end
end L2

namespace HT
open PySem PyProof.Rows

/-- t < u of tuples of ints -/
def lexLt : List Int → List Int → Bool
  | [], [] => false
  | [], _ :: _ => true
  | _ :: _, [] => false
  | x :: xs, y :: ys => if x = y then lexLt xs ys else decide (x < y)
section
open PySem.SeqAt
open PySem.AutoSeq1 (wpAny_loadPart')
open PySem.MeetsSeq PySem.MeetsSeq2 PySem.MeetsSeq3

end

section
variable {prog : Program} {w : World} {A : Around} {E : Value → Shared → Prop} {s : Shared}

/-! ### t[a:b], not the whole -/
/-- a slice's bound as a place among n (d where it is left out) -/
def sIx (n d : Nat) : Option Int → Nat
  | none => d
  | some v => if v < 0 then (v + (n : Int)).toNat else min v.toNat n
theorem sIx_none (n d : Nat) : sIx n d none = d := rfl
theorem sIx_nat (n d k : Nat) : sIx n d (some (k : Int)) = min k n := by
  show (if (k : Int) < 0 then ((k : Int) + (n : Int)).toNat else min (k : Int).toNat n) = min k n
  rw [if_neg (by omega), Int.toNat_natCast]
end
end HT

namespace L2
open PySem PySem.Spec PyProof.Rows

/-! ### the parts of a slice -/
abbrev TO := St → Hp → (Option Int → Hp → Prop) → Prop
/-- a slice's part (left out, or an int) -/
def PO (X : Cx) (e : Option Expr) (t : TO) : Prop :=
  ∀ (pins : List (Addr × Obj)) (s : Shared) (σ : St) (H : Hp) (Q : Option Int → Hp → Prop), Inv X pins σ H s → t σ H Q →
    wpAny (model X.prog X.w) X.A (evalPart e X.env) (fun u s' => ∃ o H', Inv X pins σ H' s' ∧ IsPart u o ∧ Q o H') X.xe s
def tNoPart : TO := fun _ H Q => Q none H
def tPart (t : TE) : TO := fun σ H Q => t σ H fun x H1 => ∃ i, x = .int i ∧ Q (some i) H1

section
variable {X : Cx} {e : Expr} {te : TE} {lo hi : Option Expr} {tl th : TO} {pos p2 : Pos}

theorem po_none : PO X none tNoPart := by
  intro pins s σ H Q I h
  rw [evalPart_none]
  exact wpAny_pure ⟨none, H, I, .none, h⟩
theorem po_some (h : PE X e te) : PO X (some e) (tPart te) := by
  intro pins s σ H Q I hw
  rw [evalPart_some]
  refine thn (h pins s σ H _ I hw) fun u s1 ⟨x, H1, I1, r1, q1⟩ => ?_
  obtain ⟨i, rfl, q⟩ := q1
  obtain ⟨t, rfl⟩ := r1
  exact ⟨some i, H1, I1, .int i t, q⟩

/-- what a slice of a value is, by values: the slice object stands at sl -/
def SlR (X : Cx) (r : V → Option Int → Option Int → Hp → VK → Prop) : Prop :=
  ∀ (pins : List (Addr × Obj)) (s : Shared) (σ : St) (H : Hp) (x : V) (v vl vu : Value) (lo hi : Option Int) (sl : Addr) (Q : VK), Inv X pins σ H s → RelV x v → s.heap.IsSliceOf sl vl vu .none → IsPart vl lo → IsPart vu hi → r x lo hi H Q →
    ∃ T id, typeLookup (.type T) "__getitem__" = pure (some (.builtin id)) ∧ s.TypeIs v T ∧ wpAny (model X.prog X.w) X.A (getItem v (.ref sl)) (EP X pins σ Q) X.xe s
def tSl (r : V → Option Int → Option Int → Hp → VK → Prop) (te : TE) (tl th : TO) : TE := fun σ H Q => te σ H fun x H1 => tl σ H1 fun l H2 => th σ H2 fun u H3 => r x l u H3 Q
/-- a[lo:hi], any a -/
theorem pe_slice {r : V → Option Int → Option Int → Hp → VK → Prop} (hr : SlR X r) (he : PE X e te) (hl : PO X lo tl) (hu : PO X hi th) : PE X (.Subscript e (.Slice lo hi none p2) pos) (tSl r te tl th) := by
  intro pins s σ H Q I h
  refine Subscript_ (thn (he pins s σ H _ I h) fun v s1 ⟨x, H1, I1, r1, q1⟩ => ?_)
  refine wpAny_Slice (thn (hl pins s1 σ H1 _ I1 q1) fun vl s2 ⟨l, H2, I2, pl, q2⟩ => thn (hu pins s2 σ H2 _ I2 q2) fun vu s3 ⟨u, H3, I3, pu, q3⟩ => ?_)
  rw [evalPart_none]
  refine wpAny_pure ?_
  have I4 : Inv X pins σ H3 { s3 with heap := s3.heap.push { cls := .type "slice", data := .fields #[vl, vu, .none] } } := I3.kept (t' := s3.toks) fun b ob q => Heap.get?_push_of_some _ q
  obtain ⟨T, id, hT, ht, hg⟩ := hr pins { s3 with heap := s3.heap.push { cls := .type "slice", data := .fields #[vl, vu, .none] } } σ H3 x v vl vu l u s3.heap.objs.size Q I4 r1 (Heap.IsSliceOf.new ..) pl pu q3
  show wpAny (model X.prog X.w) X.A (subscriptTail e (.Slice lo hi none p2) v (.ref s3.heap.objs.size)) (EP X pins σ Q) X.xe { s3 with heap := s3.heap.push { cls := .type "slice", data := .fields #[vl, vu, .none] } }
  exact tail_any (ops := [.ref s3.heap.objs.size, v]) ht hT hg (by with_unfolding_all rfl)

/-- the items of xs[lo:hi] -/
def cutV (xs : List V) (lo hi : Option Int) : List V := (xs.drop (HT.sIx xs.length 0 lo)).take (HT.sIx xs.length xs.length hi - HT.sIx xs.length 0 lo)
theorem cutV_length (xs : List V) (lo hi : Option Int) : (cutV xs lo hi).length ≤ xs.length := by
  unfold cutV
  rw [List.length_take, List.length_drop]
  omega
/-- t[lo:hi], not the whole of it (the whole would be t itself) -/
def rSlT (K : PySem.W.Frag) : V → Option Int → Option Int → Hp → VK → Prop := fun x lo hi H Q => ∃ a xs, x = .ref a ∧ SqT K H a xs ∧
  ¬ (HT.sIx xs.length 0 lo = 0 ∧ HT.sIx xs.length xs.length hi = xs.length) ∧ ∀ p, H p = none → Q (.ref p) (upd H p (.tup (cutV xs lo hi)))
/-! ### t < u, t + u -/
def rLtT (K : PySem.W.Frag) : R2 := fun x y H Q => ∃ a b ns ms, x = .ref a ∧ y = .ref b ∧ SqT K H a (ns.map V.int) ∧ SqT K H b (ms.map V.int) ∧ Q (.bl (HT.lexLt ns ms)) H
/-- t + u, t not empty: u empty gives t itself -/
def rCatT (K : PySem.W.Frag) : R2 := fun x y H Q => ∃ a b xs ys, x = .ref a ∧ y = .ref b ∧ SqT K H a xs ∧ SqT K H b ys ∧ xs ≠ [] ∧ xs.length + ys.length ≤ sizeLine ∧
  (ys = [] → Q (.ref a) H) ∧ (ys ≠ [] → ∀ p, H p = none → Q (.ref p) (upd H p (.tup (xs ++ ys))))
end
end L2

namespace L2
open PySem PySem.Spec PyProof.Rows

/-! ### places -/
/-- the place that an index of any sign means -/
def ixN (n : Nat) (i : Int) : Option Nat := if 0 ≤ i then (if i < n then some i.toNat else none) else if -(n : Int) ≤ i then some (i + n).toNat else none
def atI {α : Type} (xs : List α) (i : Int) : Option α := (ixN xs.length i).bind fun j => xs[j]?
theorem ixN_seq {n : Nat} {i : Int} {j : Nat} (h : ixN n i = some j) : seqIndex? i n = some j ∧ j < n ∧ -(n : Int) ≤ i ∧ i < n := by
  unfold ixN at h
  by_cases h0 : 0 ≤ i
  · rw [if_pos h0] at h
    by_cases h1 : i < n
    · rw [if_pos h1] at h
      have e : i.toNat = j := Option.some.inj h
      exact ⟨by rw [seqIndex_of h0 h1, e], by omega, by omega, h1⟩
    · rw [if_neg h1] at h; cases h
  · rw [if_neg h0] at h
    by_cases h1 : -(n : Int) ≤ i
    · rw [if_pos h1] at h
      have e : (i + n).toNat = j := Option.some.inj h
      exact ⟨by rw [seqIndex_neg (by omega) h1, e], by omega, h1, by omega⟩
    · rw [if_neg h1] at h; cases h
theorem atI_get {α : Type} {xs : List α} {i : Int} {v : α} (h : atI xs i = some v) : ∃ j, seqIndex? i xs.length = some j ∧ xs[j]? = some v ∧ j < xs.length ∧ -(xs.length : Int) ≤ i ∧ i < xs.length := by
  unfold atI at h
  cases e : ixN xs.length i with
  | none => rw [e] at h; cases h
  | some j =>
    rw [e] at h
    obtain ⟨h1, h2, h3, h4⟩ := ixN_seq e
    exact ⟨j, h1, h, h2, h3, h4⟩
theorem atI_nat {α : Type} {xs : List α} {j : Nat} {v : α} (h : xs[j]? = some v) : atI xs (j : Int) = some v := by
  have hj : j < xs.length := (List.getElem?_eq_some_iff.mp h).1
  have e : ixN xs.length (j : Int) = some j := by
    unfold ixN
    rw [if_pos (by omega), if_pos (by omega)]; simp
  unfold atI; rw [e]; exact h
/-! ### what may be subscripted -/
/-- what stands as an index of a plain subscript -/
def PlainIx (b : Expr) : Prop := ∀ o i, subscripted b false o i = operate [o, i] (getItem o i)
/-- a subscript by values -/
def IxR (X : Cx) (r : R2) : Prop :=
  ∀ (value slice : Expr) (pins : List (Addr × Obj)) (s : Shared) (σ : St) (H : Hp) (x y : V) (v u : Value) (Q : VK), Inv X pins σ H s → RelV x v → RelV y u → r x y H Q →
    subscripted slice false v u = operate [v, u] (getItem v u) → wpAny (model X.prog X.w) X.A (subscriptTail value slice v u) (EP X pins σ Q) X.xe s
/-- a call of a builtin's method by values: the receiver, the arguments -/
def MtR (X : Cx) (id : String) (r : V → List V → Hp → VK → Prop) : Prop :=
  ∀ (pins : List (Addr × Obj)) (s : Shared) (σ : St) (H : Hp) (x : V) (xs : List V) (v : Value) (us : List Value) (Q : VK), Inv X pins σ H s → RelV x v → Vals xs us → r x xs H Q →
    wpAny (model X.prog X.w) X.A (call (.builtin id) (v :: us)) (EP X pins σ Q) X.xe s
section
variable {X : Cx} {a b : Expr} {ta tb : TE} {pos : Pos}
/-- a[b] -/
theorem pe_ix {r : R2} (hr : IxR X r) (ha : PE X a ta) (hb : PE X b tb) (hs : PlainIx b) : PE X (.Subscript a b pos) (tOp r ta tb) := by
  intro pins s σ H Q I h
  exact Subscript_ (binT ha hb I h fun v u s2 x y H2 I2 rx ry q => hr a b pins s2 σ H2 x y v u Q I2 rx ry q (hs _ _))

def rIxL (K : PySem.W.Frag) : R2 := fun x y H Q => ∃ p xs i v, x = .ref p ∧ y = .int i ∧ SqL K H p xs ∧ atI xs i = some v ∧ Q v H
def rIxT (K : PySem.W.Frag) : R2 := fun x y H Q => ∃ p xs i v, x = .ref p ∧ y = .int i ∧ SqT K H p xs ∧ atI xs i = some v ∧ Q v H
def rIxS : R2 := fun x y H Q => ∃ z i c, x = .str z ∧ y = .int i ∧ z.length ≤ sizeLine ∧ atI z.cps.toList i = some c ∧ Q (.str ⟨#[c]⟩) H
theorem ix_list : IxR X (rIxL X.K) := by
  intro value slice pins s σ H x y v u Q I rx ry h hs
  obtain ⟨p, xs, i, z, rfl, rfl, hq, he, q⟩ := h
  cases rx
  obtain ⟨t, rfl⟩ := ry
  obtain ⟨its, r, pl, hz⟩ := I.list hq
  obtain ⟨j, h1, h2, h3, h4, h5⟩ := atI_get he
  obtain ⟨w, ew, rw'⟩ := r.get h2
  have hl := r.length
  have hn := line63
  have fin : EP X pins σ Q w s := ⟨z, H, I, rw', q⟩
  by_cases h0 : 0 ≤ i
  · have hj : i.toNat = j := by
      rw [seqIndex_of h0 h5] at h1
      exact Option.some.inj h1
    exact item_listR pl.isList h0 (by omega) (by rw [hj]; simpa using ew) fin hs
  · have hj : (i + (its.toArray.size : Int)).toNat = j := by
      rw [seqIndex_neg (by omega) h4] at h1
      rw [List.size_toArray, ← hl]
      exact Option.some.inj h1
    exact subscriptTail_builtinR (x := w) pl.isList.typeIs slot_list_getitem.lookup
      (wpAny_getItem_list_neg (Q := fun r s' => r = w ∧ EP X pins σ Q r s') pl.isList (by omega) (by rw [List.size_toArray] <;> omega) (by omega) (by rw [hj]; simpa using ew) ⟨rfl, fin⟩) hs
theorem ix_tup : IxR X (rIxT X.K) := by
  intro value slice pins s σ H x y v u Q I rx ry h hs
  obtain ⟨p, xs, i, z, rfl, rfl, hq, he, q⟩ := h
  cases rx
  obtain ⟨t, rfl⟩ := ry
  obtain ⟨its, r, pl, hz⟩ := I.tuple hq
  obtain ⟨j, h1, h2, h3, h4, h5⟩ := atI_get he
  obtain ⟨w, ew, rw'⟩ := r.get h2
  have hl := r.length
  have hn := line63
  have fin : EP X pins σ Q w s := ⟨z, H, I, rw', q⟩
  exact subscriptTail_builtinR (x := w) pl.typeIs slot_tuple_getitem.lookup
    (getItem_tuple (j := j) (Q := fun r s' => r = w ∧ EP X pins σ Q r s') pl (by omega) (by omega) (by rw [List.size_toArray, ← hl]; exact h1) (by simpa using ew) ⟨rfl, fin⟩) hs
/-- list, tuple or str -/
def rIx (K : PySem.W.Frag) : R2 := fun x y H Q => rIxL K x y H Q ∨ rIxT K x y H Q ∨ rIxS x y H Q
/-! ### xs[i] = v, any sign -/
def rSetL : V → V → V → Hp → (Hp → Prop) → Prop := fun o i v H Q => ∃ p xs k j, o = .ref p ∧ i = .int k ∧ H p = some (.lst xs) ∧ ixN xs.length k = some j ∧ Q (upd H p (.lst (xs.set j v)))
/-! ### slices -/
theorem slice_bounds (lo hi : Option Int) (n : Nat) : (sliceBounds lo hi none n).1 = ((HT.sIx n 0 lo : Nat) : Int) ∧ (sliceBounds lo hi none n).2.1 = ((HT.sIx n n hi : Nat) : Int) ∧ (sliceBounds lo hi none n).2.2 = 1 := by
  refine ⟨?_, ?_, rfl⟩
  · cases lo with
    | none => simp [sliceBounds, HT.sIx]
    | some i =>
      simp only [sliceBounds, HT.sIx, Option.getD_none, show (1 : Int) > 0 by decide, if_true]
      by_cases h : i < 0
      · simp only [h, if_true] <;> omega
      · simp only [h, if_false] <;> omega
  · cases hi with
    | none => simp [sliceBounds, HT.sIx]
    | some i =>
      simp only [sliceBounds, HT.sIx, Option.getD_none, show (1 : Int) > 0 by decide, if_true]
      by_cases h : i < 0
      · simp only [h, if_true] <;> omega
      · simp only [h, if_false] <;> omega
theorem slicePick_cut (its : List Value) (lo hi : Option Int) : slicePick its.toArray lo hi none = ((its.drop (HT.sIx its.length 0 lo)).take (HT.sIx its.length its.length hi - HT.sIx its.length 0 lo)).toArray := by
  obtain ⟨h1, h2, h3⟩ := slice_bounds lo hi its.toArray.size
  unfold slicePick
  rw [h1, h2, h3]
  simp only [sliceRange_one, pick_run, List.size_toArray] <;> rfl
/-- xs[lo:hi] of a list: a new list -/
def rSlL (K : PySem.W.Frag) : V → Option Int → Option Int → Hp → VK → Prop := fun x lo hi H Q => ∃ a xs, x = .ref a ∧ SqL K H a xs ∧ ∀ p, H p = none → Q (.ref p) (upd H p (.lst (cutV xs lo hi)))
theorem sl_list : SlR X (rSlL X.K) := by
  intro pins s σ H x v vl vu lo hi sl Q I rx hs pl pu h
  obtain ⟨a, xs, rfl, hx, q⟩ := h
  cases rx
  obtain ⟨its, r, ht, hz⟩ := I.list hx
  have hlen := r.length
  refine ⟨"list", _, slot_list_getitem.lookup, ht.isList.typeIs, ?_⟩
  refine wpAny_getItem_list_slice ht.isList hs pl pu .none (by simp) ?_ (by rw [List.size_toArray] <;> omega)
  rw [slicePick_cut, ← hlen]
  refine ⟨.ref s.heap.objs.size, _, I.laid (t' := s.toks) (o := .lst (cutV xs lo hi)) (fun b ob q => Heap.get?_push_of_some _ q) (Nat.le_refl _) ?_, rfl, q _ (I.hok.fresh (Nat.le_refl _))⟩
  exact ⟨Nat.le_trans (cutV_length xs lo hi) hz, _, 0, (r.drop (HT.sIx xs.length 0 lo)).take (HT.sIx xs.length xs.length hi - HT.sIx xs.length 0 lo), Heap.get?_push_size _ rfl⟩

/-! ### in, not in: flat items -/
def flatV : V → Bool
  | .non => true
  | .bl _ => true
  | .int _ => true
  | .str _ => true
  | _ => false
/-- == of flat values -/
def eqV : V → V → Bool
  | .non, .non => true
  | .bl a, .bl b => a == b
  | .bl a, .int b => (if a then 1 else 0) == b
  | .int a, .bl b => a == (if b then 1 else 0)
  | .int a, .int b => a == b
  | .str a, .str b => a == b
  | _, _ => false
theorem eqAt_V {A : Around} {s : Shared} {y x : V} {u v : Value} (ry : RelV y u) (rx : RelV x v) (fy : flatV y = true) (fx : flatV x = true) : SeqAt.EqAt A s u v (eqV y x) := by
  cases y with
  | non =>
    cases ry
    cases x with
    | non => cases rx; exact SeqAt.EqAt.same _
    | bl b => cases rx; exact SeqAt.EqAt.none_bool b
    | int b => obtain ⟨t, rfl⟩ := rx; exact SeqAt.EqAt.none_int b t
    | str b => obtain ⟨t, rfl⟩ := rx; exact SeqAt.EqAt.none_str b t
    | _ => exact absurd (show false = true from fx) Bool.false_ne_true
  | bl a =>
    cases ry
    cases x with
    | non => cases rx; exact SeqAt.EqAt.bool_none a
    | bl b => cases rx; exact SeqAt.EqAt.bool_bool a b
    | int b => obtain ⟨t, rfl⟩ := rx; exact SeqAt.EqAt.bool_int a b t
    | str b => obtain ⟨t, rfl⟩ := rx; exact SeqAt.EqAt.bool_str a b t
    | _ => exact absurd (show false = true from fx) Bool.false_ne_true
  | int a =>
    obtain ⟨t', rfl⟩ := ry
    cases x with
    | non => cases rx; exact SeqAt.EqAt.int_none a t'
    | bl b => cases rx; exact SeqAt.EqAt.int_bool a t' b
    | int b => obtain ⟨t, rfl⟩ := rx; exact SeqAt.EqAt.int_int a t' b t
    | str b => obtain ⟨t, rfl⟩ := rx; exact SeqAt.EqAt.int_str a t' b t
    | _ => exact absurd (show false = true from fx) Bool.false_ne_true
  | str a =>
    obtain ⟨t', rfl⟩ := ry
    cases x with
    | non => cases rx; exact SeqAt.EqAt.str_none a t'
    | bl b => cases rx; exact SeqAt.EqAt.str_bool a t' b
    | int b => obtain ⟨t, rfl⟩ := rx; exact SeqAt.EqAt.str_int a t' b t
    | str b => obtain ⟨t, rfl⟩ := rx; exact SeqAt.EqAt.str_str a t' b t
    | _ => exact absurd (show false = true from fx) Bool.false_ne_true
  | _ => exact absurd (show false = true from fy) Bool.false_ne_true
/-- the items' answers, read off the values (a value's own answer does not lean on its token) -/
def eqU (x : V) (u : Value) : Bool := match u with
  | .none => eqV .non x
  | .bool b => eqV (.bl b) x
  | .int i _ => eqV (.int i) x
  | .str z _ => eqV (.str z) x
  | _ => false
def inV (x : V) (xs : List V) : Bool := xs.any fun y => eqV y x
/-- x in a list or tuple of flat items -/
def rIn (K : PySem.W.Frag) (neg : Bool) : R2 := fun x y H Q => ∃ p xs, y = .ref p ∧ (SqL K H p xs ∨ SqT K H p xs) ∧ flatV x = true ∧ xs.all flatV = true ∧ Q (.bl (if neg then !inV x xs else inV x xs)) H
/-! ### len, list(x), tuple(x) of any list or tuple that is read -/
theorem call_len_seq : CallR X (.builtin "len") (fun xs H Q => ∃ p ys, xs = [.ref p] ∧ (SqL X.K H p ys ∨ SqT X.K H p ys) ∧ Q (.int ys.length) H) := by
  intro pins s σ H xs us Q I r h
  obtain ⟨p, ys, rfl, hq, q⟩ := h
  obtain ⟨u, rfl, rx⟩ := vals1 r
  cases rx
  have hn := line63
  rcases hq with hq | hq
  · obtain ⟨its, r', pl, hz⟩ := I.list hq
    have hlen := r'.length
    exact Calls.call_len_list pl.isList (by simp only [List.size_toArray] <;> omega) ⟨.int ys.length, H, I.tok _, ⟨s.toks + 1, by rw [List.size_toArray, hlen]⟩, q⟩
  · obtain ⟨its, r', pl, hz⟩ := I.tuple hq
    have hlen := r'.length
    exact len_tuple pl (by simp only [List.size_toArray] <;> omega) ⟨.int ys.length, H, I.tok _, ⟨s.toks + 1, by rw [List.size_toArray, hlen]⟩, q⟩
theorem call_list_of : CallR X (.type "list") (fun xs H Q => ∃ p ys, xs = [.ref p] ∧ (SqL X.K H p ys ∨ SqT X.K H p ys) ∧ ∀ l, H l = none → Q (.ref l) (upd H l (.lst ys))) := by
  intro pins s σ H xs us Q I r h
  obtain ⟨p, ys, rfl, hq, q⟩ := h
  obtain ⟨u, rfl, rx⟩ := vals1 r
  cases rx
  have fin : ∀ (its : List Value), Vals ys its → ys.length ≤ sizeLine → ∀ (h' : Heap) (c' : Nat), (∀ b o', s.heap.get? b = some o' → h'.get? b = some o') →
      h'.get? s.heap.objs.size = some { cls := .type "list", dict := none, data := .seq its.toArray c', slots := #[] } → EP X pins σ Q (.ref s.heap.objs.size) { s with heap := h' } := fun its r' hz h' c' kp e =>
    ⟨.ref s.heap.objs.size, _, I.laid (t' := s.toks) kp (Nat.le_refl _) (show ObjOk X.prog X.w _ h' _ (.lst ys) from ⟨hz, its, c', r', e⟩), rfl, q _ (I.hok.fresh (Nat.le_refl _))⟩
  rcases hq with hq | hq
  · obtain ⟨its, r', pl, hz⟩ := I.list hq
    have hlen := r'.length
    obtain ⟨o, ho, hc, n, hd⟩ := pl.isList
    exact call_list_seq p (.inl rfl) ho hc hd (fun h' c' kp e => fin its r' hz h' c' kp e) (by simp only [List.size_toArray] <;> omega)
  · obtain ⟨its, r', pl, hz⟩ := I.tuple hq
    have hlen := r'.length
    obtain ⟨o, ho, hc, n, hd⟩ := pl
    exact call_list_seq p (.inr rfl) ho hc hd (fun h' c' kp e => fin its r' hz h' c' kp e) (by simp only [List.size_toArray] <;> omega)
/-! ### the call of a builtin's method: o.m(..) -/
/-- the value is of that builtin type -/
def tyV (K : PySem.W.Frag) (T : String) (x : V) (H : Hp) : Prop := match x with
  | .str _ => T = "str"
  | .int _ => T = "int"
  | .ref p => (T = "list" ∧ ∃ xs, SqL K H p xs) ∨ (T = "tuple" ∧ ∃ o, K.lookup p = some o ∧ o.cls = .type "tuple" ∧ o.dict = none) ∨
      (T = "dict" ∧ ((∃ kvs, H p = some (.dK kvs)) ∨ ∃ kvs, H p = some (.dT kvs))) ∨ (T = "set" ∧ ∃ S n, H p = some (.set S n))
  | _ => False
theorem tyV_is {pins : List (Addr × Obj)} {σ : St} {H : Hp} {s : Shared} {T : String} {x : V} {v : Value} (I : Inv X pins σ H s) (r : RelV x v) (ty : tyV X.K T x H) :
    s.TypeIs v T ∧ ∀ a, v = .ref a → ∃ ob, s.heap.get? a = some ob ∧ ob.dict = none := by
  cases x with
  | str z =>
    obtain ⟨t, rfl⟩ := r
    cases (show T = "str" from ty)
    exact ⟨typeIs_str s z t, fun _ e => nomatch e⟩
  | int i =>
    obtain ⟨t, rfl⟩ := r
    cases (show T = "int" from ty)
    exact ⟨typeIs_int s i t, fun _ e => nomatch e⟩
  | ref p =>
    cases r
    rcases ty with ⟨rfl, xs, hq⟩ | ⟨rfl, o, hk, hc, hd⟩ | ⟨rfl, hk⟩ | ⟨rfl, S, n, hk⟩
    · obtain ⟨its, _, pl, _⟩ := I.list hq
      refine ⟨pl.isList.typeIs, fun a e => ?_⟩
      cases e
      obtain ⟨o, n, e, c, hd, _⟩ := pl
      exact ⟨o, e, hd⟩
    · refine ⟨⟨o, I.kIn p o hk, hc⟩, fun a e => ?_⟩
      cases e
      exact ⟨o, I.kIn _ o hk, hd⟩
    · have z : ∃ o, s.heap.get? p = some o ∧ o.ExactDict := by
        rcases hk with ⟨kvs, hk⟩ | ⟨kvs, hk⟩
        · obtain ⟨_, _, _, _, o, _, _, e, ex, _⟩ := I.hok p _ hk
          exact ⟨o, e, ex⟩
        · obtain ⟨_, _, _, _, o, _, _, e, ex, _⟩ := I.hok p _ hk
          exact ⟨o, e, ex⟩
      obtain ⟨o, e, ex⟩ := z
      refine ⟨⟨o, e, ex.1⟩, fun a e2 => ?_⟩
      cases e2
      exact ⟨o, e, ex.2.1⟩
    · obtain ⟨o, _, _, _, e, ex, _⟩ := I.hok p _ hk
      refine ⟨⟨o, e, ex.1⟩, fun a e2 => ?_⟩
      cases e2
      exact ⟨o, e, ex.2.1⟩
  | _ => exact False.elim ty
def tBM0 (K : PySem.W.Frag) (T : String) (r : V → List V → Hp → VK → Prop) (to : TE) : TE := fun σ H Q => to σ H fun x H1 => tyV K T x H1 ∧ r x [] H1 Q
def tBM (K : PySem.W.Frag) (T : String) (r : V → List V → Hp → VK → Prop) (to : TE) (t : TA) : TE := fun σ H Q => to σ H fun x H1 => tyV K T x H1 ∧ t σ H1 fun xs H2 => r x xs H2 Q
variable {o e : Expr} {es : List Expr} {to : TE} {t : TA} {name : Str} {apos cpos : Pos} {T id : String} {r : V → List V → Hp → VK → Prop}
theorem pe_bm (pa : PlainAttrs T) (slot : Slot T name id) (hty : typeOf (.builtin id) = pure (.type "method_descriptor")) (hm : MtR X id r) (ho : PE X o to) (ha : PA X (e :: es) t)
    (hbase : attributeBase o name X.env (eval o X.env) = eval o X.env := by rfl)
    (hfew : ((backTo cpos (starEach (e :: es) X.env)).all (fun x => !x.1) && (backToKw cpos (keywordEach [] X.env)).all (fun x => x.1.isSome)
      && decide ((e :: es).length + ([] : List Keyword).length + (if ([] : List Keyword).isEmpty then 0 else 1) < 30)) = true := by rfl)
    (hline : (apos.endLine == cpos.line) = true := by rfl) (hs : starEach (e :: es) X.env = (false, eval e X.env) :: starEach es X.env := by rfl) (hplain : (backTo cpos (starEach es X.env)).any (·.1) = false := by rfl) :
    PE X (.Call (.Attribute o name apos) (e :: es) [] cpos) (tBM X.K T r to t) := by
  intro pins s σ H Q I h
  refine wpAny_Call_method_late hbase hfew hline rfl (thn (ho pins s σ H _ I h) fun v s1 ⟨x, H1, I1, r1, ty, q1⟩ => ?_)
  obtain ⟨h1, h2⟩ := tyV_is I1 r1 ty
  refine ⟨T, id, pa, slot, hty, h1, h2, ?_⟩
  have hA := ha cpos pins s1 σ H1 _ I1 q1
  rw [hs] at hA ⊢
  refine Calls.callWith_builtin (by show (false || (backTo cpos (starEach es X.env)).any (·.1)) = false; rw [hplain] <;> rfl) (Calls.evalArgs_plain ?_)
  exact thn hA fun us s2 ⟨vs, H2, I2, r2, q2⟩ => hm pins s2 σ H2 x vs v us Q I2 r1 r2 q2
/- xs.append(e), list.index on a module's tuple .. are MtR facts of 06m -/
end
end L2

namespace L2
open PySem PySem.Spec PyProof.Rows

def MtM (X : Cx) (id : String) (r : V → List V → Hp → VK → Prop) : Prop :=
  ∀ (pins : List (Addr × Obj)) (s : Shared) (σ : St) (H : Hp) (x : V) (xs : List V) (v : Value) (us : List Value) (Q : VK), Inv X pins σ H s → RelV x v → Vals xs us → r x xs H Q →
    wpAny (model X.prog X.w) X.A (call (.builtin id) (v :: us)) (EP X pins σ Q) X.xe s

/-! ### lists of values -/
theorem Vals.one : ∀ {x : V} {us : List Value}, Vals [x] us → ∃ u, us = [u] ∧ RelV x u
  | _, _, .cons r .nil => ⟨_, rfl, r⟩
theorem Vals.two : ∀ {x y : V} {us : List Value}, Vals [x, y] us → ∃ u v, us = [u, v] ∧ RelV x u ∧ RelV y v
  | _, _, _, .cons r (.cons q .nil) => ⟨_, _, rfl, r, q⟩
section
variable {X : Cx} {pins : List (Addr × Obj)} {σ : St} {H : Hp} {s : Shared} {l b : Addr} {xs ys zs : List V}

/-! ### the two steps: a tracked list is rewritten, a new list is laid -/
theorem Inv.lset {its its' : List Value} {n : Nat} {f : Array Value → Array Value} {t' : Nat} (I : Inv X pins σ H s) (hH : H l = some (.lst xs))
    (e : s.heap.get? l = some { cls := .type "list", data := .seq its.toArray n }) (hf : f its.toArray = its'.toArray) (hv : Vals ys its') (hz : ys.length ≤ sizeLine) :
    Inv X pins σ (upd H l (.lst ys)) { s with heap := s.heap.update l (Obj.mapSeq f), toks := t' } := by
  have q := PySem.IsL.update e f
  rw [hf] at q
  refine I.write (x := l) (e := l) (by rw [hH]; exact trivial) (.inl rfl) (fun b' u hb hu => (Heap.get?_update_other s.heap (Obj.mapSeq f) (Ne.symm hb)).trans hu) ⟨_, q⟩ ?_
  exact ⟨hz, its', _, hv, q⟩
theorem Inv.lnew {its : List Value} {t' : Nat} (I : Inv X pins σ H s) (hv : Vals ys its) (hz : ys.length ≤ sizeLine) :
    Inv X pins σ (upd H s.heap.objs.size (.lst ys)) { s with heap := s.heap.push { cls := .type "list", data := .seq its.toArray }, toks := t' } :=
  I.laid (fun _ _ q => Heap.get?_push_of_some _ q) (Nat.le_refl _) ⟨hz, its, 0, hv, Heap.get?_push_size _ rfl⟩
theorem Inv.fresh (I : Inv X pins σ H s) : H s.heap.objs.size = none := I.hok.fresh (Nat.le_refl _)
theorem Inv.lstM (I : Inv X pins σ H s) (hH : H l = some (.lst xs)) : xs.length ≤ sizeLine ∧ ∃ (its : List Value) (n : Nat), Vals xs its ∧ xs.length = its.length ∧ s.heap.get? l = some { cls := .type "list", data := .seq its.toArray n } := by
  obtain ⟨z, its, n, r, e⟩ := I.hok l _ hH
  exact ⟨z, its, n, r, r.length, e⟩

theorem notLongL {n : Nat} (h : n ≤ sizeLine) : Builtin.List.listTooLong n = false := by
  unfold Builtin.List.listTooLong
  exact decide_eq_false (by omega)
end

section
variable {X : Cx}

/-! ### methods -/
def rAppend : V → List V → Hp → VK → Prop := fun x vs H Q => ∃ l xs y, x = .ref l ∧ vs = [y] ∧ H l = some (.lst xs) ∧ xs.length < sizeLine ∧ Q .non (upd H l (.lst (xs ++ [y])))
theorem mt_append : MtM X "list.append" rAppend := by
  intro pins s σ H x vs v us Q I rx rv h
  obtain ⟨l, xs, y, rfl, rfl, hH, hz, q⟩ := h
  cases rx
  obtain ⟨u, rfl, ru⟩ := rv.one
  obtain ⟨z, its, n, r, hl, e⟩ := I.lstM hH
  refine call_meets F.slot_list_append ⟨_, e, rfl⟩ F.entry_list_append (F.args_list_append_2 _ _) (PySem.list_append l its.toArray n u (by rw [List.size_toArray]; omega)) ⟨e, ?_⟩
  refine ⟨.non, _, I.lset (its' := its ++ [u]) hH e (by simp) (r.append (.cons ru .nil)) ?_, rfl, q⟩
  rw [List.length_append, List.length_singleton]
  omega

def rExtend : V → List V → Hp → VK → Prop := fun x vs H Q => ∃ l b xs zs, x = .ref l ∧ vs = [.ref b] ∧ H l = some (.lst xs) ∧ H b = some (.lst zs) ∧ xs.length + zs.length ≤ sizeLine ∧ Q .non (upd H l (.lst (xs ++ zs)))
theorem mt_extend : MtM X "list.extend" rExtend := by
  intro pins s σ H x vs v us Q I rx rv h
  obtain ⟨l, b, xs, zs, rfl, rfl, hH, hB, hz, q⟩ := h
  cases rx
  obtain ⟨u, rfl, ru⟩ := rv.one
  cases ru
  obtain ⟨z, its, n, r, hl, e⟩ := I.lstM hH
  obtain ⟨z2, its2, n2, r2, hl2, e2⟩ := I.lstM hB
  have hsz : its.toArray.size + its2.toArray.size ≤ sizeLine := by rw [List.size_toArray, List.size_toArray]; omega
  have hlong : ¬ (!its.toArray.isEmpty && Builtin.List.listTooLong (its.toArray.size + its2.toArray.size)) = true := by
    rw [notLongL hsz, Bool.and_false]
    exact Bool.false_ne_true
  refine call_meets F.slot_list_extend ⟨_, e, rfl⟩ F.entry_list_extend (F.args_list_extend_2 _ _)
    (AutoSeq1.list_extend_list_list_0 l its.toArray n b its2.toArray n2 hlong (by rw [List.size_toArray]; omega) (by omega)) ⟨e, e2, ?_⟩
  refine ⟨.non, _, I.lset (its' := its ++ its2) hH e (by simp) (r.append r2) ?_, rfl, q⟩
  rw [List.length_append]
  omega

def rPop : V → List V → Hp → VK → Prop := fun x vs H Q => ∃ l xs y, x = .ref l ∧ vs = [] ∧ H l = some (.lst xs) ∧ xs[xs.length - 1]? = some y ∧ Q y (upd H l (.lst xs.dropLast))
def rPopAt : V → List V → Hp → VK → Prop := fun x vs H Q => ∃ l xs i k y, x = .ref l ∧ vs = [.int i] ∧ H l = some (.lst xs) ∧ -(2 ^ 63) ≤ i ∧ i < 2 ^ 63 ∧ seqIndex? i xs.length = some k ∧ xs[k]? = some y ∧ Q y (upd H l (.lst (xs.eraseIdx k)))
def rReverse : V → List V → Hp → VK → Prop := fun x vs H Q => ∃ l xs, x = .ref l ∧ vs = [] ∧ H l = some (.lst xs) ∧ Q .non (upd H l (.lst xs.reverse))
def rClear : V → List V → Hp → VK → Prop := fun x vs H Q => ∃ l xs, x = .ref l ∧ vs = [] ∧ H l = some (.lst xs) ∧ Q .non (upd H l (.lst []))
/-! ### list + list, list += list, list * int -/
def rCat : R2 := fun x y H Q => ∃ l b xs zs, x = .ref l ∧ y = .ref b ∧ H l = some (.lst xs) ∧ H b = some (.lst zs) ∧ xs.length + zs.length ≤ sizeLine ∧ ∀ p, H p = none → Q (.ref p) (upd H p (.lst (xs ++ zs)))
theorem op_cat : OpR X (binaryOp .Add) rCat := by
  intro pins s σ H x y v u Q I rx ry h
  obtain ⟨l, b, xs, zs, rfl, rfl, hH, hB, hz, q⟩ := h
  cases rx
  cases ry
  obtain ⟨z, its, n, r, hl, e⟩ := I.lstM hH
  obtain ⟨z2, its2, n2, r2, hl2, e2⟩ := I.lstM hB
  refine PySem.P.add_list e e2 ?_ (by rw [List.size_toArray, List.size_toArray]; omega)
  have ea : its.toArray ++ its2.toArray = (its ++ its2).toArray := by simp
  rw [ea]
  exact ⟨.ref _, _, I.lnew (t' := s.toks) (r.append r2) (by rw [List.length_append]; omega), rfl, q _ I.fresh⟩
/-- a list times an int (a negative one is nothing) -/
def rRep : R2 := fun x y H Q => ∃ l k xs, x = .ref l ∧ y = .int k ∧ H l = some (.lst xs) ∧ -(2 ^ 63) ≤ k ∧ k < 2 ^ 63 ∧ xs.length * k.toNat ≤ sizeLine ∧
  ∀ p, H p = none → Q (.ref p) (upd H p (.lst (List.replicate k.toNat xs).flatten))
/-! ### del xs[i] -/
end

/-! ### xs[a:b] = ys -/
section
variable {prog : Program} {w : World} {A : Around} {E : Value → Shared → Prop} {s : Shared}
end

section
variable {X : Cx}
end
end L2

namespace L2
open PySem PySem.Spec PyProof.Rows

/-! ### lists of pairs as tables -/
section
variable {κ : Type} [DecidableEq κ]
def valV (kvs : List (κ × V)) (k : κ) : Option V := (kvs.find? fun kv => decide (kv.1 = k)).map (·.2)
/-- in its place, or at the end -/
def putK (kvs : List (κ × V)) (k : κ) (v : V) : List (κ × V) :=
  if (kvs.any fun kv => decide (kv.1 = k)) = true then kvs.map (fun kv => if kv.1 = k then (kv.1, v) else kv) else kvs ++ [(k, v)]
def dropK (kvs : List (κ × V)) (k : κ) : List (κ × V) := kvs.filter fun kv => decide (kv.1 ≠ k)

theorem valV_pos {p : κ × V} {r : List (κ × V)} {k : κ} (e : p.1 = k) : valV (p :: r) k = some p.2 := by simp [valV, List.find?_cons, e]
theorem valV_neg {p : κ × V} {r : List (κ × V)} {k : κ} (e : ¬ p.1 = k) : valV (p :: r) k = valV r k := by simp [valV, List.find?_cons, e]
theorem valV_any (k : κ) : ∀ kvs : List (κ × V), (kvs.any fun kv => decide (kv.1 = k)) = (valV kvs k).isSome
  | [] => rfl
  | p :: r => by
    rw [List.any_cons]
    by_cases e : p.1 = k
    · simp only [valV_pos e, decide_eq_true e, Bool.true_or, Option.isSome_some]
    · rw [valV_neg e, decide_eq_false e, Bool.false_or]; exact valV_any k r
theorem length_putK (kvs : List (κ × V)) (k : κ) (v : V) : (putK kvs k v).length ≤ kvs.length + 1 := by
  unfold putK
  split
  · rw [List.length_map]; omega
  · rw [List.length_append, List.length_cons, List.length_nil]; omega
theorem RelO.isSome_eq {o : Option V} {u : Option Value} (r : RelO o u) : o.isSome = u.isSome := by
  cases o with
  | none => cases u with
    | none => rfl
    | some _ => exact (show False from r).elim
  | some _ => cases u with
    | none => exact (show False from r).elim
    | some _ => rfl
theorem RelO.getD {o : Option V} {u : Option Value} {d : V} {d' : Value} (r : RelO o u) (rd : RelV d d') : RelV (o.getD d) (u.getD d') := by
  cases o with
  | none => cases u with
    | none => exact rd
    | some _ => exact (show False from r).elim
  | some _ => cases u with
    | none => exact (show False from r).elim
    | some _ => exact r

/-- raw tables of the same keys -/
theorem KV.val {kvs : List (κ × V)} {vs : List (κ × Value)} (r : KV kvs vs) (k : κ) : RelO (valV kvs k) (valueAt vs k) := by
  unfold KV at r
  induction r with
  | nil => exact True.intro
  | @cons p q ps qs h t ih =>
    obtain ⟨h1, h2⟩ := h
    by_cases e : p.1 = k
    · have e' : q.1 = k := h1.symm.trans e
      have b : valueAt (q :: qs) k = some q.2 := by simp [valueAt, List.find?_cons, e']
      rw [valV_pos e, b]; exact h2
    · have e' : ¬ q.1 = k := fun z => e (h1.trans z)
      have b : valueAt (q :: qs) k = valueAt qs k := by simp [valueAt, List.find?_cons, e']
      rw [valV_neg e, b]; exact ih
theorem KV.any {kvs : List (κ × V)} {vs : List (κ × Value)} (r : KV kvs vs) (k : κ) : (kvs.any fun kv => decide (kv.1 = k)) = vs.any fun kv => decide (kv.1 = k) := by
  unfold KV at r
  induction r with
  | nil => rfl
  | cons h t ih => rw [List.any_cons, List.any_cons, ih, h.1]
theorem KV.repl {kvs : List (κ × V)} {vs : List (κ × Value)} (r : KV kvs vs) (k : κ) {y : V} {u : Value} (ry : RelV y u) :
    KV (kvs.map fun kv => if kv.1 = k then (kv.1, y) else kv) (vs.map fun kv => if kv.1 = k then (kv.1, u) else kv) := by
  unfold KV at r ⊢
  induction r with
  | nil => exact .nil
  | @cons p q ps qs h t ih =>
    rw [List.map_cons, List.map_cons]
    refine .cons ?_ ih
    obtain ⟨h1, h2⟩ := h
    by_cases e : p.1 = k
    · rw [if_pos e, if_pos (h1.symm.trans e)]; exact ⟨h1, ry⟩
    · rw [if_neg e, if_neg (fun z => e (h1.trans z))]; exact ⟨h1, h2⟩
theorem KV.put {kvs : List (κ × V)} {vs : List (κ × Value)} (r : KV kvs vs) (k : κ) {y : V} {u : Value} (ry : RelV y u) : KV (putK kvs k y) (stored vs k u) := by
  unfold putK stored
  rw [r.any k]
  by_cases e : (vs.any fun kv => decide (kv.1 = k)) = true
  · rw [if_pos e, if_pos e]; exact r.repl k ry
  · rw [if_neg e, if_neg e]; exact Paired.snoc r ⟨rfl, ry⟩
theorem KV.keys {kvs : List (κ × V)} {vs : List (κ × Value)} (r : KV kvs vs) : kvs.map (·.1) = vs.map (·.1) := by
  unfold KV at r
  induction r with
  | nil => rfl
  | cons h t ih => rw [List.map_cons, List.map_cons, ih, h.1]
theorem KV.length {kvs : List (κ × V)} {vs : List (κ × Value)} (r : KV kvs vs) : kvs.length = vs.length := Paired.length r
end


/-! ### a tracked dict, its keys ints and texts or tuples of these -/
theorem kV_is {P : Program} {w : World} {k : Key} {u : Value} (r : RelV (kV k) u) : (mixKind P w).is k u = true := by
  cases k with
  | inl i => obtain ⟨t, e⟩ := (show ∃ t, u = Value.int i t from r); subst e; exact mixKind_int P w i t
  | inr x => obtain ⟨t, e⟩ := (show ∃ t, u = Value.str x t from r); subst e; exact mixKind_str P w x t
theorem items_are {P : Program} {w : World} : ∀ {ks : List Key} {us : List Value}, Vals (ks.map kV) us → ItemsAre (mixKind P w) ks us
  | [], _, r => by rw [List.map_nil] at r; cases r; exact .nil
  | k :: ks, _, r => by
    rw [List.map_cons] at r
    cases r with
    | cons h t => exact .cons (kV_is h) (items_are t)

/-- raw entries of a dict with tuple keys -/
abbrev KT (H : Hp) : List (List Key × V) → List (List Key × Addr × Value) → Prop := Paired fun p q => p.1 = q.1 ∧ H q.2.1 = some (.tup (p.1.map kV)) ∧ RelV p.2 q.2.2
theorem KT.val {H : Hp} {kvs : List (List Key × V)} {xs : List (List Key × Addr × Value)} (r : KT H kvs xs) (k : List Key) : RelO (valV kvs k) ((atKey xs k).map (·.2)) := by
  induction r with
  | nil => exact True.intro
  | @cons p q ps qs h t ih =>
    obtain ⟨h1, _, h2⟩ := h
    by_cases e : p.1 = k
    · have e' : q.1 = k := h1.symm.trans e
      have b : atKey (q :: qs) k = some q.2 := by simp [atKey, List.find?_cons, e']
      rw [valV_pos e, b]; exact h2
    · have e' : ¬ q.1 = k := fun z => e (h1.trans z)
      have b : atKey (q :: qs) k = atKey qs k := by simp [atKey, List.find?_cons, e']
      rw [valV_neg e, b]; exact ih
theorem KT.repl {H : Hp} {kvs : List (List Key × V)} {xs : List (List Key × Addr × Value)} (r : KT H kvs xs) (k : List Key) {y : V} {u : Value} (ry : RelV y u) :
    KT H (kvs.map fun kv => if kv.1 = k then (kv.1, y) else kv) (xs.map (putAt k u)) := by
  induction r with
  | nil => exact .nil
  | @cons p q ps qs h t ih =>
    rw [List.map_cons, List.map_cons]
    refine .cons ?_ ih
    obtain ⟨h1, h2, h3⟩ := h
    unfold putAt
    by_cases e : p.1 = k
    · rw [if_pos e, if_pos (h1.symm.trans e)]; exact ⟨h1, h2, ry⟩
    · rw [if_neg e, if_neg (fun z => e (h1.trans z))]; exact ⟨h1, h2, h3⟩
theorem KT.put {H : Hp} {kvs : List (List Key × V)} {xs : List (List Key × Addr × Value)} (r : KT H kvs xs) (k : List Key) {b : Addr} {y : V} {u : Value} (hb : H b = some (.tup (k.map kV))) (ry : RelV y u) :
    KT H (putK kvs k y) (storedH xs k b u) := by
  have e : (kvs.any fun kv => decide (kv.1 = k)) = (atKey xs k).isSome := by
    rw [valV_any, (r.val k).isSome_eq, Option.isSome_map]
  unfold putK storedH
  rw [e]
  by_cases q : (atKey xs k).isSome = true
  · rw [if_pos q, if_pos q]; exact r.repl k ry
  · rw [if_neg q, if_neg q]; exact Paired.snoc r ⟨rfl, hb, ry⟩
theorem KT.keeps {H H' : Hp} {kvs : List (List Key × V)} {xs : List (List Key × Addr × Value)} (r : KT H kvs xs) (ht : ∀ b ys, H b = some (.tup ys) → H' b = some (.tup ys)) : KT H' kvs xs :=
  Paired.mapP r fun _ _ z => ⟨z.1, ht _ _ z.2.1, z.2.2⟩

section
variable {P : Program} {w : World} {H : Hp} {h : Heap} {a : Addr}
theorem rd_of {u : HO} (ok : HOk P w H h) (e : Rd H a u) : ObjOk P w H h a u := e.ok ok
theorem dk_rd {kvs : List (Key × V)} (ok : HOk P w H h) (e : Rd H a (.dK kvs)) : kvs.length ≤ sizeLine ∧ (a == sysModules) = false ∧ ∃ vs, KV kvs vs ∧ h.DictOf (mixKind P w) a vs :=
  show ObjOk P w H h a (.dK kvs) from rd_of ok e
theorem dk_of {kvs : List (Key × V)} (ok : HOk P w H h) (e : H a = some (.dK kvs)) : kvs.length ≤ sizeLine ∧ (a == sysModules) = false ∧ ∃ vs, KV kvs vs ∧ h.DictOf (mixKind P w) a vs := dk_rd ok (.inl e)
/-- a tracked tuple of ints and texts is a key -/
theorem key_of {ks : List Key} (ok : HOk P w H h) (e : H a = some (.tup (ks.map kV))) : (tupleKind (mixKind P w)).is h ks a := by
  obtain ⟨_, its, r, o, h1, h2, n, h3⟩ := (show ObjOk P w H h a (.tup (ks.map kV)) from ok a _ e)
  exact ⟨o, its.toArray, n, h1, h2, h3, by simpa using items_are r⟩
theorem dt_rd {kvs : List (List Key × V)} (ok : HOk P w H h) (e : Rd H a (.dT kvs)) : kvs.length ≤ sizeLine ∧ (a == sysModules) = false ∧
    ∃ xs, KT H kvs xs ∧ h.DictOfH (tupleKind (mixKind P w)) a xs := by
  obtain ⟨z, y, xs, r, o, es, ep, h1, h2, h3, h4, h5⟩ := (show ObjOk P w H h a (.dT kvs) from rd_of ok e)
  refine ⟨z, y, xs, r, o, es, ep, h1, h2, h3, h4, fun x hx => ?_, h5⟩
  have all : ∀ {l : List (List Key × V)} {m : List (List Key × Addr × Value)}, KT H l m → ∀ x ∈ m, (tupleKind (mixKind P w)).is h x.1 x.2.1 := by
    intro l m q
    induction q with
    | nil => intro x hx; exact nomatch hx
    | @cons p q ps qs hq t ih =>
      intro x hx
      rcases List.mem_cons.mp hx with e | hx
      · subst e
        exact key_of ok (by rw [← hq.1]; exact hq.2.1)
      · exact ih x hx
  exact all r x hx
theorem dt_of {kvs : List (List Key × V)} (ok : HOk P w H h) (e : H a = some (.dT kvs)) : kvs.length ≤ sizeLine ∧ (a == sysModules) = false ∧
    ∃ xs, KT H kvs xs ∧ h.DictOfH (tupleKind (mixKind P w)) a xs := dt_rd ok (.inl e)
end

/-- what the dict at a holds at the key y -/
def DGet (H : Hp) (a : Addr) (y : V) (r : Option V) : Prop :=
  (∃ kvs k, Rd H a (.dK kvs) ∧ y = kV k ∧ r = valV kvs k) ∨ ∃ kvs k b, Rd H a (.dT kvs) ∧ y = .ref b ∧ H b = some (.tup (k.map kV)) ∧ r = valV kvs k
/-- the heap behind a[y] = v -/
def DPut (H : Hp) (a : Addr) (y v : V) (H' : Hp) : Prop :=
  (∃ kvs k, H a = some (.dK kvs) ∧ y = kV k ∧ kvs.length < sizeLine ∧ H' = upd H a (.dK (putK kvs k v))) ∨
  ∃ kvs k b, H a = some (.dT kvs) ∧ y = .ref b ∧ H b = some (.tup (k.map kV)) ∧ kvs.length < sizeLine ∧ H' = upd H a (.dT (putK kvs k v))
theorem DGet.k {H : Hp} {a : Addr} {kvs : List (Key × V)} {k : Key} (e : H a = some (.dK kvs)) : DGet H a (kV k) (valV kvs k) := .inl ⟨kvs, k, .inl e, rfl, rfl⟩
theorem DPut.k {H : Hp} {a : Addr} {kvs : List (Key × V)} {k : Key} {v : V} (e : H a = some (.dK kvs)) (hl : kvs.length < sizeLine) : DPut H a (kV k) v (upd H a (.dK (putK kvs k v))) := .inl ⟨kvs, k, e, rfl, hl, rfl⟩
section
variable {X : Cx} {pins : List (Addr × Obj)} {σ : St} {H : Hp} {s : Shared} {a : Addr} {y v : V} {u r : Value} {o : Option V} {A : Around} {E : Value → Shared → Prop}

theorem Inv.big (I : Inv X pins σ H s) : sysModules < s.heap.objs.size := by
  have h : mainGlobals < s.heap.objs.size := (I.mod.glob.keeps I.bk).lt
  exact Nat.lt_trans (by decide) h

/-- d[y], there -/
theorem d_getItem {Q : Value → Shared → Prop} (hu : A.units + 1 < cLine) (I : Inv X pins σ H s) (g : DGet H a y (some v)) (ry : RelV y u) (h : ∀ w' s', Inv X pins σ H s' → RelV v w' → Q w' s') :
    wpAny (model X.prog X.w) A (getItem (.ref a) u) Q E s := by
  rcases g with ⟨kvs, k, e, ey, l⟩ | ⟨kvs, k, b, e, ey, eb, l⟩
  · subst ey
    obtain ⟨z, hd, vs, rel, dd⟩ := dk_rd I.hok e
    obtain ⟨w', hw, rw'⟩ := RelO.some_of (v := v) (o := valueAt vs k) (by rw [l]; exact rel.val k)
    exact wpAny_getItem_of (kV_is ry) dd.mapOf hw (h w' _ (I.tok _) rw')
  · subst ey
    cases (show u = Value.ref b from ry)
    obtain ⟨z, hd, xs, rel, dd⟩ := dt_rd I.hok e
    obtain ⟨w', hw, rw'⟩ := RelO.some_of (v := v) (o := (atKey xs k).map (·.2)) (by rw [l]; exact rel.val k)
    obtain ⟨p, hp, hp2⟩ := Option.map_eq_some_iff.mp hw
    refine wpAny_getItem_heap (tupleKind_room_in1 hu) (key_of I.hok eb) dd hp ?_
    rw [hp2]
    exact h w' _ (I.tok _) rw'
/-- a dict's object is replaced -/
theorem d_write {h' : Heap} {t' : Nat} {ob : HO} (I : Inv X pins σ H s) (mu : Mut (H a)) (hs : Heap.SameBut a s.heap h') (he : ∃ q, h'.get? a = some q) (new : ObjOk X.prog X.w (upd H a ob) h' a ob) :
    Inv X pins σ (upd H a ob) { s with heap := h', toks := t' } :=
  I.write (x := a) (e := a) mu (.inl rfl) (fun b q hb z => (hs.2 b hb).trans z) he new
theorem dk_new {P : Program} {w : World} {H' : Hp} {h' : Heap} {kvs : List (Key × V)} {vs : List (Key × Value)} (z : kvs.length ≤ sizeLine) (hd : (a == sysModules) = false) (rel : KV kvs vs) (dd : h'.DictOf (mixKind P w) a vs) :
    ObjOk P w H' h' a (.dK kvs) := ⟨z, hd, vs, rel, dd⟩
/-- d[y] = v -/
theorem d_setItem {H' : Hp} {Q : Unit → Shared → Prop} (hu : A.units + 1 < cLine) (I : Inv X pins σ H s) (g : DPut H a y v H') (ry : RelV y u) (rv : RelV v r) (h : ∀ s', Inv X pins σ H' s' → Q () s') :
    wpAny (model X.prog X.w) A (setItem (.ref a) u r) Q E s := by
  rcases g with ⟨kvs, k, e, ey, l, eH⟩ | ⟨kvs, k, b, e, ey, eb, l, eH⟩
  · subst ey eH
    obtain ⟨z, hd, vs, rel, dd⟩ := dk_of I.hok e
    have hz : vs.length ≤ sizeLine := by rw [← rel.length]; exact z
    have hl : (putK kvs k v).length ≤ sizeLine := by have := length_putK kvs k v; omega
    refine wpAny_setItem_pairs (hsz := hz) (kV_is ry) dd fun h' dd' hs => h _ ?_
    have he : ∃ q, h'.get? a = some q := let ⟨q, _, _, hq, _⟩ := dd'; ⟨q, hq⟩
    exact d_write I (by rw [e]; exact True.intro) hs he (dk_new hl hd (rel.put k rv) dd')
  · subst ey eH
    cases (show u = Value.ref b from ry)
    obtain ⟨z, hd, xs, rel, dd⟩ := dt_of I.hok e
    have hz : xs.length ≤ sizeLine := by rw [← Paired.length rel]; exact z
    have hl : (putK kvs k v).length ≤ sizeLine := by have := length_putK kvs k v; omega
    refine wpAny_setItem_heap (hsz := hz) (tupleKind_room_in1 hu) (key_of I.hok eb) dd fun h' dd' hs => h _ ?_
    obtain ⟨q, es, ep, hq, h2, h3, h4, _, h5⟩ := dd'
    refine d_write I (by rw [e]; exact True.intro) hs ⟨q, hq⟩ ⟨hl, hd, _, (rel.put k eb rv).keeps fun c ys ec => ?_, q, es, ep, hq, h2, h3, h4, h5⟩
    rw [upd_ne (ne_of ec e (fun z => nomatch z))]
    exact ec
end

section
variable {X : Cx} {pins : List (Addr × Obj)} {σ : St} {H : Hp} {s : Shared} {a : Addr} {kvs : List (Key × V)} {k : Key} {u : Value} {A : Around} {E : Value → Shared → Prop}
end


/-! ### readings and rules -/
/-- the element of a subscription, not a slice -/
def NoSl (i : Expr) : Prop := ∀ ov iv, subscripted i false ov iv = operate [ov, iv] (getItem ov iv)
theorem subD_of {prog : Program} {w : World} {A : Around} {E : Value → Shared → Prop} {s : Shared} {env : Env} {value slice : Expr} {pos : Pos} {T id : String} {Q : Value → Shared → Prop}
    (hl : typeLookup (.type T) "__getitem__" = pure (some (.builtin id))) (hs : NoSl slice)
    (h : wpAny (model prog w) A (eval value env) (fun o s₁ => wpAny (model prog w) A (eval slice env) (fun i s₂ => s₂.TypeIs o T ∧ wpAny (model prog w) A (getItem o i) Q E s₂) E s₁) E s) :
    wpAny (model prog w) A (eval (.Subscript value slice pos) env) Q E s := by
  refine Subscript_ (wpAny_mono h (fun o s₁ h₁ => wpAny_mono h₁ (fun i s₂ h₂ => ?_) fun _ _ x => x) fun _ _ x => x)
  obtain ⟨hT, h₂⟩ := h₂
  unfold subscriptTail
  refine wpAny_bind ?_
  rw [getitemInPython_of_ne hT.not_modules]
  refine wpAny_bind (wpAny_specialOf hT hl ?_)
  have fin : wpAny (model prog w) A (subscripted slice false o i) (fun r s₃ => wpAny (model prog w) A (letTemporaryGo value o r >>= fun _ => pure r) Q E s₃) E s₂ := by
    rw [hs o i]
    exact wpAny_operating (wpAny_mono h₂ (fun r s₃ h₃ => wpAny_bind (wpAny_letTemporaryGo (wpAny_pure h₃))) fun _ _ x => x)
  first
    | exact wpAny_pure (wpAny_bind fin)
    | exact wpAny_bind (wpAny_pure (wpAny_bind fin))
    | exact wpAny_bind fin

theorem dict_typeIs {X : Cx} {pins : List (Addr × Obj)} {σ : St} {H : Hp} {s : Shared} {a : Addr} {y : V} {o : Option V} (I : Inv X pins σ H s) (g : DGet H a y o) : s.TypeIs (.ref a) "dict" := by
  rcases g with ⟨kvs, k, e, _, _⟩ | ⟨kvs, k, b, e, _, _, _⟩
  · obtain ⟨_, _, vs, _, dd⟩ := dk_rd I.hok e
    exact dd.typeIs
  · obtain ⟨_, _, xs, _, dd⟩ := dt_rd I.hok e
    exact dd.typeIs
/-- d[y] -/
def tDGet (td ty : TE) : TE := fun σ H Q => td σ H fun x H1 => ty σ H1 fun y H2 => ∃ a v, x = .ref a ∧ DGet H2 a y (some v) ∧ Q v H2
/-- y in d, y not in d -/
def tDIn (ty td : TE) : TE := fun σ H Q => ty σ H fun y H1 => td σ H1 fun x H2 => ∃ a o, x = .ref a ∧ DGet H2 a y o ∧ Q (.bl o.isSome) H2
def tDNotIn (ty td : TE) : TE := fun σ H Q => ty σ H fun y H1 => td σ H1 fun x H2 => ∃ a o, x = .ref a ∧ DGet H2 a y o ∧ Q (.bl (!o.isSome)) H2
/-- d[y] = v -/
def sDPut (td ty tv : TE) : TS := fun D σ H => tv σ H fun v H1 => td σ H1 fun x H2 => ty σ H2 fun y H3 => ∃ a H4, x = .ref a ∧ DPut H3 a y v H4 ∧ D.nx σ H4
/-- d[y] op= v -/
def sDAug (td ty tv : TE) (rd : V → V → Hp → VK → Prop) : TS := fun D σ H => td σ H fun x H1 => ty σ H1 fun y H2 => ∃ a v, x = .ref a ∧ DGet H2 a y (some v) ∧
  tv σ H2 fun y2 H3 => rd v y2 H3 fun z H4 => ∃ H5, DPut H4 a y z H5 ∧ D.nx σ H5
/-- del d[y] -/
def sDDel (td ty : TE) : TS := fun D σ H => td σ H fun x H1 => ty σ H1 fun y H2 => ∃ a kvs k, x = .ref a ∧ H2 a = some (.dK kvs) ∧ y = kV k ∧ (valV kvs k).isSome = true ∧ D.nx σ (upd H2 a (.dK (dropK kvs k)))

section
variable {X : Cx} {o i e value : Expr} {pos pos' tpos : Pos} {td ty tv : TE}
theorem pe_dget (hu : X.A.units + 1 < cLine) (ho : PE X o td) (hi : PE X i ty) (hs : NoSl i) : PE X (.Subscript o i pos) (tDGet td ty) := by
  intro pins s σ H Q I h
  refine subD_of PySem.F.slot_dict_getitem.lookup hs (thn (ho pins s σ H _ I h) fun u s1 ⟨x, H1, I1, rx, q1⟩ => thn (hi pins s1 σ H1 _ I1 q1) fun iv s2 ⟨y, H2, I2, ry, a, v, ex, g, q2⟩ => ?_)
  subst ex
  obtain rfl : u = Value.ref a := rx
  exact ⟨dict_typeIs I2 g, d_getItem hu I2 g ry fun w' s3 I3 rw' => ⟨v, H2, I3, rw', q2⟩⟩
theorem ps_dput (hu : X.A.units + 1 < cLine) (ho : PE X o td) (hi : PE X i ty) (hv : PE X value tv) (hs : swapsWith value (some (.Subscript o i pos')) pos.line X.env = pure false) :
    PS X (.Assign [.Subscript o i pos'] value pos) (sDPut td ty tv) := by
  intro pins s σ H D I h
  refine wpAny_Assign_Subscript (thn (hv pins s σ H _ I h) fun r s1 ⟨v, H1, I1, rv, q1⟩ => thn (ho pins s1 σ H1 _ I1 q1) fun u s2 ⟨x, H2, I2, rx, q2⟩ => thn (hi pins s2 σ H2 _ I2 q2) fun iv s3 ⟨y, H3, I3, ry, a, H4, ex, g, q3⟩ => ?_) hs
  subst ex
  obtain rfl : u = Value.ref a := rx
  exact d_setItem hu I3 g ry rv fun s4 I4 => ⟨σ, H4, I4, q3⟩
end


/-! ### displays -/
theorem dk_empty {P : Program} {w : World} {H : Hp} (h : Heap) (hb : sysModules < h.objs.size) : ObjOk P w H (h.push { cls := .type "dict", data := .dict #[] }) h.objs.size (.dK []) :=
  ⟨Nat.zero_le _, beq_eq_false_iff_ne.mpr (Ne.symm (Nat.ne_of_lt hb)), [], .nil, Heap.DictOf.new h⟩
/-- {}, to be a dict of the kind that is wanted -/
def tDNewK : TE := fun _ H Q => ∀ p, H p = none → Q (.ref p) (upd H p (.dK []))
def tDNewT : TE := fun _ H Q => ∀ p, H p = none → Q (.ref p) (upd H p (.dT []))
section
variable {X : Cx} {pos : Pos}
theorem pe_dnewK : PE X (.Dict [] [] pos) tDNewK := fun pins s σ H Q I h =>
  wpAny_Dict_empty ⟨.ref s.heap.objs.size, _, I.laid (a := s.heap.objs.size) (o := .dK []) (t' := s.toks) (fun _ _ q => Heap.get?_push_of_some _ q) (Nat.le_refl _) (dk_empty s.heap I.big), rfl, h _ (I.hok.fresh (Nat.le_refl _))⟩
end

/-- the pairs of a display, from the left -/
def tPairs : List (TE × TE) → St → Hp → (List (V × V) → Hp → Prop) → Prop
  | [], _, H, Q => Q [] H
  | (tk, tv) :: r, σ, H, Q => tk σ H fun x H1 => tv σ H1 fun y H2 => tPairs r σ H2 fun ps H3 => Q ((x, y) :: ps) H3
abbrev VV : List (V × V) → List (Value × Value) → Prop := Paired fun p q => RelV p.1 q.1 ∧ RelV p.2 q.2
def PPs (X : Cx) (pos : Pos) (keys : List (Option Expr)) (values : List Expr) (trs : List (TE × TE)) : Prop :=
  ∀ (pins : List (Addr × Obj)) (s : Shared) (σ : St) (H : Hp) (Q : List (V × V) → Hp → Prop), Inv X pins σ H s → tPairs trs σ H Q →
    wpAny (model X.prog X.w) X.A (evalPairs (pairTrees keys values X.env pos)) (fun vs s' => ∃ ps H', Inv X pins σ H' s' ∧ VV ps vs ∧ Q ps H') X.xe s
def mergeK (kvs more : List (Key × V)) : List (Key × V) := more.foldl (fun acc kv => putK acc kv.1 kv.2) kvs
/-- {k: v, ..} with keys ints and texts; the new dict stands empty while the pairs are made -/
def tDisp (trs : List (TE × TE)) : TE := fun σ H Q => ∀ p, H p = none → tPairs trs σ (upd H p (.dK [])) fun ps H2 => H2 p = some (.dK []) ∧ ∃ kvs : List (Key × V), ps = kvs.map (fun kv => (kV kv.1, kv.2)) ∧ kvs.length ≤ 15 ∧ Q (.ref p) (upd H2 p (.dK (mergeK [] kvs)))
/-! ### methods -/
/-- a method call o.m(e) of a built-in, with one argument: what must be seen of the text -/
structure M1 (X : Cx) (o : Expr) (m : Str) (apos : Pos) (e : Expr) (cpos : Pos) : Prop where
  base : attributeBase o m X.env (eval o X.env) = eval o X.env
  few : ((backTo cpos (starEach [e] X.env)).all (fun x => !x.1) && (backToKw cpos (keywordEach [] X.env)).all (fun x => x.1.isSome)
    && decide (([e] : List Expr).length + ([] : List Keyword).length + (if ([] : List Keyword).isEmpty then 0 else 1) < 30)) = true
  line : (apos.endLine == cpos.line) = true
  trees : backTo cpos (starEach [e] X.env) = [(false, eval e X.env)]
structure M2 (X : Cx) (o : Expr) (m : Str) (apos : Pos) (e f : Expr) (cpos : Pos) : Prop where
  base : attributeBase o m X.env (eval o X.env) = eval o X.env
  few : ((backTo cpos (starEach [e, f] X.env)).all (fun x => !x.1) && (backToKw cpos (keywordEach [] X.env)).all (fun x => x.1.isSome)
    && decide (([e, f] : List Expr).length + ([] : List Keyword).length + (if ([] : List Keyword).isEmpty then 0 else 1) < 30)) = true
  line : (apos.endLine == cpos.line) = true
  trees : backTo cpos (starEach [e, f] X.env) = [(false, eval e X.env), (false, eval f X.env)]

/-- a is a dict, whatever its keys -/
def IsD (H : Hp) (a : Addr) : Prop := (∃ kvs, Rd H a (.dK kvs)) ∨ ∃ kvs, Rd H a (.dT kvs)
theorem isD_at {X : Cx} {pins : List (Addr × Obj)} {σ : St} {H : Hp} {s : Shared} {a : Addr} (I : Inv X pins σ H s) (d : IsD H a) :
    s.TypeIs (.ref a) "dict" ∧ (∀ b, Value.ref a = .ref b → ∃ ob, s.heap.get? b = some ob ∧ ob.dict = none) ∧ (a == sysModules) = false := by
  rcases d with ⟨kvs, e⟩ | ⟨kvs, e⟩
  · obtain ⟨_, hd, vs, _, dd⟩ := dk_rd I.hok e
    refine ⟨dd.typeIs, fun b q => ?_, hd⟩
    cases q
    obtain ⟨ob, _, _, h1, h2, _⟩ := dd
    exact ⟨ob, h1, h2.2.1⟩
  · obtain ⟨_, hd, xs, _, dd⟩ := dt_rd I.hok e
    refine ⟨dd.typeIs, fun b q => ?_, hd⟩
    cases q
    obtain ⟨ob, _, _, h1, h2, _⟩ := dd
    exact ⟨ob, h1, h2.2.1⟩

section
variable {X : Cx} {pins : List (Addr × Obj)} {σ : St} {H : Hp} {s : Shared} {a : Addr} {y d : V} {u r : Value} {o : Option V} {A : Around} {E : Value → Shared → Prop}
/-- d.get(y, x) -/
theorem d_get2 {Q : Value → Shared → Prop} (hu : A.units + 1 < cLine) (I : Inv X pins σ H s) (g : DGet H a y o) (ry : RelV y u) (rd : RelV d r) (h : ∀ w' s', Inv X pins σ H s' → RelV (o.getD d) w' → Q w' s') :
    wpAny (model X.prog X.w) A (call (.builtin "dict.get") [.ref a, u, r]) Q E s := by
  rcases g with ⟨kvs, k, e, ey, l⟩ | ⟨kvs, k, b, e, ey, eb, l⟩
  · subst ey
    obtain ⟨z, hd, vs, rel, dd⟩ := dk_rd I.hok e
    refine call_meetsIn PySem.F.slot_dict_get dd.typeIs PySem.F.entry_dict_get (PySem.F.args_dict_get_3 _ _ _) (meets_dict_get_default (mixKind X.prog X.w) a (kV_is ry) hd r) ⟨_, dd.mapOf, h _ _ (I.tok _) ?_⟩
    rw [l]
    exact (rel.val k).getD rd
  · subst ey
    cases (show u = Value.ref b from ry)
    obtain ⟨z, hd, xs, rel, dd⟩ := dt_rd I.hok e
    refine call_meetsIn PySem.F.slot_dict_get dd.typeIs PySem.F.entry_dict_get (PySem.F.args_dict_get_3 _ _ _) (meetsH_dict_get_default (tupleKind (mixKind X.prog X.w)) a b hd r) ⟨tupleKind_room_in1 hu, k, xs, key_of I.hok eb, dd, h _ _ (I.tok _) ?_⟩
    rw [l]
    exact (rel.val k).getD rd
end

def tDGet1 (td ty : TE) : TE := fun σ H Q => td σ H fun x H1 => ∃ a, x = .ref a ∧ IsD H1 a ∧ ty σ H1 fun y H2 => ∃ o, DGet H2 a y o ∧ Q (o.getD .non) H2
def tDGet2 (td ty tx : TE) : TE := fun σ H Q => td σ H fun x H1 => ∃ a, x = .ref a ∧ IsD H1 a ∧ ty σ H1 fun y H2 => tx σ H2 fun z H3 => ∃ o, DGet H3 a y o ∧ Q (o.getD z) H3
/-- d.pop(k): there; d.pop(k, x): there or not -/
def tDPop1 (td ty : TE) : TE := fun σ H Q => td σ H fun x H1 => ∃ a, x = .ref a ∧ IsD H1 a ∧ ty σ H1 fun y H2 => ∃ kvs k v, H2 a = some (.dK kvs) ∧ y = kV k ∧ valV kvs k = some v ∧ Q v (upd H2 a (.dK (dropK kvs k)))
def tDPop2 (td ty tx : TE) : TE := fun σ H Q => td σ H fun x H1 => ∃ a, x = .ref a ∧ IsD H1 a ∧ ty σ H1 fun y H2 => tx σ H2 fun z H3 => ∃ kvs k, H3 a = some (.dK kvs) ∧ y = kV k ∧
  (∀ v, valV kvs k = some v → Q v (upd H3 a (.dK (dropK kvs k)))) ∧ (valV kvs k = none → Q z H3)
section
variable {X : Cx} {o e f : Expr} {apos cpos : Pos} {td ty tx : TE}
theorem pe_dget2 (hu : X.A.units + 1 < cLine) (ho : PE X o td) (he : PE X e ty) (hf : PE X f tx) (m : M2 X o "get" apos e f cpos) : PE X (.Call (.Attribute o "get" apos) [e, f] [] cpos) (tDGet2 td ty tx) := by
  intro pins s σ H Q I h
  refine wpAny_Call_method m.base m.few m.line PySem.F.plainAttrs_dict PySem.F.slot_dict_get PySem.F.type_dict_get (thn (ho pins s σ H _ I h) fun u s1 ⟨x, H1, I1, rx, a, ex, d, q1⟩ => ?_)
  subst ex
  obtain rfl : u = Value.ref a := rx
  obtain ⟨t1, t2, _⟩ := isD_at I1 d
  refine ⟨t1, t2, ?_⟩
  rw [m.trees]
  refine Calls.callWith_builtin rfl (Calls.evalArgs_plain (Calls.spliced_cons (thn (he pins s1 σ H1 _ I1 q1) fun iv s2 ⟨y, H2, I2, ry, q2⟩ =>
    Calls.spliced_cons (thn (hf pins s2 σ H2 _ I2 q2) fun fv s3 ⟨z, H3, I3, rz, ov, g, q3⟩ => Calls.spliced_nil ?_))))
  exact d_get2 hu I3 g ry rz fun w' s4 I4 rw' => ⟨_, H3, I4, rw', q3⟩
end

/-! ### dict(d): a copy -/
section
variable {X : Cx} {pins : List (Addr × Obj)} {σ : St} {H : Hp} {s : Shared} {a : Addr} {kvs : List (Key × V)} {A : Around} {E : Value → Shared → Prop}
end


section
variable {X : Cx} {pins : List (Addr × Obj)} {σ : St} {H : Hp} {s : Shared} {a : Addr} {y : V} {u : Value} {A : Around} {E : Value → Shared → Prop}
end
end L2

namespace Att
open PySem PySem.W PySem.Calls PyProof.Rows

/-! ### the script -/
theorem ints_of_wellAll {P : Params} {h : Heap} : ∀ (ns : List Int) (vs : List Value), WellAll P h vs (ns.map WData.int) → IntsAre vs ns := by
  intro ns
  induction ns with
  | nil =>
    intro vs w
    rw [List.map_nil] at w
    cases w
    exact .nil
  | cons n ns ih =>
    intro vs w
    rw [List.map_cons] at w
    cases w with
    | cons a b =>
      cases a
      exact .cons _ _ (ih _ b)

theorem script_of {l : OpenLaw} {n : Nat} (hn : l.most = some n) {P : Params} {h : Heap} {args : List WData} {vals : List Value}
    (hpre : l.row.toRowW.claim.pre args = true) (hwl : WellAll P h vals args) :
    ∃ a vs ns, vals = [Value.ref a] ∧ args = [WData.list (ns.map WData.int)] ∧ h.get? a = some { cls := .type "list", data := .seq vs.toArray } ∧ IntsAre vs ns ∧ ns.length ≤ n := by
  have hsh : WShape.hasAll [] args [.list .int] = true := (pre_splitW hpre).1
  have hc : l.pre.holds [] { args := args } = true := (pre_splitW hpre).2
  obtain ⟨d, r, rfl, h1, h2⟩ := hasAllW_cons hsh
  obtain rfl := hasAllW_nil h2
  obtain ⟨xs, rfl, h3⟩ := hasW_list h1
  obtain ⟨ns, rfl⟩ := items_int h3
  have hlen : ns.length ≤ n := by
    unfold OpenLaw.pre at hc
    have h4 : (WTm.not (.lt (.lit (.int (n : Int))) (.len (.arg 0)))).holds [] { args := [.list (ns.map .int)] } = true := by
      have h4 := (holds_andW hc).1
      rw [hn] at h4
      exact h4
    have h5 := condW_of h4 (w_not (w_lt w_lit (w_len_list (w_arg rfl))))
    rw [List.length_map] at h5
    refine Nat.le_of_not_lt fun q => ?_
    have q' : (n : Int) < ((ns.length : Nat) : Int) := by omega
    first
      | (rw [decide_eq_true q'] at h5; exact absurd h5 (by decide))
      | (simp at h5; omega)
  cases hwl with
  | cons w1 w2 =>
    cases w2
    cases w1 with
    | list ho hall => exact ⟨_, _, ns, rfl, rfl, ho, ints_of_wellAll ns _ hall, hlen⟩

theorem post_true (l : OpenLaw) (args : List WData) : l.row.toRowW.claim.post args (.bool true) args = true :=
  postW_of (r := l.row.toRowW) (X := (true == true))
    (show WShape.has [] (.bool true) .bool = true by first | rfl | decide | simp [WShape.has, WShape.arms, WShape.armsAll])
    (show (WTm.eq .res (.lit (.bool true))).value [] { args := args, res := some (.bool true), after := args } = some (.bool (true == true)) from w_eq_bool (w_res rfl) w_lit) rfl

/-! ### the attachment: holds_open's last premise (the goal 'hc' behind k_head) from a wpAny of the law's body -/
/-- the same from a codeAny of the CALL (for a layer whose function contracts speak of calls) -/
theorem attach_call {l : OpenLaw} {n : Nat} {q : Program} {loose : List Str} {XP : (Str → Option Value) → Heap → Prop} {YP : World → Heap → Prop} {d : DefRec}
    (hn : l.most = some n) (hdf : d.params.defaults = [])
    (call : ∀ (w : World) (s₀ s₁ : Shared) (mg mb : Str → Option Value) (fa : Addr) (o : Obj) (pm cd doc : Value) (a : Addr) (vs : List Value) (ns : List Int),
      Ground q loose [] XP w s₀ mg mb s₁.heap → YP w s₁.heap →
      s₁.heap.get? fa = some o → o.data = .func (docDef d.name d.params d.body d.scope pm cd doc) → s₁.heap.CodeRec cd d.name → mg d.name = some (.ref fa) →
      s₁.heap.get? a = some { cls := .type "list", data := .seq vs.toArray } → IntsAre vs ns → ns.length ≤ n → s₁.gens = #[] →
      codeAny (model l.prog w) callerA (.call (.ref fa) ⟨[.ref a], []⟩) (fun r s' => r = .ok (.ret (.bool true)) ∧ OldK s₁.heap s'.heap ∧ s'.os = s₁.os ∧ AllBare s'.gens) s₁) :
    WalkO q loose XP YP l.row.toRowW d [] (fun f vs => PySem.call f vs) := by
  intro w s₀ s₁ mg mb G Y fa o pm cd doc dV kV ho hd hcd hD hmg hg args vals as hpre hlay hrd hwl hlo
  obtain rfl : dV = .none := Dflts.none hD hdf
  obtain rfl : kV = .none := Dflts.noKw hD
  obtain ⟨a, vs, ns, rfl, rfl, hobj, hints, hlen⟩ := script_of hn hpre hwl
  refine enter_call (codeAny_mono (call w s₀ s₁ mg mb fa o pm cd doc a vs ns G Y ho (fd_plain hd) hcd hmg hobj hints hlen hg) fun r s' hq => ?_)
  obtain ⟨rfl, h2, h3, h4⟩ := hq
  exact ⟨.inl ⟨.bool true, .bool true, [], rfl, fun _ => rfl, .bool true, post_true l _, fun _ => ⟨List.Pairwise.nil, fun _ hm => (nomatch hm)⟩⟩, h2, h3, h4⟩

/-! ### rules over ANY heap (no ledger) from facts about the written part K: the library's own take a ledger (News) for what they write -/
section
variable {prog : Program} {w : World} {A : Around} {E : Value → Shared → Prop} {s : Shared} {K : Frag}

/-! the whole heap as the ledger: makes every rule that writes through a ledger a rule over any heap -/
def noObjs (h : Heap) : Heap := { h with objs := #[] }
def ledger (h : Heap) (L d : Addr) : List (Addr × Obj) := (List.range h.objs.size).filterMap fun a => if a = L ∨ a = d then none else (h.get? a).map fun o => (a, o)
end
end Att

namespace L2
open PySem PySem.Spec PyProof.Rows

theorem vals_ints : ∀ {vs : List Value} {ns : List Int}, IntsAre vs ns → Vals (ns.map V.int) vs
  | _, _, .nil => .nil
  | _, _, .cons n t h => .cons ⟨t, rfl⟩ (vals_ints h)

/-- nothing is tracked but the script, known to the object (or it is an object of the module) -/
def Only (H : Hp) : Prop := ∀ b, H b = none ∨ ∃ o xs, H b = some (.frz o (.lst xs))

/-- THE HEAD: the law's promise, at the heap behind the top. F, the promise of the law's def, may use that base is part of the heap (so K.In base, base.Ns mainGlobals mg stand in Mod) -/
theorem law_call {P : Program} {w : World} {K : PySem.W.Frag} {mg mb : Str → Option Value} {CX : CXT} {k : Nat} {fa a : Addr} {fd : FuncData} {x : Str} {sp : Sp} {s₁ : Shared} {vs : List Value} {ns : List Int}
    (KX : K.In s₁.heap) (hns : s₁.heap.Ns mainGlobals mg) (hb : s₁.heap.Ns builtinsNs mb) (hbb : ∀ x : Str, x ≠ "__name__" → mb x = bootBuiltins x) (hlim : s₁.heap.NoLimit) (hg : s₁.gens = #[])
    (ha : s₁.heap.get? a = some { cls := .type "list", data := .seq vs.toArray }) (hi : IntsAre vs ns) (hl : ns.length ≤ sizeLine) (hr : Room k callerA)
    (F : ∀ base : Heap, K.In base → base.Ns mainGlobals mg → FnOk P w K mg base CX k fa fd [x] sp) (hbind : ∀ (s : Shared) (u : Value), BindsTo s fd ⟨[u], []⟩ [(x, u)])
    (hsp : ∀ H : Hp, Only H → SqL K H a (ns.map V.int) → sp [.ref a] H (fun v _ => v = .bl true) fun _ _ _ => False)
    (hCX : ∀ H e s', CX [] H s₁ (fun _ _ _ => False) e s' → False) :
    codeAny (model P w) callerA (.call (.ref fa) ⟨[.ref a], []⟩) (fun r s' => r = .ok (.ret (.bool true)) ∧ OldK s₁.heap s'.heap ∧ s'.os = s₁.os ∧ AllBare s'.gens) s₁ := by
  have rv := vals_ints hi
  have lenV := hi.length
  -- from an abstract heap in which nothing but the script may be tracked
  have core : ∀ H : Hp, Only H → SqL K H a (ns.map V.int) → HOk P w H s₁.heap → (∀ b, H b ≠ none → b = a) → (H a ≠ none → K.lookup a = none) →
      codeAny (model P w) callerA (.call (.ref fa) ⟨[.ref a], []⟩) (fun r s' => r = .ok (.ret (.bool true)) ∧ OldK s₁.heap s'.heap ∧ s'.os = s₁.os ∧ AllBare s'.gens) s₁ := by
    intro H hO hS hok hA hK
    have base_of : ∀ {b : Addr} {o : Obj}, s₁.heap.get? b = some o → H b = none → (hidT s₁.heap H).get? b = some o := fun e n => hidT_get e n
    have noA : ∀ {b : Addr} {o : Obj} {es : Array DictEntry} {ep : Nat}, s₁.heap.get? b = some o → o.data = .dict es ep → H b = none := fun {b o es ep} e d => by
      cases q : H b with
      | none => rfl
      | some u =>
        have e' : b = a := hA b (by rw [q]; simp)
        subst e'
        rw [ha] at e; cases e
        have d' : Data.seq vs.toArray _ = Data.dict es ep := d
        cases d'
    have nsK : ∀ {b : Addr} {m : Str → Option Value}, s₁.heap.Ns b m → (hidT s₁.heap H).Ns b m := fun {b m} ⟨o, es, ep, e, d, r⟩ => ⟨o, es, ep, base_of e (noA e d), d, r⟩
    have hKb : K.In (hidT s₁.heap H) := fun b o e => base_of (KX b o e) (by
      cases q : H b with
      | none => rfl
      | some u =>
        have e' : b = a := hA b (by rw [q]; simp)
        subst e'
        rw [hK (by rw [q]; simp)] at e; cases e)
    have hM : Mod K mg (hidT s₁.heap H) := ⟨hKb, nsK hns, ⟨mb, nsK hb, hbb⟩, let ⟨mc, h1, h2⟩ := hlim; ⟨mc, nsK h1, h2⟩⟩
    have e0 : Env0 P w K mg (hidT s₁.heap H) callerA [] s₁ H := ⟨rfl, hM, fun b o e => of_hidT e, Nat.le_of_eq (hidT_size _ _), trivial, fun b hb => absurd (show b ∈ ([] : List Addr) from hb) (by simp), hok, .of_eq hg⟩
    refine codeAny_mono ((F _ hKb (nsK hns)).run callerA [] s₁ H ⟨[.ref a], []⟩ [.ref a] [.ref a] _ _ hr e0 (hbind s₁ (.ref a)) (.cons rfl .nil) (hsp H hO hS)) fun r s' h => ?_
    cases r with
    | error e => exact (hCX H e s' h).elim
    | ok fl =>
      cases fl with
      | next => exact False.elim h
      | brk => exact False.elim h
      | cont => exact False.elim h
      | ret u =>
        obtain ⟨v, H', os, bare, un, hok', r', q⟩ := h
        have q' : v = .bl true := q
        subst q'
        obtain rfl : u = Value.bool true := r'
        refine ⟨rfl, OldK.of_keep fun b o e => ?_, os, bare⟩
        cases q : H b with
        | none => exact un.keep b o e q (by intro z; exact absurd (show b ∈ ([] : List Addr) from z) (by simp)) (by simp)
        | some u =>
          rcases hO b with z | ⟨ob, xs, z⟩
          · rw [q] at z; cases z
          · have z2 := un.frzs b ob _ z
            obtain ⟨e1, _⟩ := hok b _ z
            obtain ⟨e2, _⟩ := hok' b _ z2
            rw [e] at e1; cases e1
            exact e2
  cases hk : K.lookup a with
  | some o =>
    -- the script is one of the module's own objects
    have e := KX a o hk
    rw [ha] at e
    cases e
    refine core (fun _ => none) (fun _ => .inl rfl) (.inr ⟨_, vs.toArray, _, hk, rfl, rfl, rfl, by rw [List.size_toArray, lenV]; exact hl, by simpa using rv⟩) (fun b u z => by have z' : (none : Option HO) = some u := z; cases z') (fun b z => absurd rfl z) fun z => absurd rfl z
  | none =>
    refine core (fun b => if b = a then some (.frz { cls := .type "list", data := .seq vs.toArray } (.lst (ns.map V.int))) else none) (fun b => ?_) (.inl (.inr ⟨{ cls := .type "list", data := .seq vs.toArray }, if_pos rfl⟩)) (fun b u z => ?_) (fun b z => ?_) fun _ => hk
    · by_cases hb : b = a
      · exact .inr ⟨_, _, if_pos hb⟩
      · exact .inl (if_neg hb)
    · by_cases hb : b = a
      · have z' := (if_pos hb).symm.trans z
        cases z'
        subst hb
        exact ⟨ha, by rw [List.length_map]; exact hl, vs, _, rv, ha⟩
      · have z' := (if_neg hb).symm.trans z
        cases z'
    · by_cases hb : b = a
      · exact hb
      · exact absurd (if_neg hb) z
end L2

namespace L2
open PySem PySem.Spec PyProof.Rows

abbrev KOf {K : PySem.W.Frag} {h : Heap} (_ : K.In h) : PySem.W.Frag := K

/-- the goal that k_head leaves (case hc), from the law's promise. F gives the function object fd (K's own) once, then the promise over every base -/
theorem walk_of {l : PySem.W.OpenLaw} {n k : Nat} {q : Program} {loose : List Str} {XP : (Str → Option Value) → Heap → Prop} {YP : World → Heap → Prop} {d : DefRec} {K : Params → PySem.W.Frag} {CX : World → CXT} {sp : World → Sp} {x : Str}
    (hn : l.most = some n) (hn2 : n ≤ sizeLine) (hdf : d.params.defaults = []) (hr : Room k callerA)
    (hY : ∀ (w : World) (h : Heap), YP w h → (K w.params).In h)
    (F : ∀ (w : World) (mg : Str → Option Value) (fa : Addr) (h : Heap), (K w.params).In h → h.Ns mainGlobals mg → mg d.name = some (.ref fa) →
      ∃ fd : FuncData, (∀ (s : Shared) (u : Value), BindsTo s fd ⟨[u], []⟩ [(x, u)]) ∧
        ∀ base : Heap, (K w.params).In base → base.Ns mainGlobals mg → FnOk l.prog w (K w.params) mg base (CX w) k fa fd [x] (sp w))
    (hsp : ∀ (w : World) (H : Hp) (a : Addr) (ns : List Int), ns.length ≤ n → Only H → SqL (K w.params) H a (ns.map V.int) → sp w [.ref a] H (fun v _ => v = .bl true) fun _ _ _ => False)
    (hCX : ∀ (w : World) (H : Hp) (s : Shared) (e : Value) (s' : Shared), CX w [] H s (fun _ _ _ => False) e s' → False) :
    PySem.W.WalkO q loose XP YP l.row.toRowW d [] (fun f vs => PySem.call f vs) := by
  refine Att.attach_call hn hdf fun w s₀ s₁ mg mb fa o pm cd doc a vs ns G Y ho hd hcd hmg hobj hints hlen hg => ?_
  have KX := hY w _ Y
  obtain ⟨fd, hb, hF⟩ := F w mg fa _ KX G.T.g hmg
  exact law_call KX G.T.g G.T.b G.T.builtins G.T.nolimit hg hobj hints (Nat.le_trans hlen hn2) hr hF hb (fun H hO hS => hsp w H a ns hlen hO hS) fun H e s' => hCX w H s₁ e s'
end L2

/- THE LAST THEOREM (shape; LID, My.* are yours):
   My.Adr: a structure of the addresses that your layer names (classes, functions); My.Txt K t: a structure (Prop) of the equations over K;
   My.txt_mk : {K} {implicit addresses ..} (e1 : nsIn K mainGlobals "law" = some (some (.ref f))) (e2 : K.lookup f = some ⟨oc, od, .func (fnOf "law" "law" params body scope dV kV doc pm an cdv ct), sl⟩) (e3 : codeIn K cdv "law" = true) .. : ∃ t, My.Txt K t

set_option maxRecDepth 100000 in
set_option maxHeartbeats 0 in
theorem PySem.Challenge.cw_LID_holds : PySem.Challenge.rw_LID.Holds := by
  w_on; o_law; k_head; (case hw => w_witness2)
  k_fill
  refine L2.walk_of (l := PySem.Challenge.rw_LID) (n := 63) (k := 40) (x := "script") (CX := fun w => ..) (sp := fun _ => My.sp_law) rfl (by decide) rfl ⟨rfl, by decide, by decide⟩ (fun w h Y => PySem.W.kIn_of Y) ?F ?S ?C
  case F =>
    intro w mg fa h KX G hmg
    have T : ∃ t, My.Txt (L2.KOf KX) t := by
      dsimp only [L2.KOf]                          -- K must stand as «<heap const> w.params» for k_is
      refine' My.txt_mk ?e1 ?e2 ?e3 ..
      (case e1 => PySem.W.k_is)                    -- in the order: a name -> its address -> its object -> its parts
      (case e2 => PySem.W.k_is)
      ..
    obtain ⟨t, T⟩ := T
    have e0 := hmg.symm.trans (PySem.W.mg_of KX G T.law)
    cases e0                                       -- fa is the law's own address
    exact ⟨_, fun s u => .of_eq rfl, fun base kb nb => My.law_fn T kb nb⟩     -- if «.of_eq rfl» comes too early: refine' ⟨_, ?b, fun base kb nb => My.law_fn T kb nb⟩; exact fun s u => .of_eq rfl
  case S => exact fun w H a ns hl hO hS => ..
  case C => exact ..
(the tactic k_is has no namespace: write k_is) -/

/-! SHORT WORDS over the layer: a def of the text, its body, what a loop and a test want. -/
namespace L2
open PySem PySem.Spec PyProof.Rows

/-! ### the text by places -/
/-- the j-th statement of a class's body -/
def inClass (s : Stmt) (j : Nat) : Stmt := match s with
  | .ClassDef _ _ _ body _ _ _ _ _ _ _ => body.getD j (.Pass ⟨0, 0, 0, 0⟩)
  | _ => .Pass ⟨0, 0, 0, 0⟩
def defArgs (s : Stmt) : Arguments := match s with
  | .FunctionDef _ a _ _ _ _ _ _ _ _ => a
  | _ => { posonlyargs := [], args := [], vararg := none, kwonlyargs := [], kw_defaults := [], kwarg := none, defaults := [] }
def defBody (s : Stmt) : List Stmt := match s with
  | .FunctionDef _ _ b _ _ _ _ _ _ _ => b
  | _ => []
def defScope (s : Stmt) : Scope := match s with
  | .FunctionDef _ _ _ _ _ _ sc _ _ _ => sc
  | _ => { kind := .function, names := [], isGenerator := false, isCoroutine := false }

/-! ### no exception leaves a def -/
abbrev CX0 : CXT := fun _ _ _ _ _ _ => False
abbrev E0 : XK := fun _ _ _ => False
theorem pass0 {X : Cx} : Passes CX0 X E0 := fun _ _ _ _ _ _ _ h => h.elim

/-! ### a def (or method) of the text as it stands behind the top -/
structure Fun (K : PySem.W.Frag) (x qual : Str) (st : Stmt) (f : Addr) (fd : FuncData) : Prop where
  ex : ∃ (oc : Value) (od : Option Addr) (kV doc pm : Value) (an : Option Addr) (cdv ct : Value) (osl : Array (Option Value)),
    fd = PySem.W.fnOf x qual (defArgs st) (defBody st) (defScope st) .none kV doc pm an cdv ct ∧ K.lookup f = some ⟨oc, od, .func fd, osl⟩ ∧ PySem.W.codeIn K cdv qual = true
  kp : PySem.W.keepIn K (.ref f) = true
section
variable {P : Program} {w : World} {K : PySem.W.Frag} {mg : Str → Option Value} {base : Heap}
/-- THE RULE for a def: its body as a term of rules, and the reading of that term -/
theorem Fun.ok {x qual : Str} {st : Stmt} {f : Addr} {fd : FuncData} {N ps : List Str} {k : Nat} {sp : Sp} (F : Fun K x qual st f fd) (S : FnScope N ps (defScope st)) (len : ∀ vs H Q E, sp vs H Q E → vs.length = ps.length)
    (hbody : ∀ (cdv : Value) (A : Around) (outer : List Env) (s : Shared) (H : Hp) (vs : List V) (Q : VK) (E : XK), Room k (A.deeper (envOfC qual (defScope st) s.heap.objs.size f cdv)) → sp vs H Q E →
      ∃ t, PSs (cxOf CX0 P w K mg base N qual (defScope st) f cdv A outer s H E).nox (defBody st) t ∧ t { nx := fun _ H' => Q .non H', rt := Q } (start N vs) H) : FnOk P w K mg base CX0 (k + 1) f fd ps sp := by
  obtain ⟨oc, od, kV, doc, pm, an, cdv, ct, osl, rfl, lk, hcd⟩ := F.ex
  refine fn_of lk hcd S len fun A outer s H vs Q E hr hsp => ?_
  obtain ⟨t, h, q⟩ := hbody cdv A outer s H vs Q E hr hsp
  exact ⟨t, h.nox, q⟩
/-- how its arguments bind (no defaults): h is «fun _ _ _ _ _ _ us hl => match us, hl with | [_, _], _ => rfl», one _ a parameter -/
theorem Fun.binds {x qual : Str} {st : Stmt} {f : Addr} {fd : FuncData} {ps : List Str} (F : Fun K x qual st f fd)
    (h : ∀ (kV doc pm : Value) (an : Option Addr) (cdv ct : Value) (us : List Value), us.length = ps.length → bindArgs (PySem.W.fnOf x qual (defArgs st) (defBody st) (defScope st) .none kV doc pm an cdv ct) ⟨us, []⟩ = pure (ps.zip us)) : Binds K fd ps [] := by
  obtain ⟨oc, od, kV, doc, pm, an, cdv, ct, osl, rfl, lk, hcd⟩ := F.ex
  exact .all (h kV doc pm an cdv ct)
theorem fun_mk {x qual : Str} {st : Stmt} {f : Addr} {oc : Value} {od an : Option Addr} {osl : Array (Option Value)} {kV doc pm cdv ct : Value} (l : K.lookup f = some ⟨oc, od, .func (PySem.W.fnOf x qual (defArgs st) (defBody st) (defScope st) .none kV doc pm an cdv ct), osl⟩)
    (c : PySem.W.codeIn K cdv qual = true) (k : PySem.W.keepIn K (.ref f) = true) : Fun K x qual st f (PySem.W.fnOf x qual (defArgs st) (defBody st) (defScope st) .none kV doc pm an cdv ct) := ⟨⟨oc, od, kV, doc, pm, an, cdv, ct, osl, rfl, l, c⟩, k⟩
end
theorem hu_of {A : Around} {k : Nat} (hr : Room k A) : A.units + 1 < cLine := Nat.lt_of_le_of_lt (Nat.add_le_add_left (by decide : 1 ≤ 64) _) hr.units
theorem small1000 {n : Nat} (h : n ≤ 1000) : n < sizeLine := Nat.lt_of_le_of_lt h (by decide)

/-! ### expressions in short: the name that stands in the i-th slot -/
section
variable {X : Cx}
theorem pv (i : Nat) {x : Str} {pos : Pos} (hN : X.N[i]? = some x := by rfl) (hv : Vis X.env.scope x := by first | exact Or.inl rfl | exact Or.inr (Or.inl rfl) | exact Or.inr (Or.inr rfl)) (hd : (x == ("__debug__" : Str)) = false := by decide)
    (hcd : (x == ("__classdict__" : Str)) = false := by decide) : PE X (.Name x pos) (tVar i) := pe_var hN hv hd hcd
end

/-! ### tests -/
theorem iteF {A B : Prop} (h : B) : if false = true then A else B := by
  rw [if_neg Bool.false_ne_true]
  exact h
theorem iteT {A B : Prop} (h : A) : if true = true then A else B := by
  rw [if_pos rfl]
  exact h
theorem ite2 {c A B : Prop} [Decidable c] (h1 : c → A) (h2 : ¬ c → B) : if c then A else B := by
  by_cases h : c
  · rw [if_pos h]
    exact h1 h
  · rw [if_neg h]
    exact h2 h
/-! ### heaps -/
/-- all that was tracked is as it was -/
def Same (H H' : Hp) : Prop := ∀ b o, H b = some o → H' b = some o
theorem Same.trans {H H1 H2 : Hp} (a : Same H H1) (b : Same H1 H2) : Same H H2 := fun c o h => b c o (a c o h)
theorem Same.free {H H' : Hp} (e : Same H H') {l : Addr} (h : H' l = Option.none) : H l = Option.none := by
  cases q : H l with
  | none => rfl
  | some o =>
    rw [e l o q] at h
    cases h
theorem Same.seq {K : PySem.W.Frag} {H H' : Hp} {a : Addr} {xs : List V} (e : Same H H') (h : SqL K H a xs) : SqL K H' a xs := by
  rcases h with (h | ⟨o, h⟩) | h
  · exact .inl (.inl (e _ _ h))
  · exact .inl (.inr ⟨o, e _ _ h⟩)
  · exact .inr h

/-! ### a dict's pairs: keys that differ -/
section
variable {κ : Type} [DecidableEq κ]
theorem nd_snoc : ∀ {l : List κ} {k : κ}, l.Nodup → ¬ k ∈ l → (l ++ [k]).Nodup
  | [], k, _, _ => by simp
  | a :: r, k, h, hk => by
    obtain ⟨h1, h2⟩ := List.nodup_cons.mp h
    show (a :: (r ++ [k])).Nodup
    refine List.nodup_cons.mpr ⟨fun m => ?_, nd_snoc h2 fun m => hk (List.mem_cons.mpr (Or.inr m))⟩
    rcases List.mem_append.mp m with q | q
    · exact h1 q
    · exact hk (List.mem_cons.mpr (Or.inl (List.mem_singleton.mp q).symm))
end
end L2

set_option maxRecDepth 100000
set_option maxHeartbeats 4000000
namespace L2
open PySem PySem.Spec PyProof.Rows

/-! ### a list comprehension with one clause -/
structure CmpSc (so sc : Scope) (N N' : List Str) (src : List (Option Nat)) : Prop where
  kind : sc.kind = .function
  nocell : ∀ y ∈ sc.names, y.2 ≠ .cell
  loc : ∀ y ∈ sc.names, y.2 = .local → sc.names.lookup y.1 = some .local
  fre : ∀ y ∈ sc.names, y.2 = .free → so.names.lookup y.1 = some .cell ∨ so.names.lookup y.1 = some .free
  nd : N'.Nodup
  len : src.length = N'.length
  cap : ∀ p ∈ N'.zip src, (match p.2 with | none => true | some j => decide (N[j]? = some p.1 ∧ sc.names.lookup p.1 = some .free)) = true

def compSt (src : List (Option Nat)) (σ : St) : St := src.map fun o => o.bind fun j => (σ[j]?).join

def compCx (X : Cx) (sc : Scope) (cl : List (Str × Addr)) (C : Addr) (N' : List Str) (s : Shared) (H : Hp) (ex : List Addr) : Cx where
  prog := X.prog
  w := X.w
  K := X.K
  mg := X.mg
  base := X.base
  A := X.A
  N := N'
  s₀ := s
  H₀ := H
  env := compEnvC sc cl C X.env
  outer := X.stack
  stack := X.stack
  ex := ex
  fn := fun _ => false
  calm := X.calm
  pn := []
  xe := fun _ _ => False

theorem closure_loop {env : Env} : ∀ (names : List (Str × NameKind)) (cs : List (Str × Addr)), (∀ y ∈ names, y.2 = .free → ∃ c, env.cells.lookup y.1 = some c) →
    (∀ x c, cs.lookup x = some c → env.cells.lookup x = some c) →
    ∃ cl : List (Str × Addr), (forIn names cs fun x r => if (x.2 == NameKind.free) = true then (do let a ← cellOf env x.1; pure (ForInStep.yield ((x.1, a) :: r))) else pure (ForInStep.yield r) : Sem (List (Str × Addr))) = pure cl ∧
      (∀ x c, cl.lookup x = some c → env.cells.lookup x = some c) ∧ (∀ x, (∃ c, cs.lookup x = some c) → ∃ c, cl.lookup x = some c) ∧ ∀ y ∈ names, y.2 = .free → ∃ c, cl.lookup y.1 = some c
  | [], cs, _, h2 => ⟨cs, by rw [List.forIn_nil], h2, fun _ h => h, fun _ h => nomatch h⟩
  | (n, k) :: r, cs, h1, h2 => by
    by_cases hk : k = .free
    · subst hk
      obtain ⟨c, hc⟩ := h1 (n, .free) List.mem_cons_self rfl
      have h2' : ∀ x d, ((n, c) :: cs).lookup x = some d → env.cells.lookup x = some d := fun x d e => by
        rw [List.lookup_cons] at e
        split at e
        · rename_i hx
          cases e
          have : x = n := by simpa using hx
          rw [this]; exact hc
        · exact h2 x d e
      obtain ⟨cl, e, q1, q2, q3⟩ := closure_loop r ((n, c) :: cs) (fun y hy => h1 y (List.mem_cons_of_mem _ hy)) h2'
      have has : ∃ d, ((n, c) :: cs).lookup n = some d := ⟨c, by simp⟩
      refine ⟨cl, ?_, q1, fun x ⟨d, hd⟩ => q2 x ?_, fun y hy hf => ?_⟩
      · rw [List.forIn_cons, ← e]
        simp [cellOf, hc]
      · rw [List.lookup_cons]
        split
        · exact ⟨_, rfl⟩
        · exact ⟨d, hd⟩
      · rcases List.mem_cons.mp hy with rfl | hy
        · exact q2 _ has
        · exact q3 y hy hf
    · obtain ⟨cl, e, q1, q2, q3⟩ := closure_loop r cs (fun y hy => h1 y (List.mem_cons_of_mem _ hy)) h2
      have hb : (k == NameKind.free) = false := by simpa using hk
      refine ⟨cl, ?_, q1, q2, fun y hy hf => ?_⟩
      · rw [List.forIn_cons, ← e]
        simp [hb]
      · rcases List.mem_cons.mp hy with rfl | hy
        · exact absurd hf hk
        · exact q3 y hy hf
theorem closure_of {sc : Scope} {env : Env} (h : ∀ y ∈ sc.names, y.2 = .free → ∃ c, env.cells.lookup y.1 = some c) :
    ∃ cl : List (Str × Addr), closureFor sc env = pure cl ∧ (∀ x c, cl.lookup x = some c → env.cells.lookup x = some c) ∧ ∀ y ∈ sc.names, y.2 = .free → ∃ c, cl.lookup y.1 = some c := by
  obtain ⟨cl, e, q1, _, q3⟩ := closure_loop sc.names [] h (fun x c z => by simp at z)
  refine ⟨cl, ?_, q1, q3⟩
  unfold closureFor
  show (forIn sc.names [] _ >>= fun cs => pure cs) = _
  refine Eq.trans (congrArg (fun t => t >>= fun cs => pure cs) (Eq.trans ?_ e)) (by simp)
  congr 1

/-- a name that is a cell or free in the comprehension's block was free in its scope -/
theorem relabel_free {env : Env} : ∀ {names : List (Str × NameKind)} {x : Str}, (∀ y ∈ names, y.2 ≠ .cell) →
    ((names.map fun (n, k) => if (k == NameKind.free && env.scope.kind == .function && env.kindOf n == some .cell) then (n, NameKind.cell) else (n, k)).lookup x = some .cell ∨
     (names.map fun (n, k) => if (k == NameKind.free && env.scope.kind == .function && env.kindOf n == some .cell) then (n, NameKind.cell) else (n, k)).lookup x = some .free) → (x, NameKind.free) ∈ names
  | [], _, _, h => by simp at h
  | (n, k) :: r, x, hc, h => by
    have ih := @relabel_free env r x (fun y hy => hc y (List.mem_cons_of_mem _ hy))
    have h : List.lookup x ((if (k == NameKind.free && env.scope.kind == .function && env.kindOf n == some .cell) = true then (n, NameKind.cell) else (n, k)) :: _) = some .cell ∨ List.lookup x ((if (k == NameKind.free && env.scope.kind == .function && env.kindOf n == some .cell) = true then (n, NameKind.cell) else (n, k)) :: _) = some .free := h
    by_cases hb : (k == NameKind.free && env.scope.kind == .function && env.kindOf n == some .cell) = true
    · rw [if_pos hb] at h
      cases hx : x == n with
      | true =>
        have e : x = n := by simpa using hx
        subst e
        have : k = NameKind.free := by
          simp only [Bool.and_eq_true, beq_iff_eq] at hb
          exact hb.1.1
        subst this; exact List.mem_cons_self
      | false =>
        simp only [List.lookup_cons, hx] at h
        exact List.mem_cons_of_mem _ (ih h)
    · rw [if_neg hb] at h
      cases hx : x == n with
      | true =>
        have e : x = n := by simpa using hx
        subst e
        have hk := hc (x, k) List.mem_cons_self
        simp only [List.lookup_cons, beq_self_eq_true, Option.some.injEq] at h
        rcases h with h | h
        · exact absurd h hk
        · subst h; exact List.mem_cons_self
      | false =>
        simp only [List.lookup_cons, hx] at h
        exact List.mem_cons_of_mem _ (ih h)
theorem relabel_free' {env : Env} : ∀ {names : List (Str × NameKind)} {x : Str}, names.lookup x = some .free →
    ((names.map fun (n, k) => if (k == NameKind.free && env.scope.kind == .function && env.kindOf n == some .cell) then (n, NameKind.cell) else (n, k)).lookup x = some .cell ∨
     (names.map fun (n, k) => if (k == NameKind.free && env.scope.kind == .function && env.kindOf n == some .cell) then (n, NameKind.cell) else (n, k)).lookup x = some .free)
  | [], _, h => by simp at h
  | (n, k) :: r, x, h => by
    have ih := @relabel_free' env r x
    show List.lookup x ((if (k == NameKind.free && env.scope.kind == .function && env.kindOf n == some .cell) = true then (n, NameKind.cell) else (n, k)) :: _) = some .cell ∨ List.lookup x ((if (k == NameKind.free && env.scope.kind == .function && env.kindOf n == some .cell) = true then (n, NameKind.cell) else (n, k)) :: _) = some .free
    cases hx : x == n with
    | true =>
      simp only [List.lookup_cons, hx, Option.some.injEq] at h
      subst h
      by_cases hb : (NameKind.free == NameKind.free && env.scope.kind == .function && env.kindOf n == some .cell) = true
      · rw [if_pos hb]; left; simp only [List.lookup_cons, hx]
      · rw [if_neg hb]; right; simp only [List.lookup_cons, hx]
    | false =>
      simp only [List.lookup_cons, hx] at h
      by_cases hb : (k == NameKind.free && env.scope.kind == .function && env.kindOf n == some .cell) = true
      · rw [if_pos hb]; simp only [List.lookup_cons, hx]; exact ih h
      · rw [if_neg hb]; simp only [List.lookup_cons, hx]; exact ih h

/-- the loop of one clause, any target -/
theorem codeAny_compLoop_gen {prog : Program} {w : World} {A : Around} {R : Result → Shared → Prop} {s : Shared} {elt target iter : Expr} {ifs : List Expr} {scope : Scope} {pos : Pos} {it acc : Value} {env : Env} (I : Nat → Shared → Prop)
    (turn : ∀ n s, I n s → wpAny (model prog w) A (pyNext it) (fun r s₁ => match r with
      | none => R (.ok .next) s₁
      | some v => wpAny (model prog w) A (letOwnedTupleGo target it v) (fun _ s₁' => wpAny (model prog w) A (assign target env v) (fun _ s₂ =>
          wpAny (model prog w) A (forIn ifs true fun c r => if r = true then do let ok ← isTrue c env (eval c env); pure (ForInStep.yield ok) else pure (ForInStep.yield r)) (fun ok s₃ =>
            if ok = true then wpAny (model prog w) A (eval elt env) (fun x s₄ =>
              wpAny (model prog w) A (call (.builtin "list.append") [acc, x]) (fun _ s₅ => ∃ m, m < n ∧ I m s₅) (fun _ _ => False) s₄) (fun _ _ => False) s₃
            else ∃ m, m < n ∧ I m s₃) (fun _ _ => False) s₂) (fun _ _ => False) s₁') (fun _ _ => False) s₁) (fun _ _ => False) s)
    (n : Nat) (h : I n s) :
    codeAny (model prog w) A (.compLoop (.ListComp elt [⟨target, iter, ifs, 0⟩] scope pos) 0 it acc env) R s := by
  refine codeAny_loop rfl I (fun n s hI => ?_) n h
  show wpAny _ A ((compTurn (.ListComp elt [⟨target, iter, ifs, 0⟩] scope pos) 0 it acc env).onRaise (fun x => do noteFrame x env; theTreesLotGoes x)) _ _ s
  refine wpAny_noted ?_
  rw [compTurn_list]
  refine wpAny_bind (wpAny_standAt (wpAny_bind (wpAny_mono (turn n s hI) (fun r s₁ h₁ => ?_) fun _ _ h' => h'.elim)))
  cases r with
  | none => exact wpAny_pure h₁
  | some v =>
    refine wpAny_bind (wpAny_mono h₁ (fun _ s₁' h₁' => ?_) fun _ _ h' => h'.elim)
    refine wpAny_bind (wpAny_mono h₁' (fun _ s₂ h₂ => wpAny_bind (wpAny_mono h₂ (fun ok s₃ h₃ => ?_) fun _ _ h' => h'.elim)) fun _ _ h' => h'.elim)
    cases ok with
    | false => exact wpAny_pure ⟨rfl, h₃⟩
    | true =>
      exact wpAny_bind (wpAny_bind (wpAny_mono h₃ (fun x s₄ h₄ => wpAny_bind (wpAny_mono h₄ (fun _ s₅ h₅ => wpAny_pure (wpAny_pure ⟨rfl, h₅⟩)) fun _ _ h' => h'.elim)) fun _ _ h' => h'.elim))

def PTs (X : Cx) (ifs : List Expr) (t : TT) : Prop :=
  ∀ (pins : List (Addr × Obj)) (s : Shared) (σ : St) (H : Hp) (Q : Bool → Hp → Prop), Inv X pins σ H s → t σ H Q →
    wpAny (model X.prog X.w) X.A (forIn ifs true fun c r => if r = true then do let ok ← isTrue c X.env (eval c X.env); pure (ForInStep.yield ok) else pure (ForInStep.yield r)) (TP X pins σ Q) X.xe s
def tYes : TT := fun _ H Q => Q true H
theorem pts_nil {X : Cx} : PTs X [] tYes := fun pins s σ H Q I h => wpAny_tests_nil ⟨H, I, h⟩
theorem pts_one {X : Cx} {c : Expr} {t : TT} (h : PT X c t) : PTs X [c] t := fun pins s σ H Q I hq => wpAny_tests_one (h pins s σ H Q I hq)

/-- the body of a comprehension as a statement's reading: the new list stands at a -/
def tbC (tt : TT) (te : TE) (a : Addr) : TS := fun D σ H => tt σ H fun b H1 => if b = true then te σ H1 fun y H2 => ∃ ys, H2 a = some (.lst ys) ∧ ys.length < sizeLine ∧ D.nx σ (upd H2 a (.lst (ys ++ [y]))) else D.nx σ H1
/-- the loop's form, as tFor has it -/
def LoopF (J : It) (g : TG) (tb : TS) (D : Ends) (σ : St) (H : Hp) : Prop := ∃ W : Nat → Nat → St → Hp → Prop, (∃ m, W 0 m σ H) ∧ ∀ i m σ H, W i m σ H →
  (J.stop i H ∧ D.nx σ H) ∨ (J.go i H ∧ ∃ N : St → Hp → Prop, (∀ σ' H', N σ' H' → ∃ m', m' < m ∧ W (i + 1) m' σ' H') ∧ ∀ x H', J.yld i H x H' → g x σ H' fun σ2 H2 => tb { D with nx := N, ct := N, bk := D.nx } σ2 H2)
def tComp (wi : TI) (g : TG) (tt : TT) (te : TE) (src : List (Option Nat)) : TE := fun σ H Q => wi σ H fun J H1 => ∀ a, H1 a = none →
  LoopF J g (tbC tt te a) { nx := fun _ H' => Q (.ref a) H', rt := fun _ _ => False } (compSt src σ) (upd H1 a (.lst []))

theorem inv_comp {X : Cx} {pins : List (Addr × Obj)} {σ : St} {H : Hp} {s : Shared} {sc so : Scope} {N' : List Str} {src : List (Option Nat)} {cl : List (Str × Addr)} {fp : List Addr} {h' : Heap}
    (I : Inv X pins σ H s) (hso : X.env.scope = so) (S : CmpSc so sc X.N N' src) (q1 : ∀ x c, cl.lookup x = some c → X.env.cells.lookup x = some c) (q3 : ∀ y ∈ sc.names, y.2 = .free → ∃ c, cl.lookup y.1 = some c)
    (hf : ∀ b ∈ fp, FpOk X pins H b) (hlt : ∀ b ∈ fp, b < s.heap.objs.size) (hns : h'.Ns s.heap.objs.size fun _ => none) (hk : ∀ b o, s.heap.get? b = some o → h'.get? b = some o) (tk : Nat) :
    Inv (compCx X sc cl s.heap.objs.size N' s H fp) [] (compSt src σ) H { s with heap := h', toks := tk } := by
  have hb : ∀ b ∈ fp, b ≠ s.heap.objs.size ∧ ∀ x c, cl.lookup x = some c → c ≠ b := fun b z => ⟨Nat.ne_of_lt (hlt b z), fun x c e => (hf b z).2.2.2.2.1 x c (q1 x c e)⟩
  refine ⟨⟨I.ok.mod, ?_, I.ok.glob, I.ok.blt, Nat.le_refl _, fun x y c h1 h2 => I.ok.inj x y c (q1 _ _ h1) (q1 _ _ h2), fun x hx => ?_, fun x c hx _ => (by cases hx), I.ok.hd, I.ok.frames, .inl rfl, hb, I.bs, Nat.le_trans I.ok.bsz I.sz, fun b o e z => ?_, fun b z hz => ?_, I.stack, I.stkFree⟩,
    rfl, I.bare, Un.kept hk, ⟨_, hns, fun i x v h1 h2 h3 => ?_⟩, fun x c e => ?_, I.hok.fresh (Nat.le_refl _), fun x c e => I.freeC x c (q1 x c e), fun p hp => absurd (show p ∈ ([] : List (Addr × Obj)) from hp) (by simp), I.hok.kept hk, ?_⟩
  · show (relabel sc X.env).kind = _
    exact S.kind
  · have hx' : (x, NameKind.free) ∈ sc.names := relabel_free S.nocell hx
    exact q3 _ hx' rfl
  · rcases (hf b z).2.2.2.1 with y | y
    · exact I.ok.noex b o e y
    · exact absurd (Nat.lt_of_lt_of_le (Heap.lt_size e) (Nat.le_trans I.ok.bsz y)) (Nat.lt_irrefl _)
  · rcases List.mem_cons.mp (I.stkSub b hz) with y | y
    · exact (hf b z).2.1 y
    · exact (hf b z).2.2.1 y
  · -- the captured names
    have h1' : N'[i]? = some x := h1
    have h2' : (compSt src σ)[i]? = some (some v) := h2
    unfold compSt at h2'
    rw [List.getElem?_map] at h2'
    cases hs : src[i]? with
    | none => rw [hs] at h2'; cases h2'
    | some o =>
      rw [hs] at h2'
      have h2'' : (o.bind fun j => (σ[j]?).join) = some v := Option.some.inj h2'
      cases o with
      | none => cases h2''
      | some j =>
        have hj : (σ[j]?).join = some v := h2''
        have hσ : σ[j]? = some (some v) := by
          cases e : σ[j]? with
          | none => rw [e] at hj; cases hj
          | some z => rw [e] at hj; rw [show z = some v from hj]
        have hzip : (x, some j) ∈ N'.zip src := by
          have : (N'.zip src)[i]? = some (x, some j) := by
            rw [List.getElem?_zip_eq_some]; exact ⟨h1', hs⟩
          exact List.mem_of_getElem? this
        have hc := of_decide_eq_true (S.cap _ hzip)
        obtain ⟨hN, hfr⟩ : X.N[j]? = some x ∧ sc.names.lookup x = some .free := hc
        have hmem : (x, NameKind.free) ∈ sc.names := PySem.mem_of_lookup hfr
        have hvis := S.fre _ hmem rfl
        rw [← hso] at hvis
        obtain ⟨m, hn, hl⟩ := I.loc
        obtain ⟨u, ru, lk⟩ := hl j x v hN hσ (.inr hvis)
        refine ⟨u, ru, .inr ⟨relabel_free' hfr, ?_⟩⟩
        obtain ⟨c, hcl⟩ := q3 _ hmem rfl
        refine ⟨c, hcl, ?_⟩
        rcases lk with ⟨k, _⟩ | ⟨_, c', e', z⟩
        · have k : X.env.scope.names.lookup x = some .local := k
          rcases hvis with y | y <;> (rw [k] at y; cases y)
        · have := q1 x c hcl
          rw [e'] at this; cases this
          obtain ⟨ob, e1, e2⟩ := z
          exact ⟨ob, hk _ _ e1, e2⟩
  · obtain ⟨v, ob, e1, e2⟩ := I.cell x c (q1 x c e)
    exact ⟨v, ob, hk _ _ e1, e2⟩
  · show (compSt src σ).length = N'.length
    unfold compSt
    rw [List.length_map]; exact S.len

theorem call_append {X : Cx} {pins : List (Addr × Obj)} {σ : St} {H : Hp} {s : Shared} {l : Addr} {xs : List V} {y : V} {u : Value} {E : Value → Shared → Prop} (I : Inv X pins σ H s) (hH : H l = some (.lst xs)) (hz : xs.length < sizeLine) (ru : RelV y u) :
    wpAny (model X.prog X.w) X.A (call (.builtin "list.append") [.ref l, u]) (fun _ s' => Inv X pins σ (upd H l (.lst (xs ++ [y]))) s') E s := by
  obtain ⟨z, its, n, r, hl, e⟩ := I.lstM hH
  refine call_meets F.slot_list_append ⟨_, e, rfl⟩ F.entry_list_append (F.args_list_append_2 _ _) (PySem.list_append l its.toArray n u (by rw [List.size_toArray]; omega)) ⟨e, ?_⟩
  refine I.lset (its' := its ++ [u]) hH e (by simp) (r.append (.cons ru .nil)) ?_
  rw [List.length_append, List.length_singleton]
  omega

/-- THE RULE -/
theorem pe_comp {X : Cx} {elt tg iter : Expr} {ifs : List Expr} {sc so : Scope} {pos : Pos} {N' : List Str} {src : List (Option Nat)} {wi : TI} {g : TG} {tt : TT} {te : TE} {N : List Str} (hso : X.env.scope = so) (hXN : X.N = N) (S : CmpSc so sc N N' src) (hc : X.calm = true) (hi : PI X tg iter wi)
    (hb : ∀ (cl : List (Str × Addr)) (C : Addr) (s : Shared) (H : Hp) (ex : List Addr), PG (compCx X sc cl C N' s H ex) tg g ∧ PTs (compCx X sc cl C N' s H ex) ifs tt ∧ PE (compCx X sc cl C N' s H ex) elt te)
    (hs : ∀ x, foldedSetIterable iter X.env x = pure x := by intro _; rfl) : PE X (.ListComp elt [⟨tg, iter, ifs, 0⟩] sc pos) (tComp wi g tt te src) := by
  subst hXN
  intro pins s σ H Q I h
  obtain ⟨cl, hcl, q1, q3⟩ := closure_of (sc := sc) (env := X.env) fun y hy hf => by
    have := S.fre y hy hf
    rw [← hso] at this
    exact I.ok.has y.1 this
  rw [eval_ListComp]
  refine wpAny_comprehension_free (use := none) rfl hs hcl S.kind S.loc (thn (hi pins s σ H _ I h) fun v s1 h1 => thn h1 fun itv s2 h2 => ?_)
  obtain ⟨it, fp, tn, J, H2, e, I2, T, st2, f2, hR⟩ := h2
  subst e
  refine wpAny_newObj_type ?_
  have I3 : Inv X pins σ (upd H2 s2.heap.objs.size (.lst [])) { s2 with heap := s2.heap.push { cls := .type "list", dict := none, data := .seq ([] : List Value).toArray } } :=
    I2.laid (t' := s2.toks) (fun b u q => Heap.get?_push_of_some _ q) (Nat.le_refl _) ⟨Nat.zero_le _, [], 0, .nil, Heap.get?_push_size _ rfl⟩
  have hfr := I2.hok.fresh (Nat.le_refl s2.heap.objs.size)
  obtain ⟨W, ⟨m0, w0⟩, turn⟩ := hR _ hfr
  have flt : ∀ b ∈ fp, b < s2.heap.objs.size := fun b hb => by obtain ⟨o, e, _⟩ := T.obj _ _ st2 b hb; exact Heap.lt_size e
  generalize hs3 : ({ s2 with heap := s2.heap.push { cls := .type "list", dict := none, data := .seq ([] : List Value).toArray } } : Shared) = s3 at I3 ⊢
  have e3 : s3.heap = s2.heap.push { cls := .type "list", dict := none, data := .seq ([] : List Value).toArray } := by rw [← hs3]
  have sz3 : s3.heap.objs.size = s2.heap.objs.size + 1 := by rw [e3, Heap.size_push]
  have hf3 : ∀ b ∈ fp, FpOk X pins (upd H2 s2.heap.objs.size (.lst [])) b := fun b hb => ⟨by rw [upd_ne (Nat.ne_of_lt (flt b hb))]; exact (f2 b hb).1, (f2 b hb).2⟩
  have flt3 : ∀ b ∈ fp, b < s3.heap.objs.size := fun b hb => by rw [sz3]; exact Nat.lt_succ_of_lt (flt b hb)
  have st3 : tn 0 s3.heap := T.keep _ _ _ st2 fun b _ o e => by rw [e3]; exact Heap.get?_push_of_some _ e
  refine wpAny_newFunctionEnv S.nocell (by intro y hy; simp at hy) (fun h4 hns4 hsb4 => ?_) S.kind
  have kp4 : ∀ b o, s3.heap.get? b = some o → h4.get? b = some o := fun b o e => hsb4.extBut b o (Nat.ne_of_lt (Heap.lt_size e)) (Heap.get?_push_of_some _ e)
  have I4 := inv_comp (h' := h4) I3 hso S q1 q3 hf3 flt3 (by simpa using hns4) kp4 (s3.toks + ([] : List (Str × Value)).length)
  have st4 : tn 0 h4 := T.keep _ _ _ st3 fun b _ o e => kp4 b o e
  generalize hC : s3.heap.objs.size = C at I4 hns4 hsb4 ⊢
  obtain ⟨hg, ht, he⟩ := hb cl C s3 (upd H2 s2.heap.objs.size (.lst [])) fp
  let Y : Cx := compCx X sc cl C N' s3 (upd H2 s2.heap.objs.size (.lst [])) fp
  -- what is wanted behind the loop
  have loop : ∀ s5 : Shared, s5 = { s3 with heap := h4, toks := s3.toks + ([] : List (Str × Value)).length } → codeAny (model X.prog X.w) X.A (.compLoop (.ListComp elt [⟨tg, iter, ifs, 0⟩] sc pos) 0 (.ref it) (.ref s2.heap.objs.size) (compEnvC sc cl C X.env))
      (compPost (model X.prog X.w) X.A X.xe none (EP X pins σ Q) (.ref s2.heap.objs.size) C) s5 := by
    rintro s5 rfl
    have stat : ∀ {H' : Hp}, (∀ b ∈ fp, H' b = none) → ∀ b ∈ fp, FpOk Y [] H' b := fun {H'} hn b hb => by
      obtain ⟨f0, f1, f2', f3, f4, f5⟩ := hf3 b hb
      refine ⟨hn b hb, ?_, fun z => ?_, .inl hb, fun x c e => f4 x c (q1 x c e), fun p hp => absurd (show p ∈ ([] : List (Addr × Obj)) from hp) (by simp)⟩
      · show b ≠ C
        rw [← hC]; exact Nat.ne_of_lt (flt3 b hb)
      · have z : b ∈ frs X.stack := z
        rcases List.mem_cons.mp (I3.stkSub b z) with y | y
        · exact f1 y
        · exact f2' y
    refine codeAny_compLoop_gen (fun n s' => ∃ i σ' H', Inv Y [] σ' H' s' ∧ tn i s'.heap ∧ (∀ b ∈ fp, H' b = none) ∧ W i n σ' H') ?_ m0 ⟨0, _, _, I4, st4, fun b hb => (hf3 b hb).1, w0⟩
    rintro n s6 ⟨i, σ6, H6, I6, st6, fr6, w6⟩
    rcases turn i n σ6 H6 w6 with ⟨stop, qn⟩ | ⟨go, Nx, hN, step⟩
    · refine thn (T.done Y rfl rfl rfl hc i [] s6 σ6 H6 _ I6 (stat fr6) st6 stop) fun r s7 ⟨hr, I7⟩ => ?_
      subst hr
      obtain ⟨m, hn, _⟩ := id I7.loc
      refine ⟨m, hn, fun h' hsb => ?_⟩
      -- back to the frame of the def
      have neC : ∀ b o, s3.heap.get? b = some o → b ≠ C := fun b o e => by rw [← hC]; exact Nat.ne_of_lt (Heap.lt_size e)
      have freeC : H6 C = none := I7.free
      have un : Un (frs X.stack) fp (upd H2 s2.heap.objs.size (.lst [])) H6 s3.heap h' :=
        ⟨fun b o e n hb hx => (hsb.2 b (neC b o e)).trans (I7.base.keep b o e n hb hx), fun b o e n hb hx => by
            obtain ⟨sl, q⟩ := I7.base.slot b o e n hb hx
            exact ⟨sl, (hsb.2 b (neC b o e)).trans q⟩, I7.base.free, fun b o e hx => by
            obtain ⟨o', q⟩ := I7.base.there b o e hx
            exact ⟨o', (hsb.2 b (neC b o e)).trans q⟩, I7.base.tups, I7.base.frzs, I7.base.tbls⟩
      have hok : HOk X.prog X.w H6 h' := fun b ob e => by
        refine (I7.hok b ob e).stay (fun c w' hc' q => (hsb.2 c ?_).trans q) (fun _ q => q) fun _ _ q => q
        rintro rfl
        rcases hc' with z | z
        · rw [← z, freeC] at e; cases e
        · rw [freeC] at z; cases z
      have J7 : Inv X pins σ H6 { s7 with heap := h' } := I3.call' (ch := fp) (s' := { s7 with heap := h' }) I7.os un hok I7.bare fun b hb => ⟨(hf3 b hb).2.2.2.1, (hf3 b hb).2.1, (hf3 b hb).2.2.2.2.1, (hf3 b hb).2.2.2.2.2⟩
      exact ⟨.ref s2.heap.objs.size, H6, J7, rfl, qn⟩
    · refine thn (T.item Y rfl rfl rfl hc i [] s6 σ6 H6 _ I6 (stat fr6) st6 go) fun r s7 ⟨u, hr, h7⟩ => ?_
      subst hr
      refine thn h7 fun _ s8 ⟨x, H8, I8, r8, y8, st8, fr8⟩ => ?_
      have I8' := I8.pinned (stat fr8) (T.obj _ _ st8)
      refine thn (hg _ s8 σ6 H8 x u _ I8' r8 (step x H8 y8)) fun _ s9 ⟨σ9, H9, I9, q9⟩ => ?_
      have again : ∀ {s' : Shared} {σ7 : St} {H7 : Hp}, Inv Y ([] ++ pinsAt fp s8.heap) σ7 H7 s' → Nx σ7 H7 → ∃ m, m < n ∧ ∃ i σ' H', Inv Y [] σ' H' s' ∧ tn i s'.heap ∧ (∀ b ∈ fp, H' b = none) ∧ W i m σ' H' := fun {s' σ7 H7} I7 n7 => by
        obtain ⟨m', hm, w7⟩ := hN σ7 H7 n7
        refine ⟨m', hm, i + 1, σ7, H7, I7.unpinned, T.keep _ _ _ st8 fun b hb o e => (I7.pin (b, o) (List.mem_append_right _ (List.mem_append_right _ (mem_pinsAt hb e)))).1, fun b hb => ?_, w7⟩
        obtain ⟨o, e, d⟩ := T.obj _ _ st8 b hb
        exact (I7.pin (b, o) (List.mem_append_right _ (List.mem_append_right _ (mem_pinsAt hb e)))).2.1
      refine thn (ht _ s9 σ9 H9 _ I9 q9) fun ok s10 ⟨H10, I10, q10⟩ => ?_
      cases ok with
      | false =>
        rw [if_neg Bool.false_ne_true] at q10 ⊢
        exact again I10 q10
      | true =>
        rw [if_pos rfl] at q10 ⊢
        refine thn (he _ s10 σ9 H10 _ I10 q10) fun y s11 ⟨yv, H11, I11, ry, ys, hys, hlen, q11⟩ => ?_
        exact thn (call_append (X := Y) I11 hys hlen ry) fun _ s12 I12 => again I12 q11
  exact codeAny_compStart_list (loop _ rfl) (T.self _ 0 _ _ _ st4 (loop _ rfl))

def tCompS (wi : TI) (g : TG) (tt : TT) (te : TE) (src : List (Option Nat)) (i : Nat) : TS := fun D σ H => wi σ H fun J H1 => ∀ a, H1 a = none →
  LoopF J g (tbC tt te a) { nx := fun _ H' => D.nx (σ.set i (some (.ref a))) H', rt := fun _ _ => False } (compSt src σ) (upd H1 a (.lst []))
end L2

set_option maxRecDepth 100000
set_option maxHeartbeats 4000000
namespace L2
open PySem PySem.Spec PyProof.Rows
section
variable {X : Cx}
/-! ### // by a positive divisor below 2^60 -/
def CDivB (i j : Int) : Prop := 0 < j ∧ j < 1152921504606846976
theorem op_fdivB : OpR X (binaryOp .FloorDiv) (rI CDivB fun i j => .int (i / j)) := opI fun i j _ _ _ _ _ hc q => by
  have h1 : (0 : Int) < j := hc.1
  have h2 : j < 1152921504606846976 := hc.2
  refine floordiv_int (by omega) (by rw [Int.fdiv_eq_ediv_of_nonneg i (by omega)]; exact q) (.inl (PyProof.noPylong_of_log2 ?_))
  have h0 : j.natAbs ≠ 0 := by omega
  have : j.natAbs.log2 < 60 := (Nat.log2_lt h0).mpr (by omega)
  omega

/-! ### isinstance(x, T), T a built-in type -/
theorem call_isi : CallR X (.builtin "isinstance") (fun xs H Q => ∃ x T t b, xs = [x, .ty T] ∧ TyOf X.K H x t ∧ PySem.W.kitOne X.K t (.type T) = some b ∧ Q (.bl b) H) := by
  intro pins s σ H xs us Q I r h
  obtain ⟨x, T, t, b, rfl, ty, e, q⟩ := h
  cases r with
  | cons rx r2 =>
    cases r2 with
    | cons rt r3 =>
      cases r3
      cases rt
      exact isinst_ok I rx ty e fun tk => ⟨.bl b, H, I.tok tk, rfl, q⟩

/-! ### all, any of a list of bools -/
theorem truth_bools {A : Around} {bs : List Bool} {its : List Value} (r : Vals (bs.map V.bl) its) :
    TruthOf X.prog X.w A (fun i v => its.toArray[i]? = some v) (fun i => bs.getD i false) := by
  intro i v s Q E hv hq
  have hv' : its[i]? = some v := by simpa using hv
  have hi : i < its.length := (List.getElem?_eq_some_iff.mp hv').1
  have hl := r.length
  rw [List.length_map] at hl
  obtain ⟨u, hu, ru⟩ := r.get (i := i) (x := V.bl (bs[i]'(by omega))) (by rw [List.getElem?_map, List.getElem?_eq_getElem (by omega)]; rfl)
  rw [hv'] at hu; cases hu
  cases ru
  have e : bs.getD i false = bs[i]'(by omega) := by simp [List.getD, List.getElem?_eq_getElem (show i < bs.length by omega)]
  have hq' : Q (bs.getD i false) s := hq
  rw [e] at hq'
  exact wpAny_truthy_bool hq'
theorem range_all (bs : List Bool) : (List.range bs.length).all (fun i => bs.getD i false) = bs.all id := by
  have h : (List.range bs.length).map (fun i => bs.getD i false) = bs := by
    apply List.ext_getElem
    · simp
    · intro i h1 h2; simp [List.getD, List.getElem?_eq_getElem h2]
  have e : (List.range bs.length).all (fun i => bs.getD i false) = ((List.range bs.length).map (fun i => bs.getD i false)).all id := by rw [List.all_map]; rfl
  rw [e, h]
theorem list_walk {pins : List (Addr × Obj)} {σ : St} {H : Hp} {s : Shared} {A : Around} {E : Value → Shared → Prop} {p : Addr} {xs : List V} {its : List Value} {R : Value → Shared → Prop} (I : Inv X pins σ H s) (hA : A.handled = none) (pl : PlainL s.heap p its.toArray)
    (h : ∀ (I' : Addr) (St : Nat → Heap → Prop) (s2 : Shared), s2.heap.objs.size = s.heap.objs.size + 1 → I' = s.heap.objs.size → Walks X.prog X.w A I' [I', p] [I'] its.length (fun i v => its.toArray[i]? = some v) St → St 0 s2.heap → (∀ b o, s.heap.get? b = some o → s2.heap.get? b = some o) → (∀ h' tk, (∀ b o, b ∉ [I'] → s2.heap.get? b = some o → h'.get? b = some o) → Inv X pins σ H { s2 with heap := h', toks := tk }) → R (.ref I') s2) :
    wpAny (model X.prog X.w) A (pyIter (.ref p)) R E s := by
  refine wpAny_pyIter_list pl.isList ?_
  have hlt : p < s.heap.objs.size := by obtain ⟨o, n, e, _⟩ := pl; exact Heap.lt_size e
  have W := Walks.list (prog := X.prog) (w := X.w) hA s.heap.objs.size p (Nat.ne_of_lt hlt) its.toArray
  rw [List.size_toArray] at W
  refine h _ _ _ (by rw [Heap.size_push]) rfl W ⟨⟨_, Heap.get?_push_size _ rfl, rfl, rfl⟩, pl.isList.at fun o e => Heap.get?_push_of_some _ e⟩ (fun b o e => Heap.get?_push_of_some _ e) fun h' tk kp => ?_
  exact I.kept (t' := tk) fun b o e => kp b o (by simpa using Nat.ne_of_lt (Heap.lt_size e)) (Heap.get?_push_of_some _ e)
theorem call_allB (hc : X.calm = true) : CallR X (.builtin "all") (fun xs H Q => ∃ (p : Addr) (bs : List Bool), xs = [.ref p] ∧ SqL X.K H p (bs.map V.bl) ∧ Q (.bl (bs.all id)) H) := by
  intro pins s σ H xs us Q I r h
  obtain ⟨p, bs, rfl, hq, q⟩ := h
  obtain ⟨u, rfl, rx⟩ := vals1 r
  cases rx
  obtain ⟨its, rv, pl, hz⟩ := I.list hq
  have hl := rv.length
  rw [List.length_map] at hl
  refine call_all_walk (list_walk (xs := bs.map V.bl) I (I.ok.hd hc) pl fun I' St s2 hs2 hI W st kp fin => ?_)
  refine ⟨I', _, _, _, _, St, _, rfl, W, st, truth_bools rv, fun h' tk k => ⟨.bl _, H, fin h' tk k, rfl, ?_⟩⟩
  rw [← hl, range_all]; exact q
/-! ### sorted of a list of ints, of a dict with int keys: below 64 -/
theorem ints_of_vals : ∀ {ns : List Int} {us : List Value}, Vals (ns.map V.int) us → IntsAre us ns
  | [], _, r => by cases r; exact IntsAre.nil
  | n :: ns, _, r => by
    cases r with
    | cons r t => obtain ⟨tk, rfl⟩ := r; exact IntsAre.cons _ _ (ints_of_vals t)
theorem vals_of_ints : ∀ {ns : List Int} {us : List Value}, IntsAre us ns → Vals (ns.map V.int) us := by
  intro ns
  induction ns with
  | nil => intro us h; cases h; exact .nil
  | cons n ns ih =>
    intro us h
    cases h with
    | cons _ _ t => exact .cons ⟨_, rfl⟩ (ih t)
def sortI : List Int → List Int := fun l => l.mergeSort (fun a b => decide (a ≤ b))
theorem sort_unique {l m : List Int} (hp : m.Perm l) (hs : m.Pairwise (· ≤ ·)) : m = sortI l := by
  have h1 : (sortI l).Pairwise (fun a b => decide (a ≤ b) = true) := List.pairwise_mergeSort (by intro a b c; simp; omega) (by intro a b; simp; omega) l
  have h2 : (sortI l).Pairwise (· ≤ ·) := h1.imp (by simp)
  have h3 : m.Perm (sortI l) := hp.trans (List.mergeSort_perm l _).symm
  exact h3.eq_of_pairwise (fun a b _ _ h1 h2 => Int.le_antisymm h1 h2) hs h2
theorem vals_pw : ∀ {xs : List V} {us : List Value}, xs.length = us.length → (∀ (i : Nat) x u, xs[i]? = some x → us[i]? = some u → RelV x u) → Vals xs us
  | [], [], _, _ => .nil
  | x :: xs, u :: us, hl, h => .cons (h 0 x u rfl rfl) (vals_pw (by simpa using hl) fun i y v e1 e2 => h (i + 1) y v (by simpa using e1) (by simpa using e2))
  | [], _ :: _, hl, _ => by simp at hl
  | _ :: _, [], hl, _ => by simp at hl
theorem call_sortedD (hc : X.calm = true) : CallR X (.builtin "sorted") (fun xs H Q => ∃ (p : Addr) (kvs : List (Key × V)) (ns : List Int), xs = [.ref p] ∧ H p = some (.dK kvs) ∧ kvs.map (·.1) = ns.map Sum.inl ∧ ns.length < 64 ∧ ∀ l, H l = none → Q (.ref l) (upd H l (.lst ((sortI ns).map V.int)))) := by
  intro pins s σ H xs us Q I r h
  obtain ⟨p, kvs, ns, rfl, hH, hk, h64, q⟩ := h
  obtain ⟨u, rfl, rx⟩ := vals1 r
  cases rx
  obtain ⟨hz, lo, vs, rel, dd⟩ := (show ObjOk X.prog X.w H s.heap p (.dK kvs) from I.hok p _ hH)
  obtain ⟨ep, hat⟩ := dd.dictAt
  have hlk : kvs.length = ns.length := by have := congrArg List.length hk; simpa using this
  have hlv : kvs.length = vs.length := Paired.length rel
  refine PySem.Calls.call_function_entry kind_sorted plain_sorted entry_sorted (args_sorted1 _) ?_
  unfold Builtin.«sorted»
  refine wpAny_bind (m := checkCount "sorted" 1 1 _) (wpAny_pure ?_)
  refine wpAny_bind (PySem.W.kdu_collect (A := X.A.in1) (PySem.W.kdl_dict (knd := mixKind X.prog X.w) (kvs := vs) (ep := ep) lo) (I.ok.hd hc) hat (by rw [← hlv]; exact hz) fun h' tk acc kp hacc => ?_)
  have hal : acc.toList.length = vs.length := by rw [Array.length_toList]; exact hacc.1
  refine wpAny_bind (wpAny_newList ?_ (by rw [hal, ← hlv]; exact hz))
  have rI : Vals (ns.map V.int) acc.toList := vals_pw (by rw [List.length_map, hal]; omega) fun i x v e1 e2 => by
    obtain ⟨k, y, hx, hks⟩ := hacc.2 i v (by rw [← Array.getElem?_toList]; exact e2)
    have e3 : (vs.map (·.1))[i]? = some k := by rw [List.getElem?_map, hx]; rfl
    rw [← rel.keys, hk, List.getElem?_map] at e3
    rw [List.getElem?_map] at e1
    cases en : ns[i]? with
    | none => rw [en] at e1; cases e1
    | some n =>
      rw [en] at e1 e3
      have e1' : V.int n = x := Option.some.inj e1
      subst e1'
      have e4 : (Sum.inl n : Key) = k := Option.some.inj e3
      subst e4
      rcases keyIs_shape (k := Sum.inl n) (v := v) hks with ⟨j, t, ej, ev⟩ | ⟨j, t, ej, _⟩
      · cases ej; exact ⟨t, ev⟩
      · cases ej
  have hoL : (h'.push (seqObj "list" acc.toList.toArray 0)).get? h'.objs.size = some (seqObj "list" acc.toList.toArray 0) := Heap.get?_push_size _ rfl
  refine wpAny_bind (wpAny_holding (wpAny_call_entry slot_list_sort ⟨_, hoL, rfl⟩ entry_list_sort (list_sort_tree hoL (ints_of_vals rI) (by rw [hal]; omega) fun out ns' a1 a2 a3 => ⟨_, rfl, ?_⟩) (args_list_sort _)))
  refine wpAny_pure ⟨_, rfl, ?_⟩
  have en : ns' = sortI ns := sort_unique a2 a3
  subst en
  obtain ⟨e, he⟩ := sortedHeap_at (vs := acc.toList) (out := out) hoL
  have I1 : Inv X pins σ H { s with heap := h', toks := tk } := I.kept kp
  refine ⟨.ref h'.objs.size, _, I1.laid (t' := tk) (a := h'.objs.size) (o := .lst ((sortI ns).map V.int)) (fun b o e => ?_) (Nat.le_refl _) ⟨?_, out.toList, e, vals_of_ints a1, by simpa using he⟩, rfl, q _ (I1.hok.fresh (Nat.le_refl _))⟩
  · rw [sortedHeap_old (Nat.ne_of_lt (Heap.lt_size e)) (by rw [size_push']; exact Nat.lt_succ_of_lt (Heap.lt_size e))]
    exact Heap.get?_push_of_some _ e
  · have := a2.length_eq
    rw [List.length_map]
    omega
end
end L2

set_option maxRecDepth 100000
set_option maxHeartbeats 4000000
namespace L2
open PySem PySem.Spec PyProof.Rows
/-! ### == of nested lists and tuples of ints, texts, None -/
inductive Dt where
  | at (v : V)
  | sq (tup : Bool) (ds : List Dt)
def flat3 : V → Bool
  | .non => true
  | .int _ => true
  | .str _ => true
  | _ => false
theorem flat3_flat {v : V} (h : flat3 v = true) : flatV v = true := by cases v <;> first | rfl | cases h
theorem eqV_iff {x y : V} (hx : flat3 x = true) (hy : flat3 y = true) : eqV x y = true ↔ x = y := by
  cases x <;> cases y <;> first | (cases hx; done) | (cases hy; done) | simp [eqV]
def SqQ (K : PySem.W.Frag) (H : Hp) (t : Bool) (a : Addr) (xs : List V) : Prop := if t = true then SqT K H a xs else SqL K H a xs
def RD (K : PySem.W.Frag) (H : Hp) : Nat → V → Dt → Prop
  | 0, v, d => flat3 v = true ∧ d = .at v
  | n + 1, v, d => (flat3 v = true ∧ d = .at v) ∨ ∃ a t xs ds, v = .ref a ∧ d = .sq t ds ∧ SqQ K H t a xs ∧ Paired (RD K H n) xs ds
theorem RD.flat {K : PySem.W.Frag} {H : Hp} {v : V} (h : flat3 v = true) : ∀ n, RD K H n v (.at v)
  | 0 => ⟨h, rfl⟩
  | _ + 1 => .inl ⟨h, rfl⟩
theorem RD.lst {K : PySem.W.Frag} {H : Hp} {a : Addr} {xs : List V} {ds : List Dt} {n : Nat} (h : SqL K H a xs) (r : Paired (RD K H n) xs ds) : RD K H (n + 1) (.ref a) (.sq false ds) :=
  .inr ⟨a, false, xs, ds, rfl, rfl, by unfold SqQ; rw [if_neg Bool.false_ne_true]; exact h, r⟩
theorem RD.tup {K : PySem.W.Frag} {H : Hp} {a : Addr} {xs : List V} {ds : List Dt} {n : Nat} (h : SqT K H a xs) (r : Paired (RD K H n) xs ds) : RD K H (n + 1) (.ref a) (.sq true ds) :=
  .inr ⟨a, true, xs, ds, rfl, rfl, by unfold SqQ; rw [if_pos rfl]; exact h, r⟩
section
variable {X : Cx} {pins : List (Addr × Obj)} {σ : St} {H : Hp} {s : Shared}
theorem RD.inj (I : Inv X pins σ H s) : ∀ {n m : Nat} {v : V} {d e : Dt}, RD X.K H n v d → RD X.K H m v e → d = e := by
  intro n
  induction n with
  | zero =>
    intro m v d e h1 h2
    obtain ⟨f, rfl⟩ := h1
    cases m with
    | zero => exact h2.2.symm
    | succ m =>
      rcases h2 with h2 | ⟨a, t, xs, ds, rfl, _⟩
      · exact h2.2.symm
      · cases f
  | succ n ih =>
    intro m v d e h1 h2
    rcases h1 with h1 | ⟨a, t, xs, ds, rfl, rfl, q, r⟩
    · obtain ⟨f, rfl⟩ := h1
      cases m with
      | zero => exact h2.2.symm
      | succ m =>
        rcases h2 with h2 | ⟨a, t, xs, ds, rfl, _⟩
        · exact h2.2.symm
        · cases f
    · cases m with
      | zero => cases h2.1
      | succ m =>
        rcases h2 with h2 | ⟨a', t', xs', ds', ea, rfl, q', r'⟩
        · cases h2.1
        · cases ea
          have pr : ∀ {l : List V} {l1 l2 : List Dt}, Paired (RD X.K H n) l l1 → Paired (RD X.K H m) l l2 → l1 = l2 := by
            intro l
            induction l with
            | nil => intro l1 l2 p1 p2; cases p1; cases p2; rfl
            | cons z l ihl =>
              intro l1 l2 p1 p2
              cases p1 with
              | cons r1 t1 =>
                cases p2 with
                | cons r2 t2 => rw [ih r1 r2, ihl t1 t2]
          cases t with
          | false =>
            have q : SqL X.K H a xs := by unfold SqQ at q; rwa [if_neg Bool.false_ne_true] at q
            cases t' with
            | false =>
              have q' : SqL X.K H a xs' := by unfold SqQ at q'; rwa [if_neg Bool.false_ne_true] at q'
              have := I.list_inj q q'
              subst this
              rw [pr r r']
            | true =>
              have q' : SqT X.K H a xs' := by unfold SqQ at q'; rwa [if_pos rfl] at q'
              obtain ⟨_, _, p1, _⟩ := I.list q
              obtain ⟨_, _, p2, _⟩ := I.tuple q'
              exact absurd rfl (SeqAt.ne_of_list_tuple p1.isList p2)
          | true =>
            have q : SqT X.K H a xs := by unfold SqQ at q; rwa [if_pos rfl] at q
            cases t' with
            | false =>
              have q' : SqL X.K H a xs' := by unfold SqQ at q'; rwa [if_neg Bool.false_ne_true] at q'
              obtain ⟨_, _, p1, _⟩ := I.tuple q
              obtain ⟨_, _, p2, _⟩ := I.list q'
              exact absurd rfl (SeqAt.ne_of_list_tuple p2.isList p1)
            | true =>
              have q' : SqT X.K H a xs' := by unfold SqQ at q'; rwa [if_pos rfl] at q'
              have := I.tuple_inj q q'
              subst this
              rw [pr r r']
/-- the comparison of two refs -/
theorem rcAt_D (I : Inv X pins σ H s) : ∀ (n : Nat) {A : Around} {l b : Addr} {d e : Dt}, A.units + n < cLine → RD X.K H (n + 1) (.ref l) d → RD X.K H (n + 1) (.ref b) e →
    (∀ {A : Around} {y x : V} {u v : Value} {d e : Dt}, A.units + n < cLine + 1 → RD X.K H n y d → RD X.K H n x e → RelV y u → RelV x v → ∃ k : Bool, (k = true ↔ d = e) ∧ SeqAt.EqAt A s u v k) →
    ∃ k : Bool, (k = true ↔ d = e) ∧ SeqAt.RcAt A s (.ref l) (.ref b) k := by
  intro n A l b d e hu h1 h2 ih
  rcases h1 with h1 | ⟨a, t, xs, ds, ea, rfl, q, r⟩
  · cases h1.1
  cases ea
  rcases h2 with h2 | ⟨a', t', xs', ds', ea, rfl, q', r'⟩
  · cases h2.1
  cases ea
  -- pointwise
  have pw : ∀ {us us' : List Value}, Vals xs us → Vals xs' us' → ∃ ks : Nat → Bool, (∀ j (h1 : j < us.length) (h2 : j < us'.length), SeqAt.EqAt A.in1 s us[j] us'[j] (ks j)) ∧
      (∀ j d1 d2, ds[j]? = some d1 → ds'[j]? = some d2 → (ks j = true ↔ d1 = d2)) := by
    intro us us' rv rv'
    have ex : ∀ j : Nat, ∃ k : Bool, (∀ (h1 : j < us.length) (h2 : j < us'.length), SeqAt.EqAt A.in1 s us[j] us'[j] k) ∧ (∀ d1 d2, ds[j]? = some d1 → ds'[j]? = some d2 → (k = true ↔ d1 = d2)) := by
      intro j
      by_cases hj : j < us.length ∧ j < us'.length
      · obtain ⟨h1, h2⟩ := hj
        have l1 := rv.length
        have l2 := rv'.length
        have l3 := Paired.length r
        have l4 := Paired.length r'
        have gx : xs[j]? = some xs[j] := List.getElem?_eq_getElem (by omega)
        have gx' : xs'[j]? = some xs'[j] := List.getElem?_eq_getElem (by omega)
        obtain ⟨u, eu, ru⟩ := rv.get gx
        obtain ⟨u', eu', ru'⟩ := rv'.get gx'
        have eu2 : us[j] = u := by rw [List.getElem?_eq_getElem h1] at eu; exact Option.some.inj eu
        have eu2' : us'[j] = u' := by rw [List.getElem?_eq_getElem h2] at eu'; exact Option.some.inj eu'
        have pget : ∀ {m : Nat} {zs : List V} {es : List Dt} (j : Nat) {z : V}, Paired (RD X.K H m) zs es → zs[j]? = some z → ∃ f, es[j]? = some f ∧ RD X.K H m z f := by
          intro m zs
          induction zs with
          | nil => intro es j z p hz; simp at hz
          | cons z0 zs ihz =>
            intro es j z p hz
            cases p with
            | cons p1 p2 =>
              cases j with
              | zero => simp at hz; subst hz; exact ⟨_, rfl, p1⟩
              | succ j => obtain ⟨f, e1, e2⟩ := ihz j p2 (by simpa using hz); exact ⟨f, by simpa using e1, e2⟩
        obtain ⟨f, ef, rf⟩ := pget j r gx
        obtain ⟨f', ef', rf'⟩ := pget j r' gx'
        obtain ⟨k, hk, he⟩ := ih (A := A.in1) (by show A.units + 1 + n < cLine + 1; omega) rf rf' ru ru'
        refine ⟨k, fun _ _ => by rw [eu2, eu2']; exact he, fun d1 d2 e1 e2 => ?_⟩
        rw [ef] at e1; rw [ef'] at e2; cases e1; cases e2; exact hk
      · refine ⟨false, fun h1 h2 => absurd ⟨h1, h2⟩ hj, fun d1 d2 e1 e2 => ?_⟩
        have l1 := rv.length
        have l2 := rv'.length
        have l3 := Paired.length r
        have l4 := Paired.length r'
        have := (List.getElem?_eq_some_iff.mp e1).1
        have := (List.getElem?_eq_some_iff.mp e2).1
        exact absurd ⟨by omega, by omega⟩ hj
    exact ⟨fun j => Classical.choose (ex j), fun j h1 h2 => (Classical.choose_spec (ex j)).1 h1 h2, fun j => (Classical.choose_spec (ex j)).2⟩
  have allEq : ∀ (ks : Nat → Bool), (∀ j d1 d2, ds[j]? = some d1 → ds'[j]? = some d2 → (ks j = true ↔ d1 = d2)) → ds.length = ds'.length → ((List.range ds.length).all ks = true ↔ ds = ds') := by
    intro ks hk hl
    rw [List.all_eq_true]
    constructor
    · intro h
      apply List.ext_getElem hl
      intro j h1 h2
      exact (hk j _ _ (List.getElem?_eq_getElem h1) (List.getElem?_eq_getElem h2)).mp (h j (List.mem_range.mpr h1))
    · rintro rfl j hj
      have h1 := List.mem_range.mp hj
      exact (hk j _ _ (List.getElem?_eq_getElem h1) (List.getElem?_eq_getElem h1)).mpr rfl
  have l3 := Paired.length r
  have l4 := Paired.length r'
  cases t with
  | false =>
    have q : SqL X.K H l xs := by unfold SqQ at q; rwa [if_neg Bool.false_ne_true] at q
    obtain ⟨us, rv, p1, _⟩ := I.list q
    have l1 := rv.length
    cases t' with
    | true =>
      have q' : SqT X.K H b xs' := by unfold SqQ at q'; rwa [if_pos rfl] at q'
      obtain ⟨us', rv', p2, _⟩ := I.tuple q'
      exact ⟨false, by simp, SeqAt.RcAt.list_tuple p1.isList p2 (by omega)⟩
    | false =>
      have q' : SqL X.K H b xs' := by unfold SqQ at q'; rwa [if_neg Bool.false_ne_true] at q'
      obtain ⟨us', rv', p2, _⟩ := I.list q'
      have l2 := rv'.length
      by_cases hl : us.length = us'.length
      · obtain ⟨ks, he, hk⟩ := pw rv rv'
        refine ⟨(List.range us.toArray.size).all ks, ?_, SeqAt.RcAt.lists p1.isList p2.isList (by simpa using hl) (by omega) fun j h1 h2 => by simpa using he j (by simpa using h1) (by simpa using h2)⟩
        rw [List.size_toArray, show us.length = ds.length by omega, allEq ks hk (by omega)]
        constructor
        · rintro rfl; rfl
        · intro h; injection h
      · refine ⟨false, ?_, SeqAt.RcAt.lists_lengths p1.isList p2.isList (by simpa using hl) (by omega)⟩
        constructor
        · intro h; cases h
        · intro h
          injection h with _ h
          exact absurd (by rw [← l1, l3, h, ← l4, l2]) hl
  | true =>
    have q : SqT X.K H l xs := by unfold SqQ at q; rwa [if_pos rfl] at q
    obtain ⟨us, rv, p1, _⟩ := I.tuple q
    have l1 := rv.length
    cases t' with
    | false =>
      have q' : SqL X.K H b xs' := by unfold SqQ at q'; rwa [if_neg Bool.false_ne_true] at q'
      obtain ⟨us', rv', p2, _⟩ := I.list q'
      exact ⟨false, by simp, SeqAt.RcAt.tuple_list p1 p2.isList (by omega)⟩
    | true =>
      have q' : SqT X.K H b xs' := by unfold SqQ at q'; rwa [if_pos rfl] at q'
      obtain ⟨us', rv', p2, _⟩ := I.tuple q'
      have l2 := rv'.length
      obtain ⟨ks, he, hk⟩ := pw rv rv'
      refine ⟨_, ?_, SeqAt.RcAt.tuples (e := ks) (show s.heap.IsTuple l us.toArray from p1) (show s.heap.IsTuple b us'.toArray from p2) (by omega) fun j h1 h2 => by simpa using he j (by simpa using h1) (by simpa using h2)⟩
      by_cases hl : us.length = us'.length
      · rw [List.size_toArray, List.size_toArray, ← hl, Nat.min_self, beq_self_eq_true, Bool.and_true, show us.length = ds.length by omega, allEq ks hk (by omega)]
        constructor
        · rintro rfl; rfl
        · intro h; injection h
      · have : (us.toArray.size == us'.toArray.size) = false := by simpa using hl
        rw [this, Bool.and_false]
        constructor
        · intro h; cases h
        · intro h
          injection h with _ h
          exact absurd (by rw [← l1, l3, h, ← l4, l2]) hl
/-- .. and != -/
theorem rcNeAt_D (I : Inv X pins σ H s) : ∀ (n : Nat) {A : Around} {l b : Addr} {d e : Dt}, A.units + n < cLine → RD X.K H (n + 1) (.ref l) d → RD X.K H (n + 1) (.ref b) e →
    (∀ {A : Around} {y x : V} {u v : Value} {d e : Dt}, A.units + n < cLine + 1 → RD X.K H n y d → RD X.K H n x e → RelV y u → RelV x v → ∃ k : Bool, (k = true ↔ d = e) ∧ SeqAt.EqAt A s u v k) →
    ∃ k : Bool, (k = true ↔ d = e) ∧ SeqAt.RcNeAt A s (.ref l) (.ref b) (!k) := by
  intro n A l b d e hu h1 h2 ih
  rcases h1 with h1 | ⟨a, t, xs, ds, ea, rfl, q, r⟩
  · cases h1.1
  cases ea
  rcases h2 with h2 | ⟨a', t', xs', ds', ea, rfl, q', r'⟩
  · cases h2.1
  cases ea
  -- pointwise
  have pw : ∀ {us us' : List Value}, Vals xs us → Vals xs' us' → ∃ ks : Nat → Bool, (∀ j (h1 : j < us.length) (h2 : j < us'.length), SeqAt.EqAt A.in1 s us[j] us'[j] (ks j)) ∧
      (∀ j d1 d2, ds[j]? = some d1 → ds'[j]? = some d2 → (ks j = true ↔ d1 = d2)) := by
    intro us us' rv rv'
    have ex : ∀ j : Nat, ∃ k : Bool, (∀ (h1 : j < us.length) (h2 : j < us'.length), SeqAt.EqAt A.in1 s us[j] us'[j] k) ∧ (∀ d1 d2, ds[j]? = some d1 → ds'[j]? = some d2 → (k = true ↔ d1 = d2)) := by
      intro j
      by_cases hj : j < us.length ∧ j < us'.length
      · obtain ⟨h1, h2⟩ := hj
        have l1 := rv.length
        have l2 := rv'.length
        have l3 := Paired.length r
        have l4 := Paired.length r'
        have gx : xs[j]? = some xs[j] := List.getElem?_eq_getElem (by omega)
        have gx' : xs'[j]? = some xs'[j] := List.getElem?_eq_getElem (by omega)
        obtain ⟨u, eu, ru⟩ := rv.get gx
        obtain ⟨u', eu', ru'⟩ := rv'.get gx'
        have eu2 : us[j] = u := by rw [List.getElem?_eq_getElem h1] at eu; exact Option.some.inj eu
        have eu2' : us'[j] = u' := by rw [List.getElem?_eq_getElem h2] at eu'; exact Option.some.inj eu'
        have pget : ∀ {m : Nat} {zs : List V} {es : List Dt} (j : Nat) {z : V}, Paired (RD X.K H m) zs es → zs[j]? = some z → ∃ f, es[j]? = some f ∧ RD X.K H m z f := by
          intro m zs
          induction zs with
          | nil => intro es j z p hz; simp at hz
          | cons z0 zs ihz =>
            intro es j z p hz
            cases p with
            | cons p1 p2 =>
              cases j with
              | zero => simp at hz; subst hz; exact ⟨_, rfl, p1⟩
              | succ j => obtain ⟨f, e1, e2⟩ := ihz j p2 (by simpa using hz); exact ⟨f, by simpa using e1, e2⟩
        obtain ⟨f, ef, rf⟩ := pget j r gx
        obtain ⟨f', ef', rf'⟩ := pget j r' gx'
        obtain ⟨k, hk, he⟩ := ih (A := A.in1) (by show A.units + 1 + n < cLine + 1; omega) rf rf' ru ru'
        refine ⟨k, fun _ _ => by rw [eu2, eu2']; exact he, fun d1 d2 e1 e2 => ?_⟩
        rw [ef] at e1; rw [ef'] at e2; cases e1; cases e2; exact hk
      · refine ⟨false, fun h1 h2 => absurd ⟨h1, h2⟩ hj, fun d1 d2 e1 e2 => ?_⟩
        have l1 := rv.length
        have l2 := rv'.length
        have l3 := Paired.length r
        have l4 := Paired.length r'
        have := (List.getElem?_eq_some_iff.mp e1).1
        have := (List.getElem?_eq_some_iff.mp e2).1
        exact absurd ⟨by omega, by omega⟩ hj
    exact ⟨fun j => Classical.choose (ex j), fun j h1 h2 => (Classical.choose_spec (ex j)).1 h1 h2, fun j => (Classical.choose_spec (ex j)).2⟩
  have allEq : ∀ (ks : Nat → Bool), (∀ j d1 d2, ds[j]? = some d1 → ds'[j]? = some d2 → (ks j = true ↔ d1 = d2)) → ds.length = ds'.length → ((List.range ds.length).all ks = true ↔ ds = ds') := by
    intro ks hk hl
    rw [List.all_eq_true]
    constructor
    · intro h
      apply List.ext_getElem hl
      intro j h1 h2
      exact (hk j _ _ (List.getElem?_eq_getElem h1) (List.getElem?_eq_getElem h2)).mp (h j (List.mem_range.mpr h1))
    · rintro rfl j hj
      have h1 := List.mem_range.mp hj
      exact (hk j _ _ (List.getElem?_eq_getElem h1) (List.getElem?_eq_getElem h1)).mpr rfl
  have l3 := Paired.length r
  have l4 := Paired.length r'
  cases t with
  | false =>
    have q : SqL X.K H l xs := by unfold SqQ at q; rwa [if_neg Bool.false_ne_true] at q
    obtain ⟨us, rv, p1, _⟩ := I.list q
    have l1 := rv.length
    cases t' with
    | true =>
      have q' : SqT X.K H b xs' := by unfold SqQ at q'; rwa [if_pos rfl] at q'
      obtain ⟨us', rv', p2, _⟩ := I.tuple q'
      exact ⟨false, by simp, SeqAt.RcNeAt.list_tuple p1.isList p2 (by omega)⟩
    | false =>
      have q' : SqL X.K H b xs' := by unfold SqQ at q'; rwa [if_neg Bool.false_ne_true] at q'
      obtain ⟨us', rv', p2, _⟩ := I.list q'
      have l2 := rv'.length
      by_cases hl : us.length = us'.length
      · obtain ⟨ks, he, hk⟩ := pw rv rv'
        refine ⟨(List.range us.toArray.size).all ks, ?_, SeqAt.RcNeAt.lists p1.isList p2.isList (by simpa using hl) (by omega) fun j h1 h2 => by simpa using he j (by simpa using h1) (by simpa using h2)⟩
        rw [List.size_toArray, show us.length = ds.length by omega, allEq ks hk (by omega)]
        constructor
        · rintro rfl; rfl
        · intro h; injection h
      · refine ⟨false, ?_, SeqAt.RcNeAt.lists_lengths p1.isList p2.isList (by simpa using hl) (by omega)⟩
        constructor
        · intro h; cases h
        · intro h
          injection h with _ h
          exact absurd (by rw [← l1, l3, h, ← l4, l2]) hl
  | true =>
    have q : SqT X.K H l xs := by unfold SqQ at q; rwa [if_pos rfl] at q
    obtain ⟨us, rv, p1, _⟩ := I.tuple q
    have l1 := rv.length
    cases t' with
    | false =>
      have q' : SqL X.K H b xs' := by unfold SqQ at q'; rwa [if_neg Bool.false_ne_true] at q'
      obtain ⟨us', rv', p2, _⟩ := I.list q'
      exact ⟨false, by simp, SeqAt.RcNeAt.tuple_list p1 p2.isList (by omega)⟩
    | true =>
      have q' : SqT X.K H b xs' := by unfold SqQ at q'; rwa [if_pos rfl] at q'
      obtain ⟨us', rv', p2, _⟩ := I.tuple q'
      have l2 := rv'.length
      obtain ⟨ks, he, hk⟩ := pw rv rv'
      refine ⟨(List.range (min us.toArray.size us'.toArray.size)).all ks && us.toArray.size == us'.toArray.size, ?_, SeqAt.RcNeAt.tuples (e := ks) (show s.heap.IsTuple l us.toArray from p1) (show s.heap.IsTuple b us'.toArray from p2) (by omega) fun j h1 h2 => by simpa using he j (by simpa using h1) (by simpa using h2)⟩
      by_cases hl : us.length = us'.length
      · rw [List.size_toArray, List.size_toArray, ← hl, Nat.min_self, beq_self_eq_true, Bool.and_true, show us.length = ds.length by omega, allEq ks hk (by omega)]
        constructor
        · rintro rfl; rfl
        · intro h; injection h
      · have : (us.toArray.size == us'.toArray.size) = false := by simpa using hl
        rw [this, Bool.and_false]
        constructor
        · intro h; cases h
        · intro h
          injection h with _ h
          exact absurd (by rw [← l1, l3, h, ← l4, l2]) hl
theorem eqAt_D (I : Inv X pins σ H s) : ∀ (n : Nat) {A : Around} {y x : V} {u v : Value} {d e : Dt}, A.units + n < cLine + 1 → RD X.K H n y d → RD X.K H n x e → RelV y u → RelV x v → ∃ k : Bool, (k = true ↔ d = e) ∧ SeqAt.EqAt A s u v k := by
  intro n
  have flatCase : ∀ {A : Around} {y x : V} {u v : Value}, flat3 y = true → flat3 x = true → RelV y u → RelV x v → ∃ k : Bool, (k = true ↔ Dt.at y = Dt.at x) ∧ SeqAt.EqAt A s u v k := by
    intro A y x u v fy fx ry rx
    refine ⟨eqV y x, ?_, eqAt_V ry rx (flat3_flat fy) (flat3_flat fx)⟩
    rw [eqV_iff fy fx]
    constructor
    · rintro rfl; rfl
    · intro h; injection h
  induction n with
  | zero =>
    intro A y x u v d e hu h1 h2 ry rx
    obtain ⟨f1, rfl⟩ := h1
    obtain ⟨f2, rfl⟩ := h2
    exact flatCase f1 f2 ry rx
  | succ n ih =>
    intro A y x u v d e hu h1 h2 ry rx
    rcases id h1 with ⟨f1, rfl⟩ | ⟨a, t, xs, ds, rfl, rfl, q, r⟩
    · rcases id h2 with ⟨f2, rfl⟩ | ⟨a', t', xs', ds', rfl, rfl, q', r'⟩
      · exact flatCase f1 f2 ry rx
      · cases rx
        refine ⟨false, by simp, ?_⟩
        cases t' with
        | false =>
          have q' : SqL X.K H a' xs' := by unfold SqQ at q'; rwa [if_neg Bool.false_ne_true] at q'
          obtain ⟨_, _, p, _⟩ := I.list q'
          cases y with
          | non => cases ry; exact SeqAt.EqAt.none_list p.isList (by omega)
          | int _ => obtain ⟨tk, rfl⟩ := ry; exact SeqAt.EqAt.int_list _ _ p.isList (by omega)
          | str _ => obtain ⟨tk, rfl⟩ := ry; exact SeqAt.EqAt.str_list _ _ p.isList (by omega)
          | _ => cases f1
        | true =>
          have q' : SqT X.K H a' xs' := by unfold SqQ at q'; rwa [if_pos rfl] at q'
          obtain ⟨_, _, p, _⟩ := I.tuple q'
          cases y with
          | non => cases ry; exact SeqAt.EqAt.none_tuple p (by omega)
          | int _ => obtain ⟨tk, rfl⟩ := ry; exact SeqAt.EqAt.int_tuple _ _ p (by omega)
          | str _ => obtain ⟨tk, rfl⟩ := ry; exact SeqAt.EqAt.str_tuple _ _ p (by omega)
          | _ => cases f1
    · cases ry
      rcases id h2 with ⟨f2, rfl⟩ | ⟨a', t', xs', ds', rfl, rfl, q', r'⟩
      · refine ⟨false, by simp, ?_⟩
        cases t with
        | false =>
          have q : SqL X.K H a xs := by unfold SqQ at q; rwa [if_neg Bool.false_ne_true] at q
          obtain ⟨_, _, p, _⟩ := I.list q
          cases x with
          | non => cases rx; exact SeqAt.EqAt.list_none p.isList (by omega)
          | int _ => obtain ⟨tk, rfl⟩ := rx; exact SeqAt.EqAt.list_int _ _ p.isList (by omega)
          | str _ => obtain ⟨tk, rfl⟩ := rx; exact SeqAt.EqAt.list_str _ _ p.isList (by omega)
          | _ => cases f2
        | true =>
          have q : SqT X.K H a xs := by unfold SqQ at q; rwa [if_pos rfl] at q
          obtain ⟨_, _, p, _⟩ := I.tuple q
          cases x with
          | non => cases rx; exact SeqAt.EqAt.tuple_none p (by omega)
          | int _ => obtain ⟨tk, rfl⟩ := rx; exact SeqAt.EqAt.tuple_int _ _ p (by omega)
          | str _ => obtain ⟨tk, rfl⟩ := rx; exact SeqAt.EqAt.tuple_str _ _ p (by omega)
          | _ => cases f2
      · cases rx
        by_cases hab : a = a'
        · subst hab
          exact ⟨true, by rw [RD.inj I h1 h2]; simp, SeqAt.EqAt.same _⟩
        · obtain ⟨k, hk, hr⟩ := rcAt_D I n (A := A) (by omega) h1 h2 (fun hu' => ih hu')
          exact ⟨k, hk, .of_refs hab hr⟩
end
/-- xs == ys, xs != ys: two lists, two tuples, nested -/
def rEqD (K : PySem.W.Frag) (n : Nat) (neg : Bool) : R2 := fun x y H Q => ∃ a b d e, x = .ref a ∧ y = .ref b ∧ RD K H (n + 1) x d ∧ RD K H (n + 1) y e ∧ ∀ k : Bool, (k = true ↔ d = e) → Q (.bl (if neg then !k else k)) H
section
variable {X : Cx}
theorem op_neD (n : Nat) (hu : X.A.units + n < cLine) : OpR X (compareOp .NotEq) (rEqD X.K n true) := by
  intro pins s σ H x y v u Q I rx ry h
  obtain ⟨a, b, d, e, rfl, rfl, h1, h2, q⟩ := h
  cases rx
  cases ry
  obtain ⟨k, hk, hr⟩ := rcNeAt_D I n (A := X.A) hu h1 h2 (fun hu' => eqAt_D I n hu')
  exact hr _ _ _ _ ⟨.bl (!k), H, I, rfl, q k hk⟩
end
end L2

set_option maxRecDepth 100000
set_option maxHeartbeats 4000000
namespace L2
open PySem PySem.Spec PyProof.Rows PySem.Calls
/-! ### list(reversed(xs)) -/
theorem lri_len : typeLookup (.type "list_reverseiterator") "__len__" = pure none := by rw [typeLookup_type, builtinLookup_eq_fast]; kernel_rfl
theorem lri_hint : typeLookup (.type "list_reverseiterator") "__length_hint__" = pure (some (.builtin "list_reverseiterator.__length_hint__")) := by rw [typeLookup_type, builtinLookup_eq_fast]; kernel_rfl
section
variable {prog : Program} {w : World} {A : Around} {E : Value → Shared → Prop} {s : Shared} {r d : Addr} {items : Array Value}
theorem hint_rev {Q : Bool → Shared → Prop} (hT : s.TypeIs (.ref r) "list_reverseiterator") (h : Q false s) : wpAny (model prog w) A (Builtin.List.listLengthHint (.ref r)) Q E s := by
  unfold Builtin.List.listLengthHint
  refine wpAny_bind (wpAny_specialOf hT lri_len ?_)
  wp_delta
  refine wpAny_ite_split (fun hab => absurd hab (by decide +kernel)) (fun _ => ?_)
  refine wpAny_ite_split (fun hab => absurd hab (by decide +kernel)) (fun _ => ?_)
  refine wpAny_bind (wpAny_specialOf hT lri_hint ?_)
  generalize hid : ("list_reverseiterator.__length_hint__" : String) = id0
  wp_delta
  rw [show splitId id0 = some ("list_reverseiterator", "__length_hint__") from by subst hid; decide +kernel]
  subst hid
  refine wpAny_bind (wpAny_isInstance (T := "list_reverseiterator") (b := true) hT (by rw [isSubtype_type]; kernel_rfl) ?_)
  refine wpAny_ite_split (fun hab => absurd hab (by decide)) (fun _ => ?_)
  refine wpAny_ite_split (fun _ => ?_) (fun hab => absurd (by decide +kernel) hab)
  refine wpAny_ite_split (fun hab => absurd hab (by decide +kernel)) (fun _ => ?_)
  exact wpAny_pure h
theorem extend_rev {R : Result → Shared → Prop} (hh : A.handled = none) (hit : s.heap.IsRevIter r d ((items.size : Int) - 1)) (hl : s.heap.IsList d items) (hrd : d ≠ r) (S : Addr) (hSr : S ≠ r) (hSd : S ≠ d) (res : Value) (c0 : Nat) (hS : s.heap.get? S = some { cls := .type "list", data := .seq #[] c0 })
    (hR : ∀ h' tk acc' c', (∀ b o, b ≠ S → b ≠ r → s.heap.get? b = some o → h'.get? b = some o) → h'.get? S = some { cls := .type "list", dict := none, data := .seq acc' c', slots := #[] } → ItemsOf (fun i v => items[items.size - 1 - i]? = some v) acc' items.size → R (.ok (.ret res)) { s with heap := h', toks := tk }) (hn : items.size ≤ sizeLine) :
    wpAny (model prog w) A.in1 (Builtin.List.listExtendWith (.ref S) (.ref r) res)
      (fun fin s' => match fin with | .done f => R (.ok f) s' | .again c' => c'.quiet = true ∧ codeAny (model prog w) A c' R s') (fun e s' => R (.error e) s') s := by
  have hSf : S ∉ [r, d] := by simp only [List.mem_cons, List.not_mem_nil, or_false, not_or]; exact ⟨hSr, hSd⟩
  have W := Walks.listRev (prog := prog) (w := w) (A := A.in1) hh r d hrd items
  have hT : s.TypeIs (.ref r) "list_reverseiterator" := hit.typeIs
  unfold Builtin.List.listExtendWith
  refine wpAny_bind (wpAny_typeOf (T := "list_reverseiterator") hT ?_)
  have h1 : Builtin.List.listSameRef (.ref S) (.ref r) = false := by simp [Builtin.List.listSameRef, hSr]
  have h2 : (Value.type "list_reverseiterator" == Value.type "list") = false := by decide
  have h3 : (Value.type "list_reverseiterator" == Value.type "tuple") = false := by decide
  simp only [h1, h2, h3, Bool.or_false, Bool.false_eq_true, if_false]
  refine wpAny_bind (wpAny_pyIter_revIter hit ?_)
  refine wpAny_bind (wpAny_holding (hint_rev hT ?_))
  refine wpAny_ite_split (fun hab => absurd hab (by decide +kernel)) (fun _ => wpAny_pure ⟨plainId_quiet PySem.F.plain_extend_loop _, ?_⟩)
  refine codeAny_extend_loopS W.toS hn S hSf res items.size 0 _ #[] c0 rfl (Nat.zero_le _) ⟨Nat.zero_le _, by simpa using hit, hl⟩ hS (ItemsOf.nil _) fun s' acc' c' hm hS' hacc => ?_
  rw [Moved.eq_with hm]
  refine hR s'.heap s'.toks acc' c' (fun b o hb hbr e => hm.heap b o (fun hmem => ?_) e) hS' hacc
  · rcases List.mem_cons.mp hmem with e' | hmem
    · exact hb e'
    · exact hbr (List.mem_singleton.mp hmem)
theorem call_list_rev {Q : Value → Shared → Prop} (hh : A.handled = none) (hit : s.heap.IsRevIter r d ((items.size : Int) - 1)) (hl : s.heap.IsList d items) (hrd : d ≠ r) (hn : items.size ≤ sizeLine)
    (hQ : ∀ h' tk acc' c', (∀ b o, b ≠ r → s.heap.get? b = some o → h'.get? b = some o) → h'.get? s.heap.objs.size = some { cls := .type "list", dict := none, data := .seq acc' c', slots := #[] } → ItemsOf (fun i v => items[items.size - 1 - i]? = some v) acc' items.size → Q (.ref s.heap.objs.size) { s with heap := h', toks := tk }) :
    wpAny (model prog w) A (call (.type "list") [.ref r]) Q E s := by
  refine callType_codes (Q₁ := fun obj s1 => obj = .ref s.heap.objs.size ∧ s1 = { s with heap := s.heap.push { cls := .type "list", data := .seq #[] } }) PySem.F.called_list (PySem.F.typeCall_list_1 _) PySem.F.entry_list_init (code_list_new _ ⟨rfl, rfl⟩) fun obj s1 h1 => ?_
  obtain ⟨rfl, rfl⟩ := h1
  have hS : (s.heap.push { cls := .type "list", data := .seq #[] }).get? s.heap.objs.size = some { cls := .type "list", data := .seq #[] } := Heap.get?_push_size _ rfl
  have hr : r < s.heap.objs.size := by obtain ⟨o, e, _⟩ := hit; exact Heap.lt_size e
  have hd : d < s.heap.objs.size := by obtain ⟨o, e, _⟩ := hl; exact Heap.lt_size e
  refine ⟨⟨_, hS, rfl⟩, PySem.F.args_list_init_2 _ _, ?_⟩
  show wpAny _ _ (do let old ← Builtin.List.listItems (.ref s.heap.objs.size); Builtin.List.listUpdate (.ref s.heap.objs.size) (fun _ => #[]); letGo old.toList.reverse; Builtin.List.listExtendWith (.ref s.heap.objs.size) (.ref r) .none) _ _ _
  refine wpAny_bind ?_
  unfold Builtin.List.listItems
  refine wpAny_bind (wpAny_seqItems hS rfl (wpAny_pure ?_))
  show wpAny _ _ (updateSeq s.heap.objs.size (fun _ => #[]) >>= fun _ => letGo (#[] : Array Value).toList.reverse >>= fun _ => Builtin.List.listExtendWith (.ref s.heap.objs.size) (.ref r) .none) _ _ _
  refine wpAny_bind (wpAny_updateSeq hS rfl ?_)
  have hS2 := Heap.get?_update_self (Obj.mapSeq (fun _ => (#[] : Array Value))) hS rfl
  have oth : ∀ b o, s.heap.get? b = some o → ((s.heap.push { cls := .type "list", data := .seq #[] }).update s.heap.objs.size (Obj.mapSeq (fun _ => (#[] : Array Value)))).get? b = some o :=
    fun b o e => (Heap.get?_update_other _ _ (Nat.ne_of_gt (Heap.lt_size e))).trans (Heap.get?_push_of_some _ e)
  refine wpAny_bind (wpAny_letGo ?_)
  refine extend_rev (A := A.in1) hh (hit.at fun o e => oth _ _ e) (hl.at fun o e => oth _ _ e) hrd s.heap.objs.size (Nat.ne_of_gt hr) (Nat.ne_of_gt hd) .none _ hS2 (fun h' tk acc' c' hk hS' hacc => ?_) hn
  exact ⟨rfl, hQ h' tk acc' c' (fun b o hb e => hk b o (Nat.ne_of_lt (Heap.lt_size e)) hb (oth b o e)) hS' hacc⟩
end
def tListRev (K : PySem.W.Frag) (te : TE) : TE := fun σ H Q => te σ H fun x H1 => ∃ a xs, x = .ref a ∧ SqL K H1 a xs ∧ ∀ l, H1 l = none → Q (.ref l) (upd H1 l (.lst xs.reverse))
theorem pe_listrev {X : Cx} {e : Expr} {te : TE} {p p2 pos pos2 : Pos} (hc : X.calm = true) (he : PE X e te) (hg : Gl X "list") (hm : X.mg "list" = none) (hg2 : Gl X "reversed") (hm2 : X.mg "reversed" = none)
    (hs : starEach [e] X.env = [(false, eval e X.env)] := by rfl)
    (hs2 : starEach [.Call (.Name "reversed" p2) [e] [] pos2] X.env = [(false, eval (.Call (.Name "reversed" p2) [e] [] pos2) X.env)] := by rfl) :
    PE X (.Call (.Name "list" p) [.Call (.Name "reversed" p2) [e] [] pos2] [] pos) (tListRev X.K te) := by
  intro pins s σ H Q I h
  refine wpAny_Call_Name_kw (ld_blt I hg hm boot_list ?_ (by decide) (by decide))
  refine PyProof.Rows.callWith_type1 ?_ hs2 rfl
  rw [hs2]
  refine spliced_cons (wpAny_Call_Name_kw (ld_blt I hg2 hm2 boot_reversed ?_ (by decide) (by decide)))
  refine PyProof.Rows.callWith_type1 ?_ hs rfl
  rw [hs]
  refine spliced_cons (thn (he pins s σ H _ I h) fun u s1 ⟨x, H1, I1, rx, a, xs, ex, hq, q⟩ => spliced_nil ?_)
  subst ex
  cases rx
  obtain ⟨its, rv, pl, hz⟩ := I1.list hq
  refine call_reversed_list pl.isList (spliced_nil ?_)
  have hlt : a < s1.heap.objs.size := by obtain ⟨o, n, e, _⟩ := pl; exact Heap.lt_size e
  have hl := rv.length
  refine call_list_rev (r := s1.heap.objs.size) (d := a) (items := its.toArray) (I1.ok.hd hc) ⟨_, Heap.get?_push_size _ rfl, rfl, rfl⟩ (pl.isList.at fun o e => Heap.get?_push_of_some _ e) (Nat.ne_of_lt hlt) (by rw [List.size_toArray]; omega) fun h' tk acc' c' hk hS hacc => ?_
  have sz : (s1.heap.push (revObj a ((its.toArray.size : Int) - 1))).objs.size = s1.heap.objs.size + 1 := by rw [Heap.size_push]
  have hge : s1.heap.objs.size ≤ (s1.heap.push (revObj a ((its.toArray.size : Int) - 1))).objs.size := by rw [sz]; exact Nat.le_succ _
  have rr : Vals xs.reverse acc'.toList := vals_pw (by have := hacc.1; simp at this; simp; omega) fun i y v e1 e2 => by
    have hv := hacc.2 i v (by rw [← Array.getElem?_toList]; exact e2)
    have hi : i < xs.length := by have := (List.getElem?_eq_some_iff.mp e1).1; simpa using this
    rw [List.getElem?_reverse hi] at e1
    obtain ⟨u, eu, ru⟩ := rv.get e1
    have hv' : its[its.length - 1 - i]? = some v := by simpa using hv
    rw [hl] at eu
    rw [eu] at hv'; cases hv'
    exact ru
  refine ⟨.ref _, _, I1.laid (t' := tk) (a := (s1.heap.push (revObj a ((its.toArray.size : Int) - 1))).objs.size) (o := .lst xs.reverse) (fun b o e => hk b o (Nat.ne_of_lt (Heap.lt_size e)) (Heap.get?_push_of_some _ e)) hge ⟨by rw [List.length_reverse]; exact hz, acc'.toList, c', rr, by simpa using hS⟩, rfl, q _ (I1.hok.fresh hge)⟩
end L2

set_option maxRecDepth 100000
set_option maxHeartbeats 4000000
namespace Wz
open PySem L2
/-! ### numbers -/
def absI (c : Int) : Int := if c < 0 then -c else c
theorem absI_nn (c : Int) : 0 ≤ absI c := by unfold absI; split <;> omega
def cellAt (ns : List Int) (k : Int) : Int := if k < (ns.length : Int) then ns.getD k.toNat 0 else 0
def gst (k c : Int) : Int :=
  let left := absI c
  let number := (k * (1 + left * 1234567891 % 2147483646) + left / 2147483646) % 2147483647
  if left % 5 = 4 then number + 997852516353 else number
def Among (m c : Int) (ps : List (Int × Int)) : Prop := ∀ p ∈ ps, ∃ i j : Int, (0 ≤ i ∧ i < m) ∧ (0 ≤ j ∧ j < m) ∧ i ≠ j ∧ p = (gst i c, gst j c)
/-! ### a dict of ints, as its pairs -/
def dk (l : List (Int × Int)) : List (Key × V) := l.map fun p => (Sum.inl p.1, V.int p.2)
def look : List (Int × Int) → Int → Option Int
  | [], _ => none
  | p :: r, g => if p.1 = g then some p.2 else look r g
def put (l : List (Int × Int)) (g m : Int) : List (Int × Int) := if (l.any fun p => decide (p.1 = g)) = true then l.map (fun p => if p.1 = g then (p.1, m) else p) else l ++ [(g, m)]
def wr (l : List (Int × Int)) (g : Int) : Int := (look l g).getD g
def swapL (l : List (Int × Int)) (p : Int × Int) : List (Int × Int) := put (put l p.1 (wr l p.2)) p.2 (wr l p.1)
def paperL (w : List (Int × Int)) (ps : List (Int × Int)) : List (Int × Int) := ps.foldl swapL w
def wornL (ps : List (Int × Int)) : List (Int × Int) := paperL [] ps
def keysL (l : List (Int × Int)) : List Int := l.map (·.1)
def wrongL (l : List (Int × Int)) : List Int := (sortI (keysL l)).filter fun g => decide (wr l g ≠ g)
def movesL (l : List (Int × Int)) : List (Int × Int) := (wrongL l).map fun g => (g, wr l g)

theorem valV_dk : ∀ (l : List (Int × Int)) (g : Int), valV (dk l) (Sum.inl g : Key) = (look l g).map V.int
  | [], _ => rfl
  | p :: r, g => by
    by_cases h : p.1 = g
    · have e : valV (dk (p :: r)) (Sum.inl g : Key) = some (V.int p.2) := valV_pos (p := (Sum.inl p.1, V.int p.2)) (r := dk r) (by rw [h])
      rw [e]; simp [look, h]
    · have e : valV (dk (p :: r)) (Sum.inl g : Key) = valV (dk r) (Sum.inl g) := valV_neg (p := (Sum.inl p.1, V.int p.2)) (r := dk r) (fun z => h (Sum.inl.inj z))
      rw [e, valV_dk r g]; simp [look, h]

theorem any_dk (l : List (Int × Int)) (g : Int) : ((dk l).any fun kv => decide (kv.1 = (Sum.inl g : Key))) = l.any fun p => decide (p.1 = g) := by
  unfold dk
  rw [List.any_map]
  congr 1
  funext p
  simp [Function.comp]
theorem putK_dk (l : List (Int × Int)) (g m : Int) : putK (dk l) (Sum.inl g : Key) (V.int m) = dk (put l g m) := by
  unfold putK put
  rw [any_dk]
  by_cases h : (l.any fun p => decide (p.1 = g)) = true
  · rw [if_pos h, if_pos h]
    unfold dk
    rw [List.map_map, List.map_map]
    apply List.map_congr_left
    intro p _
    simp only [Function.comp]
    by_cases e : p.1 = g
    · rw [if_pos (by rw [e]), if_pos e]
    · rw [if_neg (fun z => e (Sum.inl.inj z)), if_neg e]
  · rw [if_neg h, if_neg h]
    unfold dk
    simp
theorem look_any (l : List (Int × Int)) (g : Int) : (l.any fun p => decide (p.1 = g)) = (look l g).isSome := by
  induction l with
  | nil => rfl
  | cons p r ih =>
    rw [List.any_cons, ih]
    show _ = (if p.1 = g then some p.2 else look r g).isSome
    by_cases h : p.1 = g <;> simp [h]
theorem look_mem {l : List (Int × Int)} {g : Int} : (look l g).isSome = true ↔ g ∈ keysL l := by
  rw [← look_any, List.any_eq_true]
  unfold keysL
  simp
theorem look_map (l : List (Int × Int)) (g m h : Int) : look (l.map (fun p => if p.1 = g then (p.1, m) else p)) h = if h = g then (look l g).map (fun _ => m) else look l h := by
  induction l with
  | nil => simp [look]
  | cons p r ih =>
    rw [List.map_cons]
    by_cases hp : p.1 = g
    · rw [if_pos hp]
      show (if p.1 = h then some m else look _ h) = _
      rw [ih]
      by_cases hh : h = g
      · subst hh; simp [hp, look]
      · have : ¬ p.1 = h := fun z => hh (z.symm.trans hp)
        simp [hh, this, look]
    · rw [if_neg hp]
      show (if p.1 = h then some p.2 else look _ h) = _
      rw [ih]
      by_cases hh : h = g
      · subst hh; simp [hp, look]
      · simp [hh, look]
theorem look_append (l r : List (Int × Int)) (h : Int) : look (l ++ r) h = (look l h).orElse fun _ => look r h := by
  induction l with
  | nil => rfl
  | cons p l ih =>
    show (if p.1 = h then some p.2 else look (l ++ r) h) = _
    rw [ih]
    by_cases e : p.1 = h <;> simp [look, e]
theorem look_put (l : List (Int × Int)) (g m h : Int) : look (put l g m) h = if h = g then some m else look l h := by
  unfold put
  rw [look_any]
  by_cases e : (look l g).isSome = true
  · rw [if_pos e, look_map]
    obtain ⟨v, hv⟩ := Option.isSome_iff_exists.mp e
    by_cases hh : h = g
    · simp [hh, hv]
    · simp [hh]
  · rw [if_neg e, look_append]
    have hn : look l g = none := by simpa using e
    by_cases hh : h = g
    · subst hh; simp [hn, look]
    · have : ¬ g = h := fun z => hh z.symm
      simp [hh, look, this]
theorem keys_put (l : List (Int × Int)) (g m : Int) : keysL (put l g m) = if g ∈ keysL l then keysL l else keysL l ++ [g] := by
  unfold put
  rw [look_any]
  by_cases e : (look l g).isSome = true
  · rw [if_pos e, if_pos (look_mem.mp e)]
    unfold keysL
    rw [List.map_map]
    apply List.map_congr_left
    intro p _
    simp only [Function.comp]
    split <;> rfl
  · rw [if_neg e, if_neg (fun z => e (look_mem.mpr z))]
    simp [keysL]
theorem nodup_put {l : List (Int × Int)} (g m : Int) (h : (keysL l).Nodup) : (keysL (put l g m)).Nodup := by
  rw [keys_put]
  split
  · exact h
  · rename_i hn
    exact nd_snoc h hn
theorem mem_put {l : List (Int × Int)} {g m h : Int} : h ∈ keysL (put l g m) ↔ h = g ∨ h ∈ keysL l := by
  rw [keys_put]
  split
  · rename_i hn
    constructor
    · exact .inr
    · rintro (rfl | z)
      · exact hn
      · exact z
  · simp [or_comm]
theorem wr_put (l : List (Int × Int)) (g m h : Int) : wr (put l g m) h = if h = g then m else wr l h := by
  unfold wr; rw [look_put]; split <;> simp_all
theorem wr_swap (l : List (Int × Int)) (p : Int × Int) (h : Int) : wr (swapL l p) h = if h = p.2 then wr l p.1 else if h = p.1 then wr l p.2 else wr l h := by
  unfold swapL; rw [wr_put, wr_put]
theorem nodup_swap {l : List (Int × Int)} (p : Int × Int) (h : (keysL l).Nodup) : (keysL (swapL l p)).Nodup := nodup_put _ _ (nodup_put _ _ h)
theorem mem_swap {l : List (Int × Int)} {p : Int × Int} {h : Int} : h ∈ keysL (swapL l p) ↔ h = p.2 ∨ h = p.1 ∨ h ∈ keysL l := by
  unfold swapL; rw [mem_put, mem_put]
theorem nodup_paper : ∀ (ps : List (Int × Int)) {w : List (Int × Int)}, (keysL w).Nodup → (keysL (paperL w ps)).Nodup
  | [], _, h => h
  | p :: r, _, h => nodup_paper r (nodup_swap p h)
theorem mem_paper : ∀ (ps : List (Int × Int)) {w : List (Int × Int)} {h : Int}, h ∈ keysL (paperL w ps) ↔ h ∈ keysL w ∨ ∃ p ∈ ps, h = p.1 ∨ h = p.2
  | [], _, _ => by simp [paperL]
  | p :: r, w, h => by
    show h ∈ keysL (paperL (swapL w p) r) ↔ _
    rw [mem_paper r, mem_swap]
    constructor
    · rintro ((e | e | e) | ⟨q, hq, e⟩)
      · exact .inr ⟨p, List.mem_cons_self, .inr e⟩
      · exact .inr ⟨p, List.mem_cons_self, .inl e⟩
      · exact .inl e
      · exact .inr ⟨q, List.mem_cons_of_mem _ hq, e⟩
    · rintro (e | ⟨q, hq, e⟩)
      · exact .inl (.inr (.inr e))
      · rcases List.mem_cons.mp hq with rfl | hq
        · rcases e with e | e
          · exact .inl (.inr (.inl e))
          · exact .inl (.inl e)
        · exact .inr ⟨q, hq, e⟩
theorem len_put (l : List (Int × Int)) (g m : Int) : (put l g m).length ≤ l.length + 1 := by
  unfold put; split <;> simp
theorem len_swap (l : List (Int × Int)) (p : Int × Int) : (swapL l p).length ≤ l.length + 2 := by
  unfold swapL
  have h1 := len_put (put l p.1 (wr l p.2)) p.2 (wr l p.1)
  have h2 := len_put l p.1 (wr l p.2)
  omega
theorem len_paper : ∀ (ps w : List (Int × Int)), (paperL w ps).length ≤ w.length + 2 * ps.length
  | [], _ => by simp [paperL]
  | p :: r, w => by
    have h1 := len_paper r (swapL w p)
    have h2 := len_swap w p
    show (paperL (swapL w p) r).length ≤ _
    rw [List.length_cons]
    omega
/-- what is worn behind depends on what was worn ahead alone -/
def swapF (f : Int → Int) (p : Int × Int) : Int → Int := fun h => if h = p.2 then f p.1 else if h = p.1 then f p.2 else f h
theorem wr_paper : ∀ (ps w : List (Int × Int)), wr (paperL w ps) = ps.foldl swapF (wr w)
  | [], _ => rfl
  | p :: r, w => by
    show wr (paperL (swapL w p) r) = r.foldl swapF (swapF (wr w) p)
    rw [wr_paper r]
    congr 1
    funext h
    exact wr_swap w p h
theorem wr_nil : wr [] = id := by funext g; rfl
theorem swap_twice (f : Int → Int) (p : Int × Int) : swapF (swapF f p) p = f := by
  funext h
  unfold swapF
  by_cases h2 : h = p.2
  · subst h2
    by_cases e : p.1 = p.2 <;> simp [e]
  · by_cases h1 : h = p.1
    · subst h1
      simp [h2]
    · simp [h1, h2]
theorem fold_rev : ∀ (ps : List (Int × Int)) (f : Int → Int), (ps ++ ps.reverse).foldl swapF f = f
  | [], _ => rfl
  | p :: r, f => by
    have e : (p :: r) ++ (p :: r).reverse = [p] ++ (r ++ r.reverse) ++ [p] := by simp
    rw [e, List.foldl_append, List.foldl_append]
    show swapF ((r ++ r.reverse).foldl swapF (swapF f p)) p = f
    rw [fold_rev r, swap_twice]
theorem nodup_len : ∀ {l m : List Int}, l.Nodup → (∀ x ∈ l, x ∈ m) → l.length ≤ m.length
  | [], _, _, _ => Nat.zero_le _
  | a :: r, m, h, hs => by
    obtain ⟨h1, h2⟩ := List.nodup_cons.mp h
    have ha : a ∈ m := hs a List.mem_cons_self
    have hl : (m.erase a).length = m.length - 1 := List.length_erase_of_mem ha
    have hpos : 0 < m.length := List.length_pos_of_mem ha
    have ih := nodup_len (l := r) (m := m.erase a) h2 fun x hx => (List.mem_erase_of_ne (show x ≠ a from fun e => h1 (by rw [← e]; exact hx))).mpr (hs x (List.mem_cons_of_mem _ hx))
    rw [List.length_cons]
    omega
theorem among_len {m c : Int} {ps : List (Int × Int)} (h : Among m c ps) (hm : m ≤ 12) : (wornL ps).length ≤ 12 := by
  have e : (wornL ps).length = (keysL (wornL ps)).length := by simp [keysL]
  rw [e]
  have hnd : (keysL (wornL ps)).Nodup := nodup_paper ps (w := []) (by simp [keysL])
  have := nodup_len (m := (List.range 12).map fun i : Nat => gst (i : Int) c) hnd fun x hx => by
    rcases (mem_paper ps).mp hx with z | ⟨p, hp, e⟩
    · simp [keysL] at z
    · obtain ⟨i, j, hi, hj, _, rfl⟩ := h p hp
      rw [List.mem_map]
      rcases e with e | e
      · exact ⟨i.toNat, List.mem_range.mpr (by omega), by rw [e]; simp [Int.toNat_of_nonneg hi.1]⟩
      · exact ⟨j.toNat, List.mem_range.mpr (by omega), by rw [e]; simp [Int.toNat_of_nonneg hj.1]⟩
  simpa using this
theorem among_append {m c : Int} {ps qs : List (Int × Int)} (h : Among m c ps) (h' : Among m c qs) : Among m c (ps ++ qs) := fun p hp => (List.mem_append.mp hp).elim (h p) (h' p)
theorem among_reverse {m c : Int} {ps : List (Int × Int)} (h : Among m c ps) : Among m c ps.reverse := fun p hp => h p (List.mem_reverse.mp hp)
theorem mem_sortI {l : List Int} {x : Int} : x ∈ sortI l ↔ x ∈ l := (List.mergeSort_perm l _).mem_iff
theorem len_sortI (l : List Int) : (sortI l).length = l.length := (List.mergeSort_perm l _).length_eq
theorem keys_dk (l : List (Int × Int)) : (dk l).map (·.1) = (keysL l).map Sum.inl := by
  unfold dk keysL; rw [List.map_map, List.map_map]; rfl
theorem len_dk (l : List (Int × Int)) : (dk l).length = l.length := by unfold dk; simp
end Wz

set_option maxRecDepth 100000
set_option maxHeartbeats 4000000
namespace Wz
open PySem L2
/-- a def of the text that may be called by its name -/
def Callee (P : Program) (w : World) (K : PySem.W.Frag) (mg : Str → Option Value) (base : Heap) (x : Str) (k : Nat) (ps : List Str) (sp : Sp) : Prop :=
  ∃ (f : Addr) (fd : FuncData), FnOk P w K mg base CX0 k f fd ps sp ∧ mg x = some (.ref f) ∧ PySem.W.keepIn K (.ref f) = true ∧ Binds K fd ps []
theorem pcall {X : Cx} {x : Str} {k : Nat} {ps : List Str} {sp : Sp} {e : Expr} {es : List Expr} {t : TA} {p pos : Pos} (C : Callee X.prog X.w X.K X.mg X.base x k ps sp) (hr : Room k X.A) (hg : Gl X x) (ha : PA X (e :: es) t)
    (hdb : (x == ("__debug__" : Str)) = false := by decide) (he : starEach (e :: es) X.env = (false, eval e X.env) :: starEach es X.env := by rfl) (hpl : (backTo pos (starEach es X.env)).any (·.1) = false := by rfl) :
    PE X (.Call (.Name x p) (e :: es) [] pos) (tCall sp [] E0 t) := by
  obtain ⟨f, fd, G, hm, hk, hb⟩ := C
  exact pe_call G hr hg hm hk hb .nil pass0 ha hdb he hpl
/-! ### rules whose reading names the fragment: within a comprehension's block it must not name the block -/
theorem ix_tupK {X : Cx} (K : PySem.W.Frag) (hK : X.K = K := by rfl) : IxR X (rIxT K) := by subst hK; exact ix_tup
/-! ### what stands in the heap -/
def RowAt (H : Hp) (l : Addr) (ps : List (Int × Int)) : Prop := ∃ as : List Addr, H l = some (.lst (as.map V.ref)) ∧ Paired (fun a (p : Int × Int) => H a = some (.tup [.int p.1, .int p.2])) as ps
theorem RowAt.mono {H H' : Hp} {l : Addr} {ps : List (Int × Int)} (r : RowAt H l ps) (s : Same H H') : RowAt H' l ps := by
  obtain ⟨as, h, p⟩ := r
  exact ⟨as, s _ _ h, Paired.mapP p fun a q z => s _ _ z⟩
theorem paired_mono {H H' : Hp} {as : List Addr} {ps : List (Int × Int)} (p : Paired (fun a (p : Int × Int) => H a = some (.tup [.int p.1, .int p.2])) as ps) (s : Same H H') : Paired (fun a (p : Int × Int) => H' a = some (.tup [.int p.1, .int p.2])) as ps :=
  Paired.mapP p fun a q z => s _ _ z
theorem same_new {H : Hp} {l : Addr} {o : HO} (h : H l = none) : Same H (upd H l o) := fun b u e => by rw [upd_ne (ne_of_none e h)]; exact e
theorem same_upd {H H' : Hp} {l : Addr} {o : HO} (s : Same H H') (h : H l = none) : Same H (upd H' l o) := fun b u e => by rw [upd_ne (ne_of_none e h)]; exact s b u e
theorem paired_snoc {α β : Type} {F : α → β → Prop} {a : α} {b : β} {l : List α} {m : List β} (p : Paired F l m) (h : F a b) : Paired F (l ++ [a]) (m ++ [b]) := Paired.snoc p h
theorem paired_get {α β : Type} {F : α → β → Prop} : ∀ {l : List α} {m : List β} {i : Nat} {a : α}, Paired F l m → l[i]? = some a → ∃ b, m[i]? = some b ∧ F a b
  | _, _, _, _, .nil, h => by simp at h
  | _, _, 0, _, .cons r _, h => by simp at h; subst h; exact ⟨_, rfl, r⟩
  | _, _, i + 1, a, .cons _ t, h => by
    obtain ⟨b, e1, e2⟩ := paired_get (i := i) (a := a) t (by simpa using h)
    exact ⟨b, by simpa using e1, e2⟩
theorem paired_keep {H H' : Hp} {r : Addr} : ∀ {as : List Addr} {ps : List (Int × Int)}, Paired (fun a (p : Int × Int) => H a = some (.tup [.int p.1, .int p.2])) as ps → (∀ x ∈ as, x ≠ r) → (∀ x, x ≠ r → ∀ o, H x = some o → H' x = some o) → Paired (fun a (p : Int × Int) => H' a = some (.tup [.int p.1, .int p.2])) as ps := by
  intro as ps hp hx k
  induction hp with
  | nil => exact .nil
  | cons h _ ih => exact .cons (k _ (hx _ List.mem_cons_self) _ h) (ih fun x hm => hx x (List.mem_cons_of_mem _ hm))
theorem paired_append {α β : Type} {F : α → β → Prop} : ∀ {l l' : List α} {m m' : List β}, Paired F l m → Paired F l' m' → Paired F (l ++ l') (m ++ m')
  | _, _, _, _, .nil, s => s
  | _, _, _, _, .cons r t, s => .cons r (paired_append t s)
theorem paired_reverse {α β : Type} {F : α → β → Prop} : ∀ {l : List α} {m : List β}, Paired F l m → Paired F l.reverse m.reverse
  | _, _, .nil => .nil
  | _, _, .cons r t => by
    rw [List.reverse_cons, List.reverse_cons]
    exact paired_append (paired_reverse t) (.cons r .nil)
theorem map_get {α β : Type} {f : α → β} {l : List α} {i : Nat} {y : β} (h : (l.map f)[i]? = some y) : ∃ x, l[i]? = some x ∧ y = f x := by
  rw [List.getElem?_map] at h
  cases e : l[i]? with
  | none => rw [e] at h; cases h
  | some x => rw [e] at h; exact ⟨x, rfl, (Option.some.inj h).symm⟩
theorem take_snoc {α : Type} {l : List α} {i : Nat} {x : α} (h : l[i]? = some x) : l.take (i + 1) = l.take i ++ [x] := by
  rw [List.take_add_one, h]; rfl
theorem tbc_yes {te : TE} {a : Addr} {D : Ends} {σ : St} {H : Hp} (h : te σ H fun y H2 => ∃ ys, H2 a = some (.lst ys) ∧ ys.length < sizeLine ∧ D.nx σ (upd H2 a (.lst (ys ++ [y])))) : tbC tYes te a D σ H := by
  unfold tbC tYes
  dsimp only
  rw [if_pos rfl]
  exact h
theorem tbc_if {tt : TT} {te : TE} {a : Addr} {D : Ends} {σ : St} {H : Hp} (h : tt σ H fun b H1 => if b = true then te σ H1 fun y H2 => ∃ ys, H2 a = some (.lst ys) ∧ ys.length < sizeLine ∧ D.nx σ (upd H2 a (.lst (ys ++ [y]))) else D.nx σ H1) : tbC tt te a D σ H := h
/-! ### the promises -/
def spCell (K : PySem.W.Frag) : Sp := fun vs H Q _ => ∃ (a : Addr) (ns : List Int) (k : Int), vs = [.ref a, .int k] ∧ SqL K H a (ns.map V.int) ∧ 0 ≤ k ∧ Q (.int (cellAt ns k)) H
def spSize : Sp := fun vs H Q _ => ∃ c : Int, vs = [.int c] ∧ Q (.int (absI c)) H
def spDraws : Sp := fun vs H Q _ => ∃ c m b : Int, vs = [.int c, .int m, .int b] ∧ (0 ≤ m ∧ m ≤ 1000) ∧ (0 < b ∧ b < 1073741824) ∧ ∀ (l : Addr) (ds : List Int), H l = none → (∀ d ∈ ds, 0 ≤ d ∧ d < b) → (ds.length : Int) ≤ m → Q (.ref l) (upd H l (.lst (ds.map V.int)))
def spFrom (K : PySem.W.Frag) : Sp := fun vs H Q _ => ∃ (a : Addr) (ns : List Int) (st m b : Int), vs = [.ref a, .int st, .int m, .int b] ∧ SqL K H a (ns.map V.int) ∧ (0 ≤ st ∧ st ≤ 63) ∧ (0 ≤ m ∧ m ≤ 1000) ∧ (0 < b ∧ b < 1073741824) ∧
  ∀ (l : Addr) (H' : Hp) (ds : List Int), H l = none → Same H H' → H' l = some (.lst (ds.map V.int)) → (∀ d ∈ ds, 0 ≤ d ∧ d < b) → (ds.length : Int) ≤ m → Q (.ref l) H'
def spGuest : Sp := fun vs H Q _ => ∃ k c : Int, vs = [.int k, .int c] ∧ (0 ≤ k ∧ k ≤ 1000000) ∧ Q (.int (gst k c)) H
def spPairs (K : PySem.W.Frag) : Sp := fun vs H Q _ => ∃ (a : Addr) (ds : List Int) (m c : Int), vs = [.ref a, .int m, .int c] ∧ SqL K H a (ds.map V.int) ∧ (∀ d ∈ ds, 0 ≤ d) ∧ (2 ≤ m ∧ m ≤ 12) ∧ ds.length ≤ 1000 ∧
  ∀ (l : Addr) (H' : Hp) (ps : List (Int × Int)), H l = none → Same H H' → RowAt H' l ps → Among m c ps → ps.length = ds.length → Q (.ref l) H'
def manyOf (ns : List Int) : Int := 2 + cellAt ns 0 % 11
theorem manyOf_in (ns : List Int) : 2 ≤ manyOf ns ∧ manyOf ns ≤ 12 := by unfold manyOf; omega
def spMany (K : PySem.W.Frag) : Sp := fun vs H Q _ => ∃ (a : Addr) (ns : List Int), vs = [.ref a] ∧ SqL K H a (ns.map V.int) ∧ Q (.int (manyOf ns)) H
def spDrawn (K : PySem.W.Frag) : Sp := fun vs H Q _ => ∃ (a : Addr) (ns : List Int) (st m : Int), vs = [.ref a, .int st, .int m] ∧ SqL K H a (ns.map V.int) ∧ (0 ≤ st ∧ st ≤ 63) ∧ (0 ≤ m ∧ m ≤ 1000) ∧
  ∀ (l : Addr) (H' : Hp) (ps : List (Int × Int)), H l = none → Same H H' → RowAt H' l ps → Among (manyOf ns) (cellAt ns 1) ps → (ps.length : Int) ≤ m → Q (.ref l) H'
def spWhole : Sp := fun vs H Q _ => ∃ i : Int, vs = [.int i] ∧ Q (.bl true) H
def spPairT : Sp := fun vs H Q _ => ∃ (a : Addr) (p : Int × Int), vs = [.ref a] ∧ H a = some (.tup [.int p.1, .int p.2]) ∧ Q (.bl true) H
def spRowT : Sp := fun vs H Q _ => ∃ (l : Addr) (ps : List (Int × Int)), vs = [.ref l] ∧ RowAt H l ps ∧ ps.length ≤ 1000 ∧ ∀ H', Same H H' → Q (.bl true) H'
def spWorn : Sp := fun vs H Q _ => ∃ (l : Addr) (ps : List (Int × Int)), vs = [.ref l] ∧ RowAt H l ps ∧ ps.length ≤ 1000 ∧ ∀ d, H d = none → Q (.ref d) (upd H d (.dK (dk (wornL ps))))
def spMoved : Sp := fun vs H Q _ => ∃ (l : Addr) (ps : List (Int × Int)), vs = [.ref l] ∧ RowAt H l ps ∧ ps.length ≤ 1000 ∧ (wornL ps).length < 64 ∧ ∀ (l' : Addr) (H' : Hp), H l' = none → Same H H' → RowAt H' l' (movesL (wornL ps)) → Q (.ref l') H'
def spPaper : Sp := fun vs H Q _ => ∃ (l d : Addr) (ps w : List (Int × Int)), vs = [.ref l, .ref d] ∧ RowAt H l ps ∧ ps.length ≤ 1000 ∧ H d = some (.dK (dk w)) ∧ w.length ≤ 1000 ∧ Q (.ref d) (upd H d (.dK (dk (paperL w ps))))
def spWrong : Sp := fun vs H Q _ => ∃ (d : Addr) (w : List (Int × Int)), vs = [.ref d] ∧ H d = some (.dK (dk w)) ∧ w.length < 64 ∧ ∀ (l' : Addr) (H' : Hp), H l' = none → Same H H' → H' l' = some (.lst ((wrongL w).map V.int)) → Q (.ref l') H'
def spMoves : Sp := fun vs H Q _ => ∃ (d : Addr) (w : List (Int × Int)), vs = [.ref d] ∧ H d = some (.dK (dk w)) ∧ w.length < 64 ∧ ∀ (l' : Addr) (H' : Hp), H l' = none → Same H H' → RowAt H' l' (movesL w) → Q (.ref l') H'
def spTurned (K : PySem.W.Frag) : Sp := fun vs H Q _ => ∃ (l : Addr) (xs : List V), vs = [.ref l] ∧ SqL K H l xs ∧ ∀ l', H l' = none → Q (.ref l') (upd H l' (.lst xs.reverse))
def spLaw (K : PySem.W.Frag) : Sp := fun vs H Q _ => ∃ (a : Addr) (ns : List Int), vs = [.ref a] ∧ SqL K H a (ns.map V.int) ∧ ns.length ≤ 63 ∧ ∀ H', Q (.bl true) H'
/-! ### nested data of a row -/
def pairD (p : Int × Int) : Dt := .sq true [.at (.int p.1), .at (.int p.2)]
def rowD (ps : List (Int × Int)) : Dt := .sq false (ps.map pairD)
theorem rd_row {K : PySem.W.Frag} {H : Hp} {l : Addr} {ps : List (Int × Int)} (r : RowAt H l ps) : RD K H 2 (.ref l) (rowD ps) := by
  obtain ⟨as, h, p⟩ := r
  refine RD.lst (SqL.of h) ?_
  clear h
  induction p with
  | nil => exact .nil
  | cons h _ ih => exact .cons (RD.tup (SqT.of h) (.cons (RD.flat rfl 0) (.cons (RD.flat rfl 0) .nil))) ih
theorem pairD_inj {p q : Int × Int} (h : pairD p = pairD q) : p = q := by
  unfold pairD at h
  injection h with _ h
  injection h with h1 h2
  injection h2 with h2 _
  injection h1 with h1
  injection h2 with h2
  injection h1 with h1
  injection h2 with h2
  exact Prod.ext h1 h2
theorem rowD_inj : ∀ {ps qs : List (Int × Int)}, rowD ps = rowD qs → ps = qs := by
  intro ps qs h
  unfold rowD at h
  injection h with _ h
  revert qs
  induction ps with
  | nil => intro qs h; cases qs with | nil => rfl | cons _ _ => cases h
  | cons p ps ih =>
    intro qs h
    cases qs with
    | nil => cases h
    | cons q qs =>
      rw [List.map_cons, List.map_cons] at h
      injection h with h1 h2
      rw [pairD_inj h1, ih h2]
theorem rowD_iff {ps qs : List (Int × Int)} : rowD ps = rowD qs ↔ ps = qs := ⟨rowD_inj, fun h => by rw [h]⟩
def numsD (ns : List Int) : Dt := .sq false (ns.map fun n => .at (.int n))

theorem noPart {σ : St} {H : Hp} {Q : Option Int → Hp → Prop} (h : Q none H) : tNoPart σ H Q := h
theorem and_ite {c : Bool} {P B R : Prop} (r : R) (f : R → c = true → P) : if c = true then P else (if false = true then B else R) := by
  cases c with
  | true => rw [if_pos rfl]; exact f r rfl
  | false => rw [if_neg Bool.false_ne_true, if_neg Bool.false_ne_true]; exact r
/-! ### parts of a row -/
theorem paired_take {α β : Type} {F : α → β → Prop} : ∀ {l : List α} {m : List β} (n : Nat), Paired F l m → Paired F (l.take n) (m.take n)
  | _, _, 0, _ => by rw [List.take_zero, List.take_zero]; exact .nil
  | _, _, _ + 1, .nil => .nil
  | _, _, n + 1, .cons r t => .cons r (paired_take n t)
theorem paired_drop {α β : Type} {F : α → β → Prop} : ∀ {l : List α} {m : List β} (n : Nat), Paired F l m → Paired F (l.drop n) (m.drop n)
  | _, _, 0, h => h
  | _, _, _ + 1, .nil => .nil
  | _, _, n + 1, .cons _ t => paired_drop n t
def Refs (H : Hp) (xs : List V) (ps : List (Int × Int)) : Prop := ∃ as : List Addr, xs = as.map V.ref ∧ Paired (fun a (p : Int × Int) => H a = some (.tup [.int p.1, .int p.2])) as ps
theorem Refs.mono {H H' : Hp} {xs : List V} {ps : List (Int × Int)} (r : Refs H xs ps) (s : Same H H') : Refs H' xs ps := by
  obtain ⟨as, e, p⟩ := r
  exact ⟨as, e, paired_mono p s⟩
theorem Refs.app {H : Hp} {xs ys : List V} {ps qs : List (Int × Int)} (r : Refs H xs ps) (r' : Refs H ys qs) : Refs H (xs ++ ys) (ps ++ qs) := by
  obtain ⟨as, rfl, p⟩ := r
  obtain ⟨bs, rfl, q⟩ := r'
  exact ⟨as ++ bs, by rw [List.map_append], paired_append p q⟩
theorem Refs.rev {H : Hp} {xs : List V} {ps : List (Int × Int)} (r : Refs H xs ps) : Refs H xs.reverse ps.reverse := by
  obtain ⟨as, rfl, p⟩ := r
  exact ⟨as.reverse, by rw [List.map_reverse], paired_reverse p⟩
theorem Refs.cut {H : Hp} {xs : List V} {ps : List (Int × Int)} {m c : Int} (r : Refs H xs ps) (ha : Among m c ps) (lo hi : Option Int) : ∃ qs, Refs H (cutV xs lo hi) qs ∧ Among m c qs ∧ qs.length ≤ ps.length := by
  obtain ⟨as, rfl, p⟩ := r
  refine ⟨(ps.drop (HT.sIx (as.map V.ref).length 0 lo)).take (HT.sIx (as.map V.ref).length (as.map V.ref).length hi - HT.sIx (as.map V.ref).length 0 lo), ⟨(as.drop (HT.sIx (as.map V.ref).length 0 lo)).take (HT.sIx (as.map V.ref).length (as.map V.ref).length hi - HT.sIx (as.map V.ref).length 0 lo), by unfold cutV; rw [List.map_take, List.map_drop], paired_take _ (paired_drop _ p)⟩, fun x hx => ha x (List.mem_of_mem_drop (List.mem_of_mem_take hx)), ?_⟩
  rw [List.length_take, List.length_drop]
  omega
theorem Refs.length {H : Hp} {xs : List V} {ps : List (Int × Int)} (r : Refs H xs ps) : xs.length = ps.length := by
  obtain ⟨as, rfl, p⟩ := r
  rw [List.length_map]; exact Paired.length p
theorem RowAt.refs {H : Hp} {l : Addr} {ps : List (Int × Int)} (r : RowAt H l ps) : ∃ xs, H l = some (.lst xs) ∧ Refs H xs ps := by
  obtain ⟨as, h, p⟩ := r
  exact ⟨_, h, as, rfl, p⟩
theorem Refs.row {H : Hp} {l : Addr} {xs : List V} {ps : List (Int × Int)} (r : Refs H xs ps) (h : H l = some (.lst xs)) : RowAt H l ps := by
  obtain ⟨as, rfl, p⟩ := r
  exact ⟨as, h, p⟩
def spEffect : Sp := fun vs H Q _ => ∃ (l m : Addr) (ps qs : List (Int × Int)), vs = [.ref l, .ref m] ∧ RowAt H l ps ∧ RowAt H m qs ∧ ps.length ≤ 1000 ∧ qs.length ≤ 1000 ∧ (wornL ps).length < 64 ∧ (wornL qs).length < 64 ∧ ∀ (b : Bool) (H' : Hp), Same H H' → (b = true ↔ movesL (wornL ps) = movesL (wornL qs)) → Q (.bl b) H'
def spQuad : Sp := fun vs H Q _ => ∃ a b c d : Int, vs = [.int a, .int b, .int c, .int d] ∧ ∀ (l : Addr) (H' : Hp), H l = none → Same H H' → RowAt H' l [(a, d), (b, c), (a, b), (c, d), (b, d), (a, c)] → Q (.ref l) H'
def spFour : Sp := fun vs H Q _ => ∃ f m n : Int, vs = [.int f, .int m, .int n] ∧ 0 ≤ f ∧ (2 ≤ m ∧ m ≤ 12) ∧ ∀ (l : Addr) (H' : Hp), H l = none → Same H H' → H' l = some (.lst ([gst ((f + 0) % m) n, gst ((f + 1) % m) n, gst ((f + 2) % m) n, gst ((f + 3) % m) n].map V.int)) → Q (.ref l) H'
def spBent : Sp := fun vs H Q _ => ∃ (l : Addr) (ps : List (Int × Int)) (c m n : Int), vs = [.ref l, .int c, .int m, .int n] ∧ RowAt H l ps ∧ Among m n ps ∧ ps.length ≤ 100 ∧ 0 ≤ c ∧ (2 ≤ m ∧ m ≤ 12) ∧ ∀ (l' : Addr) (H' : Hp) (qs : List (Int × Int)), H l' = none → Same H H' → RowAt H' l' qs → Among m n qs → qs.length ≤ 300 → Q (.ref l') H'
def spSays : Sp := fun vs H Q _ => ∃ x y : Bool, vs = [.bl x, .bl y] ∧ Q (.bl (decide (V.bl x = V.bl y))) H
theorem moves_len (w : List (Int × Int)) : (movesL w).length ≤ w.length := by
  unfold movesL wrongL
  rw [List.length_map]
  refine Nat.le_trans (List.length_filter_le _ _) ?_
  rw [len_sortI]; unfold keysL; rw [List.length_map]; exact Nat.le_refl _
theorem wrong_len (w : List (Int × Int)) : (wrongL w).length ≤ w.length := by have := moves_len w; unfold movesL at this; rwa [List.length_map] at this
theorem wrong_mem {w : List (Int × Int)} {g : Int} (h : g ∈ wrongL w) : g ∈ keysL w := by unfold wrongL at h; exact mem_sortI.mp (List.mem_filter.mp h).1
theorem among_quad {m n a b c d : Int} (ha : 0 ≤ a ∧ a < m) (hb : 0 ≤ b ∧ b < m) (hc : 0 ≤ c ∧ c < m) (hd : 0 ≤ d ∧ d < m) (h1 : a ≠ b) (h2 : a ≠ c) (h3 : a ≠ d) (h4 : b ≠ c) (h5 : b ≠ d) (h6 : c ≠ d) :
    Among m n [(gst a n, gst d n), (gst b n, gst c n), (gst a n, gst b n), (gst c n, gst d n), (gst b n, gst d n), (gst a n, gst c n)] := by
  intro p hp
  simp only [List.mem_cons, List.not_mem_nil, or_false] at hp
  rcases hp with rfl | rfl | rfl | rfl | rfl | rfl
  · exact ⟨a, d, ha, hd, h3, rfl⟩
  · exact ⟨b, c, hb, hc, h4, rfl⟩
  · exact ⟨a, b, ha, hb, h1, rfl⟩
  · exact ⟨c, d, hc, hd, h6, rfl⟩
  · exact ⟨b, d, hb, hd, h5, rfl⟩
  · exact ⟨a, c, ha, hc, h2, rfl⟩
end Wz

set_option maxRecDepth 100000
set_option maxHeartbeats 4000000
namespace L2
open PySem PySem.Spec PyProof.Rows
/-! ### an exception in flight, its class and its dict known -/
def TrD (g B : Heap) (e : Addr) (c : Value) (od : Option Addr) (fl : Value) : Prop :=
  ∃ oe us T oT ts, g.get? e = some oe ∧ (oe.cls = c ∧ oe.dict = od) ∧ oe.data = .fields us ∧ us[1]? = some (.ref T) ∧ B.get? T = none ∧ T ≠ e ∧ g.get? T = some oT ∧ oT.data = .fields ts ∧ ts[3]? = some fl
def FlyD (B : Heap) (l : List Env) (e : Addr) (c : Value) (od : Option Addr) (g : Heap) : Prop := B.StaysIn g ∧ B.get? e = none ∧ g.FunFrames B l ∧ TrD g B e c od .none
def HeldD (B : Heap) (l : List Env) (e : Addr) (c : Value) (od : Option Addr) (L : Addr) (g : Heap) : Prop := B.StaysIn g ∧ B.get? e = none ∧ g.FunFrames B l ∧ TrD g B e c od (rawInt L)
section
variable {M : Model} {A : Around} {E : Value → Shared → Prop} {s : Shared} {B : Heap} {env : Env} {outer : List Env} {L e : Addr} {od : Option Addr} {c : Value}
/-- what is kept: all but records, and these up to slots -/
def Rec (g g' : Heap) : Prop := ∀ b o, g.get? b = some o → (∀ us, o.data ≠ .fields us) → ∃ sl, g'.get? b = some { o with slots := sl }
end
end L2

set_option maxRecDepth 100000
set_option maxHeartbeats 4000000
namespace L2
open PySem PySem.Spec PyProof.Rows
/-! ### own exceptions with an own __init__ and a field -/
abbrev bmV : List Value := [.type "ValueError", .type "Exception", .type "BaseException", .type "object"]
def exOb (C t : Addr) (od : Option Addr) : Obj := { cls := .ref C, dict := od, data := .fields #[.ref t, .none, .none, .none, .bool false, .none] }
def overV : List Value → Bool
  | .ref _ :: r => overV r
  | l => l == bmV
def excInI (K : PySem.W.Frag) (C fI : Addr) : Bool := match K.lookup C with
  | some ⟨.type "type", _, .cls cd, sl⟩ => (match cd.mro, sl.toList with
    | .ref D :: bm, [_, _, _, _, some (.builtin n), _] => D == C && n == "ValueError.__new__" && !cd.hasDel && PySem.W.tailIn K bmV bm && PySem.W.nsOkIn K cd.ns && PySem.W.nsIn K cd.ns "__init__" == some (some (.ref fI))
    | _, _ => false)
  | _ => false
structure NGc (K : PySem.W.Frag) (C : Addr) (f : Str) : Prop where
  ga : PySem.W.findIn K (.ref C) "__getattribute__" = some (some (.builtin "BaseException.__getattribute__"))
  gh : PySem.W.findIn K (.ref C) "__getattr__" = some none
  sa : PySem.W.findIn K (.ref C) "__setattr__" = some (some (.builtin "object.__setattr__"))
  na : PySem.W.findIn K (.ref C) f = some none
  hd : PySem.W.hasDictIn K C = true
  mb : PySem.W.mroIn K C (.type "BaseException") = some true
  mo : PySem.W.mroIn K C (.type "object") = some true
  ov : ((PySem.W.clsIn K C).any fun cd => overV cd.mro) = true
section
variable {prog : Program} {w : World} {A : Around} {E : Value → Shared → Prop} {s : Shared} {K : PySem.W.Frag} {x dx C : Addr} {mA : Str → Option Value} {f : Str} {v : Value}
end
end L2

set_option maxRecDepth 100000
set_option maxHeartbeats 4000000
namespace PySem
open Sem (wp)
section
variable {prog : Program} {w : World} {A : Around} {E : Value → Shared → Prop} {h : Heap} {g : Array GenState} {d : Drawn} {t : Nat} {os : OsState}
variable {nm q : Str} {C N : Addr} {bs bm bmB : List Value} {hdct : Bool} {sn : List Str} {sub : List Value} {ab : Bool} {col : Option Bool} {dd : Option Addr} {k0 k1 k2 k3 k5 : Option Value} {B newId initId : String}
end
end PySem
namespace L2
open PySem PySem.Spec PyProof.Rows
/-! ### plain own exceptions under ValueError -/
abbrev OwnExc (K : PySem.W.Frag) (C : Addr) : Prop := PySem.W.excIn K C bmV "ValueError.__new__" = true
/-! ### what is tracked of an exception while it is made -/
def exO (e C : Addr) (od : Option Addr) : HO := .ext fun h => ∃ t, h.get? e = some (exOb C t od)
def untr (H : Hp) (a : Addr) : Hp := fun b => if b = a then none else H b
/-! ### how an exception lies behind a call: it flies to the callers' frames; all that stood ahead, but these frames, is in B, and so is all that is tracked -/
def CXD (P : Program) (w : World) : CXT := fun outer H s E e s' => ∃ (ea C : Addr) (od : Option Addr) (H' : Hp) (B : Heap), e = .ref ea ∧ FlyD B outer ea (.ref C) od s'.heap ∧ Un (frs outer) [] H H' s.heap s'.heap ∧ HOk P w H' s'.heap ∧ s'.os = s.os ∧ AllBare s'.gens ∧
  (∀ b o, s.heap.get? b = some o → b ∉ frs outer → ∃ o', B.get? b = some o') ∧ (∀ b o, H' b = some o → ∃ o', B.get? b = some o') ∧ E (.ref C) od H'
/-- an exception is raised here: it reaches what this body wants -/
def Flies (X : Cx) (E : XK) : Prop := ∀ (pins : List (Addr × Obj)) (σ : St) (H : Hp) (s : Shared) (ea C t : Addr) (od : Option Addr), Inv X pins σ H s → s.heap.get? ea = some (exOb C t od) → H ea = none → X.s₀.heap.get? ea = none → E (.ref C) od H → X.xe (.ref ea) s
section
variable {P : Program} {w : World} {K : PySem.W.Frag} {mg : Str → Option Value} {base : Heap} {N : List Str} {qual : Str} {sc : Scope} {f : Addr} {cd : Value} {A : Around} {outer : List Env} {s0 : Shared} {H0 : Hp} {E : XK}
end
/-! ### raise C(text) -/
def tRaise (te : TE) (C : Addr) (E : XK) : TS := fun _ σ H => te σ H fun _ H1 => E (.ref C) none H1
end L2

set_option maxRecDepth 100000
set_option maxHeartbeats 4000000
namespace L2
open PySem PySem.Spec PyProof.Rows
section
variable {X : Cx} {pins : List (Addr × Obj)} {σ : St} {H : Hp} {s : Shared}
end
/-! ### the __init__ of an own exception with one field -/
def spNG (C : Addr) (f : Str) : Sp := fun vs H Q _ => ∃ (ea : Addr) (g : Int), vs = [.ref ea, .int g] ∧ g.natAbs < 10 ^ 100 ∧ H ea = some (exO ea C none) ∧ ∀ dx, H dx = none → Q .non (upd (upd H ea (exO ea C (some dx))) dx (.xd [(f, .int g)]))
/-! ### raise C(e), C an own class with an own __init__ of one field -/
def tRaiseI (te : TE) (C : Addr) (f : Str) (E : XK) : TS := fun _ σ H => te σ H fun v H1 => ∃ g : Int, v = .int g ∧ g.natAbs < 10 ^ 100 ∧ ∀ dx, H1 dx = none → E (.ref C) (some dx) (upd H1 dx (.xd [(f, .int g)]))
end L2

set_option maxRecDepth 100000
set_option maxHeartbeats 4000000
namespace L2
open PySem PySem.Spec PyProof.Rows
/-! ### try: x = f(..), except C: .. -/
/-- the state in which an exception has come: whatever its own records and the frames' slots do, the body's state stands -/
def Land (X : Cx) (pins : List (Addr × Obj)) (σ : St) (H : Hp) (ea C : Addr) (od : Option Addr) (B : Heap) (s' : Shared) : Prop := H ea = none ∧ ∀ h2, FlyD B X.stack ea (.ref C) od h2 → s'.heap.UpToSlots h2 → Inv X pins σ H { s' with heap := h2 }
/-- within an except suite: the exception's object is known -/
def Cx.marked (X : Cx) (ea : Addr) (oe : Obj) : Cx := { X with A := X.A.mark (some (.ref ea)), calm := false, xe := fun _ _ => False, pn := (ea, oe) :: X.pn }
def PHd (X : Cx) (hdl : List ExceptHandler) (th : Value → Option Addr → TS) : Prop := ∀ (pins : List (Addr × Obj)) (σ : St) (H : Hp) (D : Ends) (ea C : Addr) (od : Option Addr) (B : Heap) (s' : Shared) (h : Heap), Land X pins σ H ea C od B s' → FlyD B X.stack ea (.ref C) od h → s'.heap.UpToSlots h → th (.ref C) od D σ H →
  wpAny (model X.prog X.w) X.A (handleBy (.ref ea) X.env hdl) (SP X pins D) X.xe { s' with heap := h }
def forget (i : Nat) (D : Ends) : Ends := { nx := fun σ H => D.nx (σ.set i none) H, rt := D.rt, bk := fun σ H => D.bk (σ.set i none) H, ct := fun σ H => D.ct (σ.set i none) H }
def tTryC (sp : Sp) (t : TA) (i : Nat) (th : Value → Option Addr → TS) : TS := fun D σ H => t σ H fun vs H1 => sp vs H1 (fun v H2 => D.nx (σ.set i (some v)) H2) (fun cls od H2 => th cls od D σ H2)
/-! ### f-strings: any text may come -/
def PJ (X : Cx) (es : List Expr) (t : TA) : Prop := ∀ (out : Str) (m : Nat) (pins : List (Addr × Obj)) (s : Shared) (σ : St) (H : Hp) (Q : VK), out.length ≤ 1000 * m → m + es.length ≤ 100 → Inv X pins σ H s → t σ H (fun _ H' => ∀ x : Str, Q (.str x) H') → wpAny (model X.prog X.w) X.A (joinParts out (evalEach es X.env)) (EP X pins σ Q) X.xe s
def tJ (te : TE) (t : TA) : TA := fun σ H Q => te σ H fun x H1 => ∃ y : Str, x = .str y ∧ y.length ≤ 1000 ∧ t σ H1 Q
def tFS (t : TA) : TE := fun σ H Q => t σ H fun _ H' => ∀ x : Str, Q (.str x) H'
/-- {e} of an int of a bounded size -/
def tFI (te : TE) : TE := fun σ H Q => te σ H fun x H1 => ∃ i : Int, x = .int i ∧ i.natAbs < 10 ^ 100 ∧ ∀ y : Str, y.length ≤ 1000 → Q (.str y) H1
end L2

set_option maxRecDepth 100000
set_option maxHeartbeats 4000000
namespace Wz
open PySem L2
/-! ### methods and raising defs by name -/
def MCallee (P : Program) (w : World) (K : PySem.W.Frag) (mg : Str → Option Value) (base : Heap) (CX : CXT) (C : Addr) (m : Str) (k : Nat) (ps : List Str) (sp : Sp) : Prop :=
  ∃ (f : Addr) (fd : FuncData), FnOk P w K mg base CX k f fd ps sp ∧ Meth K C m f ∧ Binds K fd ps []
def XCallee (P : Program) (w : World) (K : PySem.W.Frag) (mg : Str → Option Value) (base : Heap) (x : Str) (k : Nat) (ps : List Str) (sp : Sp) : Prop :=
  ∃ (f : Addr) (fd : FuncData), FnOk P w K mg base (CXD P w) k f fd ps sp ∧ mg x = some (.ref f) ∧ PySem.W.keepIn K (.ref f) = true ∧ Binds K fd ps []
section
variable {X : Cx} {CX : CXT} {k : Nat} {C : Addr} {ps : List Str} {sp : Sp} {E : XK} {m x : Str} {p pos apos : Pos} {e o : Expr} {es : List Expr} {ta : TE} {t : TA}
end
/-! ### deeds and the hall -/
inductive Deed where
  | come (g : Int) | go (g : Int) | exch (a b : Int)
  deriving DecidableEq
def deedO : Deed → HO
  | .come g => .tup [.str "come", .int g]
  | .go g => .tup [.str "go", .int g]
  | .exch a b => .tup [.str "exchange", .int a, .int b]
structure HSt where
  worn : List (Int × Int)
  hold : List (Int × Int)
  circ : List (Int × List Int)
  deeds : List Deed
def circK : List Addr → List (Int × List Int) → List (Key × V)
  | a :: as, x :: xs => (Sum.inl x.1, V.ref a) :: circK as xs
  | _, _ => []
def ksO (ks : List Int) : List (Key × V) := ks.map fun k => (Sum.inl k, V.bl true)
structure HA where
  dx : Addr
  w : Addr
  h : Addr
  c : Addr
  d : Addr
  cs : List Addr
def HA.fp (A : HA) : List Addr := A.w :: A.h :: A.c :: A.d :: A.cs
def hflds (A : HA) : List (Str × V) := putF "deeds" (.ref A.d) (putF "circles" (.ref A.c) (putF "holders" (.ref A.h) (putF "worn" (.ref A.w) [])))
def DeedsAt (H : Hp) (d : Addr) (ds : List Deed) : Prop := ∃ as : List Addr, H d = some (.lst (as.map V.ref)) ∧ Paired (fun a x => H a = some (deedO x)) as ds
structure HallAt (C : Addr) (H : Hp) (p : Addr) (A : HA) (st : HSt) : Prop where
  ob : H p = some (.ins C A.dx (hflds A))
  nd : A.fp.Nodup
  w : H A.w = some (.dK (dk st.worn))
  h : H A.h = some (.dK (dk st.hold))
  c : H A.c = some (.dK (circK A.cs st.circ))
  cs : Paired (fun a (x : Int × List Int) => H a = some (.dK (ksO x.2))) A.cs st.circ
  d : DeedsAt H A.d st.deeds
def Kp (fp : List Addr) (H H' : Hp) : Prop := ∀ b o, H b = some o → b ∉ fp → H' b = some o
/-! ### taking a key away -/
def dropI (l : List (Int × Int)) (g : Int) : List (Int × Int) := l.filter fun p => decide (p.1 ≠ g)
/-! ### what becomes of a deed -/
inductive Out where
  | done | already | masked | same | met | noguest (g : Int)
  deriving DecidableEq
def cOf : List (Int × List Int) → Int → List Int
  | [], _ => []
  | x :: r, g => if x.1 = g then x.2 else cOf r g
def metC (c : List (Int × List Int)) (a b : Int) : Bool := decide (b ∈ cOf c a)
def addK (ks : List Int) (b : Int) : List Int := if b ∈ ks then ks else ks ++ [b]
def addC : List (Int × List Int) → Int → Int → List (Int × List Int)
  | [], a, b => [(a, [b])]
  | x :: r, a, b => if x.1 = a then (x.1, addK x.2 b) :: r else x :: addC r a b
def judge (st : HSt) : Deed → Out
  | .come g => if (look st.worn g).isSome then .already else .done
  | .go g => match look st.worn g with | none => .noguest g | some m => if m = g then .done else .masked
  | .exch a b => match look st.worn a with
    | none => .noguest a
    | some _ => match look st.worn b with
      | none => .noguest b
      | some _ => if a = b then .same else if metC st.circ a b then .met else .done
def after (st : HSt) : Deed → HSt
  | .come g => { worn := put st.worn g g, hold := put st.hold g g, circ := st.circ, deeds := st.deeds ++ [.come g] }
  | .go g => { worn := dropI st.worn g, hold := dropI st.hold g, circ := st.circ, deeds := st.deeds ++ [.go g] }
  | .exch a b => { worn := put (put st.worn a (wr st.worn b)) b (wr st.worn a), hold := put (put st.hold (wr st.worn b) a) (wr st.worn a) b, circ := addC (addC st.circ a b) b a, deeds := st.deeds ++ [.exch a b] }
def names : Deed → List Int
  | .come g => [g]
  | .go g => [g]
  | .exch a b => [a, b]
def Small (g : Int) : Prop := g.natAbs < 10 ^ 100
/-- room for one deed more -/
structure Fits (st : HSt) : Prop where
  w : st.worn.length < 1000
  h : st.hold.length < 1000
  c : st.circ.length < 1000
  k : ∀ x ∈ st.circ, x.2.length < 1000
  d : st.deeds.length < 1000
/-- the hall's classes -/
structure HX where
  C : Addr
  cW : Addr
  cA : Addr
  cM : Addr
  cS : Addr
  cT : Addr
  cN : Addr
  fN : Addr
def Raised (c : HX) (E : XK) (H : Hp) : Out → Prop
  | .done => False
  | .already => ∀ H', Same H H' → E (.ref c.cA) none H'
  | .masked => ∀ H', Same H H' → E (.ref c.cM) none H'
  | .same => ∀ H', Same H H' → E (.ref c.cS) none H'
  | .met => ∀ H', Same H H' → E (.ref c.cT) none H'
  | .noguest g => ∀ dx H', Same H H' → H' dx = some (.xd [("guest", .int g)]) → E (.ref c.cN) (some dx) H'
/-- nothing that is tracked is lost -/
def Tr (H H' : Hp) : Prop := ∀ b o, H b = some o → ∃ o', H' b = some o'
def Moved (C : Addr) (H : Hp) (p : Addr) (A : HA) (st' : HSt) (H' : Hp) : Prop := ∃ A' : HA, HallAt C H' p A' st' ∧ Kp A.fp H H' ∧ (∀ b ∈ A'.fp, b ∈ A.fp ∨ H b = none) ∧ Tr H H'
/-- a deed is done, or refused -/
def Does (c : HX) (H : Hp) (p : Addr) (A : HA) (st : HSt) (d : Deed) (Q : VK) (E : XK) : Prop :=
  if judge st d = .done then ∀ H', Moved c.C H p A (after st d) H' → Q .non H' else Raised c E H (judge st d)
def spNew (C : Addr) : Sp := fun vs H Q _ => ∃ (p dx : Addr), vs = [.ref p] ∧ H p = some (.ins C dx []) ∧ ∀ (A : HA) (H' : Hp), HallAt C H' p A ⟨[], [], [], []⟩ → (∀ b o, H b = some o → b ≠ p → H' b = some o) → (∀ b ∈ A.fp, H b = none) → Q .non H'
def spCome (c : HX) : Sp := fun vs H Q E => ∃ (p : Addr) (A : HA) (st : HSt) (g : Int), vs = [.ref p, .int g] ∧ HallAt c.C H p A st ∧ Fits st ∧ Small g ∧ Does c H p A st (.come g) Q E
def spGo (c : HX) : Sp := fun vs H Q E => ∃ (p : Addr) (A : HA) (st : HSt) (g : Int), vs = [.ref p, .int g] ∧ HallAt c.C H p A st ∧ Fits st ∧ Small g ∧ (∀ m, look st.worn g = some m → Small m ∧ (m = g → (look st.hold g).isSome)) ∧ Does c H p A st (.go g) Q E
def spExch (c : HX) : Sp := fun vs H Q E => ∃ (p : Addr) (A : HA) (st : HSt) (a b : Int), vs = [.ref p, .int a, .int b] ∧ HallAt c.C H p A st ∧ Fits st ∧ Small a ∧ Small b ∧ Does c H p A st (.exch a b) Q E
def spDress (C : Addr) : Sp := fun vs H Q _ => ∃ (p : Addr) (A : HA) (st : HSt) (g m : Int), vs = [.ref p, .int g, .int m] ∧ HallAt C H p A st ∧ st.worn.length < 2000 ∧ st.hold.length < 2000 ∧ Q .non (upd (upd H A.w (.dK (dk (put st.worn g m)))) A.h (.dK (dk (put st.hold m g))))
def spWears (c : HX) : Sp := fun vs H Q E => ∃ (p : Addr) (A : HA) (st : HSt) (g : Int), vs = [.ref p, .int g] ∧ HallAt c.C H p A st ∧ Small g ∧
  match look st.worn g with
  | some m => Q (.int m) H
  | none => Raised c E H (.noguest g)
def spWearer (c : HX) : Sp := fun vs H Q E => ∃ (p : Addr) (A : HA) (st : HSt) (g : Int), vs = [.ref p, .int g] ∧ HallAt c.C H p A st ∧ Small g ∧
  match look st.hold g with
  | some m => Q (.int m) H
  | none => Raised c E H (.noguest g)
def spInside (C : Addr) : Sp := fun vs H Q _ => ∃ (p : Addr) (A : HA) (st : HSt) (g : Int), vs = [.ref p, .int g] ∧ HallAt C H p A st ∧ Q (.bl (look st.worn g).isSome) H
def spGuests (C : Addr) : Sp := fun vs H Q _ => ∃ (p : Addr) (A : HA) (st : HSt), vs = [.ref p] ∧ HallAt C H p A st ∧ st.worn.length < 64 ∧ ∀ l, H l = none → Q (.ref l) (upd H l (.lst ((sortI (keysL st.worn)).map V.int)))
def spMet (C : Addr) : Sp := fun vs H Q _ => ∃ (p : Addr) (A : HA) (st : HSt) (a b : Int), vs = [.ref p, .int a, .int b] ∧ HallAt C H p A st ∧ ∀ H', Same H H' → Q (.bl (metC st.circ a b)) H'
def spAcq (C : Addr) : Sp := fun vs H Q _ => ∃ (p : Addr) (A : HA) (st : HSt) (a b : Int), vs = [.ref p, .int a, .int b] ∧ HallAt C H p A st ∧ st.circ.length < 2000 ∧ (∀ x ∈ st.circ, x.2.length < 2000) ∧ ∀ H', Moved C H p A { st with circ := addC st.circ a b } H' → Q .non H'
def spMoment (C : Addr) : Sp := fun vs H Q _ => ∃ (p : Addr) (A : HA) (st : HSt), vs = [.ref p] ∧ HallAt C H p A st ∧ Q (.int st.deeds.length) H
structure HT (K : PySem.W.Frag) (mg : Str → Option Value) (c : HX) : Prop where
  cl : Cls K c.C
  nW : NoAttr K c.C "worn"
  nH : NoAttr K c.C "holders"
  nC : NoAttr K c.C "circles"
  nD : NoAttr K c.C "deeds"
  mC : mg "Hall" = some (.ref c.C)
  eA : OwnExc K c.cA
  eM : OwnExc K c.cM
  eS : OwnExc K c.cS
  eT : OwnExc K c.cT
  mA : mg "AlreadyIn" = some (.ref c.cA)
  mM : mg "Masked" = some (.ref c.cM)
  mS : mg "Same" = some (.ref c.cS)
  mT : mg "Met" = some (.ref c.cT)
  mN : mg "NoGuest" = some (.ref c.cN)
  mW : mg "WaltzError" = some (.ref c.cW)
  eN : excInI K c.cN c.fN = true
  gN : NGc K c.cN "guest"
  tN : PySem.W.typeIn K (.ref c.fN) = some (.type "function")
  wS : PySem.W.specialIn K (.ref c.cW) "__getattribute__" = some (some (.builtin "type.__getattribute__"))
  wR : PySem.W.readsIn K c.cW (.type "type") = true
  wI : PySem.W.findCls K (.ref c.cW) (.type "type") "__init__" = some (.val (.builtin "ValueError.__init__"))
/-- which handler takes which exception -/
structure HM (K : PySem.W.Frag) (c : HX) : Prop where
  aa : PySem.W.exmOne K (.ref c.cA) (.ref c.cA) = some true
  ma : PySem.W.exmOne K (.ref c.cM) (.ref c.cA) = some false
  mm : PySem.W.exmOne K (.ref c.cM) (.ref c.cM) = some true
  sa : PySem.W.exmOne K (.ref c.cS) (.ref c.cA) = some false
  sm : PySem.W.exmOne K (.ref c.cS) (.ref c.cM) = some false
  ss : PySem.W.exmOne K (.ref c.cS) (.ref c.cS) = some true
  ta : PySem.W.exmOne K (.ref c.cT) (.ref c.cA) = some false
  tm : PySem.W.exmOne K (.ref c.cT) (.ref c.cM) = some false
  ts : PySem.W.exmOne K (.ref c.cT) (.ref c.cS) = some false
  tt : PySem.W.exmOne K (.ref c.cT) (.ref c.cT) = some true
  na : PySem.W.exmOne K (.ref c.cN) (.ref c.cA) = some false
  nm : PySem.W.exmOne K (.ref c.cN) (.ref c.cM) = some false
  ns : PySem.W.exmOne K (.ref c.cN) (.ref c.cS) = some false
  nt : PySem.W.exmOne K (.ref c.cN) (.ref c.cT) = some false
  nn : PySem.W.exmOne K (.ref c.cN) (.ref c.cN) = some true
def NGCallee (P : Program) (w : World) (K : PySem.W.Frag) (mg : Str → Option Value) (base : Heap) (c : HX) : Prop := ∃ fd : FuncData, FnOk P w K mg base CX0 1 c.fN fd ["self", "guest"] (spNG c.cN "guest") ∧ Binds K fd ["self", "guest"] []
end Wz

set_option maxRecDepth 100000
set_option maxHeartbeats 4000000
namespace Wz
open PySem L2
section
variable {C : Addr} {H : Hp} {p t : Addr} {A : HA} {st : HSt}
structure Apart (A : HA) : Prop where
  wh : A.w ≠ A.h
  wc : A.w ≠ A.c
  wd : A.w ≠ A.d
  hc : A.h ≠ A.c
  hd : A.h ≠ A.d
  cd : A.c ≠ A.d
  w : A.w ∉ A.cs
  h : A.h ∉ A.cs
  c : A.c ∉ A.cs
  d : A.d ∉ A.cs
  cs : A.cs.Nodup
end
/-! ### circles -/
section
variable {H : Hp}
abbrev CsP (H : Hp) (cs : List Addr) (ci : List (Int × List Int)) : Prop := Paired (fun a (x : Int × List Int) => H a = some (.dK (ksO x.2))) cs ci
end
end Wz
namespace L2
open PySem PySem.Spec PyProof.Rows
def tDSetD (td ty tx : TE) : TE := fun σ H Q => td σ H fun x H1 => ∃ a, x = .ref a ∧ IsD H1 a ∧ ty σ H1 fun y H2 => tx σ H2 fun z H3 => ∃ kvs k, H3 a = some (.dK kvs) ∧ y = kV k ∧ kvs.length < sizeLine ∧
  (∀ v, valV kvs k = some v → Q v H3) ∧ (valV kvs k = none → Q z (upd H3 a (.dK (putK kvs k z))))
end L2

set_option maxRecDepth 100000
set_option maxHeartbeats 4000000
namespace L2
open PySem PySem.Spec PyProof.Rows
/-! ### a set of ints -/
section
variable {X : Cx}
theorem call_set0 : CallR X (.type "set") (fun xs H Q => xs = [] ∧ ∀ p, H p = none → Q (.ref p) (upd H p (.set (fun _ => false) 0))) := by
  intro pins s σ H xs us Q I r h
  obtain ⟨rfl, q⟩ := h
  cases r
  refine call_set_0 fun led => ?_
  refine ⟨.ref s.heap.objs.size, _, I.laid (t' := s.toks) (fun b u e => Heap.get?_push_of_some _ e) (Nat.le_refl _) ?_, rfl, q _ (I.hok.fresh (Nat.le_refl _))⟩
  show Heap.SetOf (intKind X.prog X.w) _ _ _ _
  exact ((intSetOf_fresh led).kind X.prog X.w).setOf (Heap.get?_push_size _ rfl) (by decide)
def rInS (neg : Bool) : R2 := fun x y H Q => ∃ (p : Addr) (S : Int → Bool) (n : Nat) (i : Int), x = .int i ∧ y = .ref p ∧ H p = some (.set S n) ∧ Q (.bl (if neg then !S i else S i)) H
theorem op_notInS : OpR X (compareOp .NotIn) (rInS true) := by
  intro pins s σ H x y v u Q I rx ry h
  obtain ⟨p, S, n, i, rfl, rfl, hp, q⟩ := h
  obtain ⟨t, rfl⟩ := rx
  cases ry
  have hS : s.heap.SetOf (intKind X.prog X.w) p S n := I.hok p _ hp
  exact wpAny_notInSet_of (k := i) (by show Value.isInt i (.int i t) = true; simp [Value.isInt]) rfl hS ⟨.bl (!S i), H, I.tok _, rfl, q⟩
def rAddS : V → List V → Hp → VK → Prop := fun x vs H Q => ∃ (p : Addr) (S : Int → Bool) (n : Nat) (i : Int), x = .ref p ∧ vs = [.int i] ∧ H p = some (.set S n) ∧ n + 1 < 4096 ∧ Q .non (upd H p (.set (fun k => S k || decide (k = i)) (if S i then n else n + 1)))
theorem mt_addS : MtM X "set.add" rAddS := by
  intro pins s σ H x vs v us Q I rx rv h
  obtain ⟨p, S, n, i, rfl, rfl, hp, hn, q⟩ := h
  cases rx
  obtain ⟨u, rfl, ru⟩ := rv.one
  obtain ⟨t, rfl⟩ := ru
  have hS : s.heap.SetOf (intKind X.prog X.w) p S n := I.hok p _ hp
  refine call_set_add (k := i) (by show Value.isInt i (.int i t) = true; simp [Value.isInt]) rfl hS hn fun h' hsb hS' => ?_
  obtain ⟨o, _, _, _, ho, _⟩ := id hS'
  exact ⟨.non, _, I.write (t' := s.toks + 1) (o := .set (fun k => S k || decide (k = i)) (if S i then n else n + 1)) (by rw [hp]; trivial) (.inl rfl) (fun b u hb e => (hsb.2 b hb).trans e) ⟨o, ho⟩ hS', rfl, q⟩
end
end L2

set_option maxRecDepth 100000
set_option maxHeartbeats 4000000
namespace Wz
open PySem L2
theorem hun {A : Around} {k n : Nat} (hr : Room k A) (h : n ≤ 200) : A.units + n < cLine := by have := hr.un; omega
/-! ### words -/
def word : Deed → Str
  | .come _ => "come"
  | .go _ => "go"
  | .exch _ _ => "exchange"
def deedL (d : Deed) : List V := V.str (word d) :: (names d).map V.int
/-! ### what is due -/
def judgeW (w : List (Int × Int)) (m : Int → Int → Bool) : Deed → Out
  | .come g => if (look w g).isSome then .already else .done
  | .go g => match look w g with | none => .noguest g | some x => if x = g then .done else .masked
  | .exch a b => match look w a with
    | none => .noguest a
    | some _ => match look w b with
      | none => .noguest b
      | some _ => if a = b then .same else if m a b then .met else .done
def keyP (a b : Int) : Int × Int := if b < a then (b, a) else (a, b)
def metL (ml : List (Int × Int)) (a b : Int) : Bool := decide (keyP a b ∈ ml)
def mtK (ml : List (Int × Int)) : List (List Key × V) := ml.map fun p => ([Sum.inl p.1, Sum.inl p.2], V.bl true)
def addM (ml : List (Int × Int)) (p : Int × Int) : List (Int × Int) := if p ∈ ml then ml else ml ++ [p]
def outV : Out → List V
  | .done => [.str "done", .non]
  | .already => [.str "AlreadyIn", .non]
  | .masked => [.str "Masked", .non]
  | .same => [.str "Same", .non]
  | .met => [.str "Met", .non]
  | .noguest g => [.str "NoGuest", .int g]
def afterW (w : List (Int × Int)) : Deed → List (Int × Int)
  | .come g => put w g g
  | .go g => dropI w g
  | .exch a b => put (put w a (wr w b)) b (wr w a)
def afterM (ml : List (Int × Int)) : Deed → List (Int × Int)
  | .come _ => ml
  | .go _ => ml
  | .exch a b => addM ml (keyP a b)
def spKey : Sp := fun vs H Q _ => ∃ a b : Int, vs = [.int a, .int b] ∧ ∀ t, H t = none → Q (.ref t) (upd H t (.tup [.int (keyP a b).1, .int (keyP a b).2]))
def spDue : Sp := fun vs H Q _ => ∃ (w m t : Addr) (wl ml : List (Int × Int)) (d : Deed), vs = [.ref w, .ref m, .ref t] ∧ H w = some (.dK (dk wl)) ∧ H m = some (.dT (mtK ml)) ∧ H t = some (deedO d) ∧
  ∀ (r : Addr) (H' : Hp), H r = none → Same H H' → H' r = some (.tup (outV (judgeW wl (metL ml) d))) → Q (.ref r) H'
def spAfter : Sp := fun vs H Q _ => ∃ (w m t : Addr) (wl ml : List (Int × Int)) (d : Deed), vs = [.ref w, .ref m, .ref t] ∧ H w = some (.dK (dk wl)) ∧ H m = some (.dT (mtK ml)) ∧ H t = some (deedO d) ∧ wl.length ≤ 1000 ∧ ml.length ≤ 4000 ∧ judgeW wl (metL ml) d = .done ∧
  ∀ H', H' w = some (.dK (dk (afterW wl d))) → H' m = some (.dT (mtK (afterM ml d))) → (∀ b o, H b = some o → b ≠ w → b ≠ m → H' b = some o) → Q .non H'
/-- what a hall keeps between two deeds -/
structure HGood (st : HSt) : Prop where
  wn : (keysL st.worn).Nodup
  wh : ∀ g m, look st.worn g = some m ↔ look st.hold m = some g
  ow : ∀ g m, look st.worn g = some m → m ∈ keysL st.worn
  sm : ∀ g m, look st.worn g = some m → Small m
  cy : ∀ a b, metC st.circ a b = metC st.circ b a
def nextS (st : HSt) (d : Deed) : HSt := if judge st d = .done then after st d else st
def spDo (c : HX) : Sp := fun vs H Q E => ∃ (p t : Addr) (A : HA) (st : HSt) (d : Deed), vs = [.ref p, .ref t] ∧ H t = some (deedO d) ∧ HallAt c.C H p A st ∧ Fits st ∧ HGood st ∧ (∀ g ∈ names d, Small g) ∧ Does c H p A st d Q E
def spTold (c : HX) : Sp := fun vs H Q _ => ∃ (p t : Addr) (A : HA) (st : HSt) (d : Deed), vs = [.ref p, .ref t] ∧ H t = some (deedO d) ∧ HallAt c.C H p A st ∧ Fits st ∧ HGood st ∧ (∀ g ∈ names d, Small g) ∧
  ∀ (r : Addr) (H' : Hp), H r = none → H' r = some (.tup (outV (judge st d))) → Moved c.C H p A (nextS st d) H' → Q (.ref r) H'
def namesL (m c : Int) : List Int := (List.range m.toNat).map fun (k : Nat) => gst (k : Int) c
def spNames : Sp := fun vs H Q _ => ∃ m c : Int, vs = [.int m, .int c] ∧ (0 ≤ m ∧ m ≤ 1000) ∧ ∀ (l : Addr) (H' : Hp), H l = none → Same H H' → H' l = some (.lst ((namesL m c).map V.int)) → Q (.ref l) H'
def spWholes : Sp := fun vs H Q _ => ∃ (l : Addr) (ns : List Int), vs = [.ref l] ∧ H l = some (.lst (ns.map V.int)) ∧ ns.length ≤ 1000 ∧ ∀ H', Same H H' → Q (.bl true) H'
end Wz

set_option maxRecDepth 100000
set_option maxHeartbeats 4000000
namespace Wz
open PySem L2
/-! ### nested data: lists of ints, outcomes -/
def tupD (xs : List V) : Dt := .sq true (xs.map fun v => .at v)
/-! ### a new hall -/
def HMk (P : Program) (w : World) (K : PySem.W.Frag) (mg : Str → Option Value) (base : Heap) (c : HX) : Prop := ∃ (fI : Addr) (fd : FuncData), Mk K c.C fI ∧ FnOk P w K mg base CX0 1 fI fd ["self"] (spNew c.C) ∧ Binds K fd ["self"] []
end Wz

set_option maxRecDepth 100000
set_option maxHeartbeats 4000000
namespace Wz
open PySem L2
/-- a hall at work: H0 is the heap at the law's entry -/
structure Ev (c : HX) (H0 H : Hp) (x : Addr) (B : HA) (st : HSt) : Prop where
  same : Same H0 H
  hall : HallAt c.C H x B st
  good : HGood st
  nfp : ∀ b ∈ B.fp, H0 b = none
/-- all guests are of a list of names -/
def Of (L : List Int) (st : HSt) : Prop := (∀ g ∈ keysL st.worn, g ∈ L) ∧ (∀ g ∈ keysL st.hold, g ∈ L) ∧ (keysL st.hold).Nodup
end Wz
namespace Wz
open PySem L2
def outW : Out → Str
  | .done => "done"
  | .already => "AlreadyIn"
  | .masked => "Masked"
  | .same => "Same"
  | .met => "Met"
  | .noguest _ => "NoGuest"
end Wz
namespace Wz
open PySem L2
def spDeed1 : Sp := fun vs H Q _ => ∃ dr m c : Int, vs = [.int dr, .int m, .int c] ∧ (0 ≤ dr ∧ dr ≤ 100000) ∧ (2 ≤ m ∧ m ≤ 40) ∧ ∀ (t : Addr) (d : Deed), H t = none → (∀ g ∈ names d, g ∈ namesL 40 c) → Q (.ref t) (upd H t (deedO d))
def spCrowd : Sp := fun vs H Q _ => ∃ c : Int, vs = [.int c] ∧ ∀ m : Int, 2 ≤ m ∧ m ≤ 40 → Q (.int m) H
def spDeeds (K : PySem.W.Frag) : Sp := fun vs H Q _ => ∃ (a : Addr) (ns : List Int), vs = [.ref a] ∧ SqL K H a (ns.map V.int) ∧
  ∀ (l : Addr) (H' : Hp) (ds : List Deed), H l = none → Same H H' → DeedsAt H' l ds → (∀ d ∈ ds, ∀ g ∈ names d, g ∈ namesL 40 (cellAt ns 1)) → ds.length ≤ 88 → Q (.ref l) H'
end Wz
namespace Wz
open PySem L2
end Wz

set_option maxRecDepth 100000
set_option maxHeartbeats 4000000
namespace Wz
open PySem L2
def spStory (C : Addr) : Sp := fun vs H Q _ => ∃ (p : Addr) (A : HA) (st : HSt), vs = [.ref p] ∧ HallAt C H p A st ∧ ∀ (l : Addr) (H' : Hp), H l = none → Same H H' → DeedsAt H' l st.deeds → Q (.ref l) H'
/-- the hall's circles and the law's met say the same -/
def Alike (st : HSt) (ml : List (Int × Int)) : Prop := ∀ a b, metC st.circ a b = metL ml a b
def nextM (st : HSt) (ml : List (Int × Int)) (d : Deed) : List (Int × Int) := if judge st d = .done then afterM ml d else ml
/-- sizes behind n deeds -/
structure Sz (n : Nat) (st : HSt) : Prop where
  c : st.circ.length ≤ 2 * n
  k : ∀ x ∈ st.circ, x.2.length ≤ 2 * n
  d : st.deeds.length ≤ n
/-! ### lists of deeds -/
def dsD (ds : List Deed) : Dt := .sq false (ds.map fun d => tupD (deedL d))
end Wz
namespace Wz
open PySem L2
/-- the law's own model beside the hall -/
structure Mdl (H0 H : Hp) (B : HA) (w m ls : Addr) (st : HSt) (ml : List (Int × Int)) : Prop where
  hw : H w = some (.dK (dk st.worn))
  hm : H m = some (.dT (mtK ml))
  hs : DeedsAt H ls st.deeds
  al : Alike st ml
  wB : w ∉ B.fp
  mB : m ∉ B.fp
  sB : ls ∉ B.fp
  w0 : H0 w = none
  m0 : H0 m = none
  s0 : H0 ls = none
end Wz
namespace Wz
open PySem L2
end Wz

set_option maxRecDepth 100000
set_option maxHeartbeats 4000000
namespace L2
open PySem PySem.Spec PyProof.Rows
/-! ### try: any suite -/
def Cx.tried (X : Cx) (pins : List (Addr × Obj)) (E : Value → Shared → Prop) : Cx := { X with xe := E, pn := X.pn ++ pins }
def Xe (X : Cx) (pins : List (Addr × Obj)) (E : XK) (e : Value) (s' : Shared) : Prop := ∃ (σ : St) (H : Hp) (ea C : Addr) (od : Option Addr) (B : Heap), e = .ref ea ∧ Land X pins σ H ea C od B s' ∧ FlyD B X.stack ea (.ref C) od s'.heap ∧ σ.length = X.N.length ∧ E (.ref C) od H
/-! ### for k in d -/
/-- the keys of the dict at d, which is known to the object while it is walked -/
def Itd (d : Addr) (o : Obj) (kvs : List (Key × V)) : It :=
  ⟨fun i H => H d = some (.frz o (.dK kvs)) ∧ i < kvs.length, fun i H x H' => H' = H ∧ ∃ p, kvs[i]? = some p ∧ x = kV p.1, fun i H => H d = some (.frz o (.dK kvs)) ∧ kvs.length ≤ i⟩
def iDict (tl : TE) : TI := fun σ H R => tl σ H fun x H1 => ∃ d kvs, x = .ref d ∧ H1 d = some (.dK kvs) ∧ ∀ o : Obj, R (Itd d o kvs) (upd H1 d (.frz o (.dK kvs)))
/-- x != y, of scalars or of data -/
def rNeA (K : PySem.W.Frag) (n : Nat) : R2 := fun x y H Q => rNe x y H Q ∨ rEqD K n true x y H Q
end L2

set_option maxRecDepth 100000
set_option maxHeartbeats 4000000
namespace Wz
open PySem L2
/-! ### an evening told again -/
def stOf (ds : List Deed) : HSt := ds.foldl after ⟨[], [], [], []⟩
def DoneAll (ds : List Deed) : Prop := ∀ i d, ds[i]? = some d → judge (stOf (ds.take i)) d = .done
/-- a state as an evening of done deeds leaves it, and the law's pairs beside -/
structure Eve (L : List Int) (n : Nat) (st : HSt) (ml : List (Int × Int)) : Prop where
  good : HGood st
  of : Of L st
  sz : Sz n st
  mn : ml.length ≤ n
  al : Alike st ml
  eq : st = stOf st.deeds
  dn : DoneAll st.deeds
  nm : ∀ d ∈ st.deeds, ∀ g ∈ names d, g ∈ L
/-- the law's model alone -/
structure MdE (H0 H : Hp) (w m ls : Addr) (st : HSt) (ml : List (Int × Int)) : Prop where
  hw : H w = some (.dK (dk st.worn))
  hm : H m = some (.dT (mtK ml))
  hs : DeedsAt H ls st.deeds
  w0 : H0 w = none
  m0 : H0 m = none
  s0 : H0 ls = none
def spEvening (K : PySem.W.Frag) : Sp := fun vs H Q _ => ∃ (a : Addr) (ns : List Int), vs = [.ref a] ∧ SqL K H a (ns.map V.int) ∧
  ∀ (t w m ls : Addr) (H' : Hp) (st : HSt) (ml : List (Int × Int)), Same H H' → H' t = some (.tup [.ref w, .ref m, .ref ls]) → MdE H H' w m ls st ml → Eve (namesL 40 (cellAt ns 1)) 88 st ml → Q (.ref t) H'
def spHallOf (c : HX) : Sp := fun vs H Q _ => ∃ (l : Addr) (ds : List Deed) (L : List Int), vs = [.ref l] ∧ DeedsAt H l ds ∧ DoneAll ds ∧ ds.length ≤ 88 ∧ L.length ≤ 100 ∧ (∀ d ∈ ds, ∀ g ∈ names d, g ∈ L ∧ Small g) ∧
  ∀ (x : Addr) (B : HA) (H' : Hp), H x = none → Ev c H H' x B (stOf ds) → Q (.ref x) H'
def spAsked (c : HX) : Sp := fun vs H Q _ => ∃ (p : Addr) (A : HA) (st : HSt) (g : Int) (b : Bool), vs = [.ref p, .int g, .bl b] ∧ HallAt c.C H p A st ∧ Small g ∧
  match look (if b then st.hold else st.worn) g with
  | some m => Q (.int m) H
  | none => ∀ r H', H r = none → Same H H' → H' r = some (.tup [.str "NoGuest", .int g]) → Q (.ref r) H'
/-! ### who wears a mask -/
def holdOf (wl : List (Int × Int)) : List (Int × Int) := wl.foldl (fun h p => put h p.2 p.1) []
end Wz

set_option maxRecDepth 100000
set_option maxHeartbeats 4000000
namespace L2
open PySem PySem.Spec PyProof.Rows
/-- for i, x in enumerate(l) -/
def Ite (K : PySem.W.Frag) (l : Addr) : It :=
  ⟨fun i H => ∃ xs x, SqL K H l xs ∧ xs[i]? = some x, fun i H y H' => ∃ T x, H T = none ∧ y = .ref T ∧ H' = upd H T (.tup [.int i, x]) ∧ ∀ xs, SqL K H l xs → xs[i]? = some x, fun i H => ∃ xs, SqL K H l xs ∧ xs.length ≤ i⟩
def iEnum (K : PySem.W.Frag) (t : TA) : TI := fun σ H R => t σ H fun vs H1 => ∃ l, vs = [.ref l] ∧ (∃ xs, SqL K H1 l xs) ∧ R (Ite K l) H1
/-! ### set(l), len(s) -/
end L2

set_option maxRecDepth 100000
set_option maxHeartbeats 4000000
namespace Wz
open PySem L2
def spOneEach (c : HX) : Sp := fun vs H Q _ => ∃ (H0 : Hp) (p : Addr) (A : HA) (st : HSt), vs = [.ref p] ∧ Ev c H0 H p A st ∧ Fits st ∧ st.worn.length ≤ 40 ∧ (∀ g ∈ keysL st.worn, Small g) ∧
  ∀ (A' : HA) (H' : Hp), Ev c H0 H' p A' st → (∀ y o, H y = some o → y ∉ A.fp → H' y = some o ∧ y ∉ A'.fp) → Q (.bl true) H'
end Wz

set_option maxRecDepth 100000
set_option maxHeartbeats 4000000
namespace L2
open PySem PySem.Spec PyProof.Rows
/-! ### a list comprehension with two clauses -/
section
variable {prog : Program} {w : World} {A : Around} {R : Result → Shared → Prop} {s : Shared} {elt t0 i0 t1 i1 : Expr} {c0 c1 : List Expr} {scope : Scope} {pos : Pos} {it acc : Value} {env : Env}
end
def tbC2 (tt0 : TT) (wi1 : TI) (g1 : TG) (tt1 : TT) (te : TE) (a : Addr) : TS := fun D σ H => tt0 σ H fun b H1 => if b = true then wi1 σ H1 fun J1 H2 => LoopF J1 g1 (tbC tt1 te a) { nx := D.nx, rt := fun _ _ => False } σ H2 else D.nx σ H1
def tComp2 (wi : TI) (g0 : TG) (tt0 : TT) (wi1 : TI) (g1 : TG) (tt1 : TT) (te : TE) (src : List (Option Nat)) : TE := fun σ H Q => wi σ H fun J H1 => ∀ a, H1 a = none →
  LoopF J g0 (tbC2 tt0 wi1 g1 tt1 te a) { nx := fun _ H' => Q (.ref a) H', rt := fun _ _ => False } (compSt src σ) (upd H1 a (.lst []))
end L2

set_option maxRecDepth 100000
set_option maxHeartbeats 4000000
namespace Qs
open PySem PySem.W PyProof.Rows
/-! ### the sort by questions, over an order in which no two are alike -/
structure Lin (n : Nat) (lt : Nat → Nat → Bool) : Prop where
  irr : ∀ i, lt i i = false
  tot : ∀ i j, i < n → j < n → i ≠ j → lt i j = true ∨ lt j i = true
  tr : ∀ i j k, lt i j = true → lt j k = true → lt i k = true
def ask {α : Type} (lt : Nat → Nat → Bool) : KasT α → α
  | .ret a => a
  | .ask i j k => ask lt (k (lt i j))
/-- all that is asked on the way lies below n -/
def Okk {α : Type} (n : Nat) (lt : Nat → Nat → Bool) : KasT α → Prop
  | .ret _ => True
  | .ask i j k => i < n ∧ j < n ∧ Okk n lt (k (lt i j))
def Run {α : Type} (n : Nat) (lt : Nat → Nat → Bool) (t : KasT α) (R : α → Prop) : Prop := Okk n lt t ∧ R (ask lt t)
section
variable {n : Nat} {lt : Nat → Nat → Bool} {p : Array Nat}
def Pm (n : Nat) (p : Array Nat) : Prop := p.Perm (List.toArray (List.range n))
def Up (lt : Nat → Nat → Bool) (p : Array Nat) (k : Nat) : Prop := ∀ i j, i < j → j < k → lt (p.getD i 0) (p.getD j 0) = true
def Dn (lt : Nat → Nat → Bool) (p : Array Nat) (k : Nat) : Prop := ∀ i j, i < j → j < k → lt (p.getD j 0) (p.getD i 0) = true
end
end Qs

set_option maxRecDepth 100000
set_option maxHeartbeats 4000000
namespace Qs
open PySem PySem.W PyProof.Rows
/-! ### pairs of ints, in order -/
def ltP (p q : Int × Int) : Bool := decide (p.1 < q.1 ∨ (p.1 = q.1 ∧ p.2 < q.2))
def ltIx (ps : List (Int × Int)) (i j : Nat) : Bool := ltP (ps.getD i (0, 0)) (ps.getD j (0, 0))
/-- a value is a tuple of two ints -/
def PairAt (h : Heap) (v : Value) (p : Int × Int) : Prop := ∃ (b : Addr) (o : Obj) (n : Nat) (t u : Tok), v = .ref b ∧ h.get? b = some o ∧ o.cls = .type "tuple" ∧ o.data = .seq #[.int p.1 t, .int p.2 u] n
section
variable {prog : Program} {w : World} {A : Around} {E : Value → Shared → Prop} {s : Shared}
/-- what comes out -/
def Sorted (vs : List Value) (ps : List (Int × Int)) (out : List Value) : Prop := ∃ ix : List Nat, ix.Perm (List.range vs.length) ∧ out = ix.map (fun i => vs.getD i Value.none) ∧ (ix.map fun i => ps.getD i (0, 0)).Pairwise (fun a b => ltP a b = true)
end
end Qs

set_option maxRecDepth 100000
set_option maxHeartbeats 4000000
namespace Qs
open PySem PySem.W PyProof.Rows
section
variable {prog : Program} {w : World} {A : Around} {E : Value → Shared → Prop} {s : Shared}
end
end Qs

set_option maxRecDepth 100000
set_option maxHeartbeats 4000000
namespace Qs
open PySem PySem.W PyProof.Rows
/-- a dict as it lies, whatever its keys are -/
def RawAt (h : Heap) (d : Addr) (es : Array DictEntry) (ep : Nat) : Prop := ∃ o, h.get? d = some o ∧ o.ExactDict ∧ o.data = .dict es ep
section
variable {prog : Program} {w : World} {A : Around} {E : Value → Shared → Prop} {s : Shared} {d it : Addr} {es : Array DictEntry} {ep i : Nat}
end
end Qs

set_option maxRecDepth 100000
set_option maxHeartbeats 4000000
namespace Wz
open PySem PySem.Spec PyProof.Rows L2
end Wz

set_option maxRecDepth 100000
set_option maxHeartbeats 4000000
namespace L2
open PySem PySem.Spec PyProof.Rows
/-- behind a statement a walked dict is thawed -/
def thawN (H0 : Hp) (nx : St → Hp → Prop) : St → Hp → Prop := fun σ H => ∃ d o u, H d = some (.frz o u) ∧ (∀ o' u', H0 d ≠ some (.frz o' u')) ∧ nx σ (upd H d u)
end L2
namespace Wz
open PySem L2
/-! ### circles hold names, once each -/
structure Cir (L : List Int) (st : HSt) : Prop where
  kn : (st.circ.map (·.1)).Nodup
  kl : ∀ x ∈ st.circ, x.1 ∈ L ∧ x.2.Nodup ∧ ∀ b ∈ x.2, b ∈ L
/-! ### pairs -/
def matesL (ci : List (Int × List Int)) (a : Int) : List (Int × Int) := ((sortI (cOf ci a)).filter fun b => decide (a < b)).map fun b => (a, b)
def pairsL (ci : List (Int × List Int)) : List (Int × Int) := (sortI (ci.map (·.1))).flatMap (matesL ci)
/-- the law's pairs: the lesser guest first, once each -/
structure MlOk (ml : List (Int × Int)) : Prop where
  nd : ml.Nodup
  lo : ∀ p ∈ ml, p.1 < p.2
def spPartners (C : Addr) : Sp := fun vs H Q _ => ∃ (p : Addr) (A : HA) (st : HSt) (g : Int), vs = [.ref p, .int g] ∧ HallAt C H p A st ∧ (cOf st.circ g).length < 64 ∧ ∀ (l : Addr) (H' : Hp), H l = none → Same H H' → H' l = some (.lst ((sortI (cOf st.circ g)).map V.int)) → Q (.ref l) H'
def spHPairs (C : Addr) : Sp := fun vs H Q _ => ∃ (p : Addr) (A : HA) (st : HSt) (L : List Int), vs = [.ref p] ∧ HallAt C H p A st ∧ Cir L st ∧ L.length < 64 ∧ (pairsL st.circ).length ≤ 1000 ∧ ∀ (l : Addr) (H' : Hp), H l = none → Same H H' → RowAt H' l (pairsL st.circ) → Q (.ref l) H'
end Wz

set_option maxRecDepth 100000
set_option maxHeartbeats 4000000
namespace L2
open PySem PySem.Spec PyProof.Rows
def rIsB (neg : Bool) : R2 := fun x y H Q => ∃ a b : Bool, x = .bl a ∧ y = .bl b ∧ Q (.bl (if neg then !decide (a = b) else decide (a = b))) H
end L2
namespace Wz
open PySem L2
def spStands (c : HX) : Sp := fun vs H Q _ => ∃ (p w m ls : Addr) (A : HA) (st : HSt) (ml : List (Int × Int)) (L : List Int), vs = [.ref p, .ref w, .ref m, .ref ls] ∧ HallAt c.C H p A st ∧ w ∉ A.fp ∧ H w = some (.dK (dk st.worn)) ∧ H m = some (.dT (mtK ml)) ∧ DeedsAt H ls st.deeds ∧
  HGood st ∧ Alike st ml ∧ Cir L st ∧ MlOk ml ∧ L.length < 64 ∧ ml.length < 64 ∧ st.worn.length < 64 ∧ (∀ g ∈ keysL st.worn, Small g) ∧ ∀ H', Same H H' → Q (.bl true) H'
end Wz

set_option maxRecDepth 100000
set_option maxHeartbeats 4000000
namespace L2
open PySem PySem.Spec PyProof.Rows
/-! ### for a, b in d: keys that are tuples -/
def Itdt (d : Addr) (o : Obj) (kvs : List (List Key × V)) : It :=
  ⟨fun i H => H d = some (.frz o (.dT kvs)) ∧ i < kvs.length, fun i H x H' => H' = H ∧ ∃ p b, kvs[i]? = some p ∧ x = .ref b ∧ H b = some (.tup (p.1.map kV)), fun i H => H d = some (.frz o (.dT kvs)) ∧ kvs.length ≤ i⟩
def iDictT (tl : TE) : TI := fun σ H R => tl σ H fun x H1 => ∃ d kvs, x = .ref d ∧ H1 d = some (.dT kvs) ∧ ∀ o : Obj, R (Itdt d o kvs) (upd H1 d (.frz o (.dT kvs)))
end L2
namespace Wz
open PySem L2
def mateOf (g : Int) (p : Int × Int) : Option Int := if p.1 = g then some p.2 else if p.2 = g then some p.1 else none
def matesM (ml : List (Int × Int)) (g : Int) : List Int := ml.filterMap (mateOf g)
def spLPartners : Sp := fun vs H Q _ => ∃ (g : Int) (m : Addr) (ml : List (Int × Int)), vs = [.int g, .ref m] ∧ H m = some (.dT (mtK ml)) ∧ ml.length < 64 ∧ ∀ (l : Addr) (H' : Hp), H l = none → Same H H' → H' l = some (.lst ((sortI (matesM ml g)).map V.int)) → Q (.ref l) H'
def spAllAsked (c : HX) : Sp := fun vs H Q _ => ∃ (p w m ls ln : Addr) (A : HA) (st : HSt) (ml : List (Int × Int)) (L ns : List Int), vs = [.ref p, .ref w, .ref m, .ref ls, .ref ln] ∧ HallAt c.C H p A st ∧ w ∉ A.fp ∧ H w = some (.dK (dk st.worn)) ∧ H m = some (.dT (mtK ml)) ∧ DeedsAt H ls st.deeds ∧
  HGood st ∧ Alike st ml ∧ Cir L st ∧ MlOk ml ∧ L.length < 64 ∧ ml.length < 64 ∧ st.worn.length < 64 ∧ (∀ g ∈ keysL st.worn, Small g) ∧ H ln = some (.lst (ns.map V.int)) ∧ ∀ H', Same H H' → Q (.bl true) H'
def isEx : Deed → Bool
  | .exch _ _ => true
  | _ => false
def spDeeds2 (K : PySem.W.Frag) : Sp := fun vs H Q _ => ∃ (a : Addr) (ns : List Int), vs = [.ref a] ∧ SqL K H a (ns.map V.int) ∧
  ∀ (l : Addr) (H' : Hp) (ds : List Deed), H l = none → Same H H' → DeedsAt H' l ds → (∀ d ∈ ds, ∀ g ∈ names d, g ∈ namesL 40 (cellAt ns 1)) → ds.length ≤ 88 → (ds.filter isEx).length ≤ 48 → Q (.ref l) H'
end Wz

set_option maxRecDepth 100000
set_option maxHeartbeats 4000000
namespace L2
open PySem PySem.Spec PyProof.Rows
end L2
namespace Wz
open PySem L2
def mlOf (ds : List Deed) : List (Int × Int) := ds.foldl afterM []
structure Pre (L : List Int) (ds : List Deed) : Prop where
  good : HGood (stOf ds)
  of : Of L (stOf ds)
  sz : Sz ds.length (stOf ds)
  al : Alike (stOf ds) (mlOf ds)
  ci : Cir L (stOf ds)
  mo : MlOk (mlOf ds)
  ml : (mlOf ds).length ≤ (ds.filter isEx).length
def spEvening2 (K : PySem.W.Frag) : Sp := fun vs H Q _ => ∃ (a : Addr) (ns : List Int), vs = [.ref a] ∧ SqL K H a (ns.map V.int) ∧
  ∀ (t w m ls : Addr) (H' : Hp) (es : List Deed), Same H H' → H' t = some (.tup [.ref w, .ref m, .ref ls]) → MdE H H' w m ls (stOf es) (mlOf es) → DoneAll es → (∀ d ∈ es, ∀ g ∈ names d, g ∈ namesL 40 (cellAt ns 1)) → es.length ≤ 88 → (es.filter isEx).length ≤ 48 → Q (.ref t) H'
def spMetAlike (c : HX) : Sp := fun vs H Q _ => ∃ (p m ln : Addr) (A : HA) (st : HSt) (ml : List (Int × Int)) (L : List Int) (n0 : Int) (ns : List Int), vs = [.ref p, .ref m, .ref ln] ∧ HallAt c.C H p A st ∧ H m = some (.dT (mtK ml)) ∧
  Alike st ml ∧ Cir L st ∧ MlOk ml ∧ L.length < 64 ∧ ml.length < 64 ∧ H ln = some (.lst ((n0 :: ns).map V.int)) ∧ ∀ H', Same H H' → Q (.bl true) H'
end Wz

set_option maxRecDepth 100000
set_option maxHeartbeats 4000000
namespace L2
open PySem PySem.Spec PyProof.Rows
end L2
namespace Wz
open PySem L2
theorem gst_inj {i j c : Int} (hi : 0 ≤ i ∧ i < 100) (hj : 0 ≤ j ∧ j < 100) (h : gst i c = gst j c) : i = j := by
  have ht0 : 0 ≤ absI c * 1234567891 % 2147483646 := Int.emod_nonneg _ (by decide)
  have ht1 : absI c * 1234567891 % 2147483646 < 2147483646 := Int.emod_lt_of_pos _ (by decide)
  unfold gst at h
  dsimp only at h
  generalize absI c * 1234567891 % 2147483646 = t0 at *
  generalize absI c / 2147483646 = q at *
  have h2 : (i * (1 + t0) + q) % 2147483647 = (j * (1 + t0) + q) % 2147483647 := by
    by_cases e : absI c % 5 = 4
    · rw [if_pos e, if_pos e] at h; omega
    · rw [if_neg e, if_neg e] at h; exact h
  have h3 : (2147483647 : Int) ∣ (i - j) * (1 + t0) := by
    have h5 := Int.dvd_of_emod_eq_zero (Int.emod_eq_emod_iff_emod_sub_eq_zero.mp h2)
    have e : i * (1 + t0) + q - (j * (1 + t0) + q) = (i - j) * (1 + t0) := by rw [Int.sub_mul]; omega
    rw [e] at h5
    exact h5
  have key : ∀ d : Nat, d < 100 → d ≠ 0 → Nat.gcd 2147483647 d = 1 := by decide +kernel
  by_cases hij : i = j
  · exact hij
  exfalso
  have h6 : 2147483647 ∣ (i - j).natAbs * (1 + t0).natAbs := by
    have := Int.natAbs_dvd_natAbs.mpr h3
    rw [Int.natAbs_mul] at this
    exact this
  have h7 : 2147483647 ∣ (1 + t0).natAbs := Nat.Coprime.dvd_of_dvd_mul_left (key _ (by omega) (by omega)) h6
  have := Nat.le_of_dvd (by omega) h7
  omega
/-! ### all come, then a quadrille, then the four go -/
def comesL (n : Nat) (c : Int) : List Deed := (List.range n).map fun (k : Nat) => .come (gst (k : Int) c)
def firstN (n : Nat) (c : Int) : List Int := (List.range n).map fun (k : Nat) => gst (k : Int) c
def quadP (a b c d : Int) : List (Int × Int) := [(a, d), (b, c), (a, b), (c, d), (b, d), (a, c)]
def quadD (a b c d : Int) : List Deed := (quadP a b c d).map fun p => .exch p.1 p.2
/-! ### the law's books beside the hall, each by itself -/
structure Md3 (H0 H : Hp) (B : HA) (w m ls : Addr) (wl ml : List (Int × Int)) (ds : List Deed) : Prop where
  hw : H w = some (.dK (dk wl))
  hm : H m = some (.dT (mtK ml))
  hs : DeedsAt H ls ds
  wB : w ∉ B.fp
  mB : m ∉ B.fp
  sB : ls ∉ B.fp
  w0 : H0 w = none
  m0 : H0 m = none
  s0 : H0 ls = none
end Wz

set_option maxRecDepth 100000
set_option maxHeartbeats 4000000
namespace Wz
open PySem L2
/-! ### newcomers -/
def spIsNew (c : HX) : Sp := fun vs H Q E => ∃ (p : Addr) (A : HA) (st : HSt) (g : Int), vs = [.ref p, .int g] ∧ HallAt c.C H p A st ∧ Small g ∧ (cOf st.circ g).length < 64 ∧
  (if (look st.worn g).isSome = true then ∀ H', Same H H' → Q (.bl (decide (cOf st.circ g = []))) H' else ∀ dx H', Same H H' → H' dx = some (.xd [("guest", .int g)]) → E (.ref c.cN) (some dx) H')
def spNewG : Sp := fun vs H Q _ => ∃ k c : Int, vs = [.int k, .int c] ∧ (0 ≤ k ∧ k ≤ 1000) ∧ Q (.int (gst (60 + k) c)) H
def spNewAsked (c : HX) : Sp := fun vs H Q _ => ∃ (p : Addr) (A : HA) (st : HSt) (g : Int), vs = [.ref p, .int g] ∧ HallAt c.C H p A st ∧ Small g ∧ (cOf st.circ g).length < 64 ∧
  (if (look st.worn g).isSome = true then ∀ H', Same H H' → Q (.bl (decide (cOf st.circ g = []))) H' else ∀ r H', H r = none → Same H H' → H' r = some (.tup [.str "NoGuest", .int g]) → Q (.ref r) H')
def spAllNew (c : HX) : Sp := fun vs H Q _ => ∃ (p w m : Addr) (A : HA) (st : HSt) (ml : List (Int × Int)) (L : List Int) (n : Int), vs = [.ref p, .ref w, .ref m, .int n] ∧ HallAt c.C H p A st ∧ H w = some (.dK (dk st.worn)) ∧ H m = some (.dT (mtK ml)) ∧
  Alike st ml ∧ Cir L st ∧ MlOk ml ∧ L.length < 64 ∧ ml.length < 64 ∧ ∀ H', Same H H' → Q (.bl true) H'
def spMore : Sp := fun vs H Q _ => ∃ (t ld w m ls : Addr) (H0 : Hp) (es ds : List Deed) (L : List Int), vs = [.ref t, .ref ld] ∧ H t = some (.tup [.ref w, .ref m, .ref ls]) ∧ MdE H0 H w m ls (stOf es) (mlOf es) ∧ DeedsAt H ld ds ∧ ld ≠ ls ∧ DoneAll (es ++ ds) ∧ L.length ≤ 100 ∧ (∀ d ∈ es ++ ds, ∀ g ∈ names d, g ∈ L ∧ Small g) ∧ (es ++ ds).length ≤ 300 ∧
  ∀ H', MdE H0 H' w m ls (stOf (es ++ ds)) (mlOf (es ++ ds)) → (∀ b o, H b = some o → b ≠ w → b ≠ m → b ≠ ls → H' b = some o) → Q (.ref t) H'
def spHallOf2 (c : HX) : Sp := fun vs H Q _ => ∃ (l : Addr) (ds : List Deed) (L : List Int), vs = [.ref l] ∧ DeedsAt H l ds ∧ DoneAll ds ∧ ds.length ≤ 300 ∧ L.length ≤ 100 ∧ (∀ d ∈ ds, ∀ g ∈ names d, g ∈ L ∧ Small g) ∧
  ∀ (x : Addr) (B : HA) (H' : Hp), H x = none → Ev c H H' x B (stOf ds) → Q (.ref x) H'
/-- an evening, and two newcomers behind it -/
structure Rdy (n : Int) (es : List Deed) : Prop where
  dn : DoneAll es
  nm : ∀ d ∈ es, ∀ g ∈ names d, g ∈ namesL 62 n ∧ Small g
  len : es.length ≤ 92
  ex : (es.filter isEx).length ≤ 48
  l0 : look (stOf es).worn (gst 60 n) = some (gst 60 n)
  l1 : look (stOf es).worn (gst 61 n) = some (gst 61 n)
  m1 : ∀ x, metC (stOf es).circ x (gst 61 n) = false
def spReady (K : PySem.W.Frag) : Sp := fun vs H Q _ => ∃ (a : Addr) (ns : List Int), vs = [.ref a] ∧ SqL K H a (ns.map V.int) ∧
  ∀ (t w m ls : Addr) (H' : Hp) (es : List Deed), Same H H' → H' t = some (.tup [.ref w, .ref m, .ref ls]) → MdE H H' w m ls (stOf es) (mlOf es) → Rdy (cellAt ns 1) es → Q (.ref t) H'
end Wz

set_option maxRecDepth 100000
set_option maxHeartbeats 4000000
namespace Wz
open PySem L2
/-! ### the mathematics of rings: what is worn is a permutation of the keys -/
def Inj (f : Int → Int) : Prop := ∀ a b, f a = f b → a = b
theorem inj_id : Inj id := fun _ _ h => h
theorem inj_swap {f : Int → Int} (h : Inj f) (p : Int × Int) : Inj (swapF f p) := by
  intro a b e
  unfold swapF at e
  by_cases a2 : a = p.2
  · by_cases b2 : b = p.2
    · rw [a2, b2]
    · rw [if_pos a2, if_neg b2] at e
      by_cases b1 : b = p.1
      · rw [if_pos b1] at e
        have := h _ _ e
        rw [a2, b1, this]
      · rw [if_neg b1] at e
        exact absurd (h _ _ e).symm b1
  · rw [if_neg a2] at e
    by_cases b2 : b = p.2
    · rw [if_pos b2] at e
      by_cases a1 : a = p.1
      · rw [if_pos a1] at e
        have := h _ _ e
        rw [a1, b2, this]
      · rw [if_neg a1] at e
        exact absurd (h _ _ e) a1
    · rw [if_neg b2] at e
      by_cases a1 : a = p.1
      · rw [if_pos a1] at e
        by_cases b1 : b = p.1
        · rw [a1, b1]
        · rw [if_neg b1] at e
          exact absurd (h _ _ e).symm b2
      · rw [if_neg a1] at e
        by_cases b1 : b = p.1
        · rw [if_pos b1] at e
          exact absurd (h _ _ e) a2
        · rw [if_neg b1] at e
          exact h _ _ e
theorem inj_fold : ∀ (ps : List (Int × Int)) {f : Int → Int}, Inj f → Inj (ps.foldl swapF f)
  | [], _, h => h
  | p :: r, _, h => inj_fold r (inj_swap h p)
theorem inj_worn (ps : List (Int × Int)) : Inj (wr (wornL ps)) := by
  unfold wornL
  rw [wr_paper, wr_nil]
  exact inj_fold ps inj_id
theorem wr_out {w : List (Int × Int)} {g : Int} (h : g ∉ keysL w) : wr w g = g := by
  unfold wr
  cases e : look w g with
  | none => rfl
  | some m => exact absurd (look_mem.mp (by rw [e]; rfl)) h
theorem wr_keys {w : List (Int × Int)} (hi : Inj (wr w)) {g : Int} (h : g ∈ keysL w) : wr w g ∈ keysL w := by
  by_cases hk : wr w g ∈ keysL w
  · exact hk
  · have e := hi _ _ (wr_out hk)
    rw [e] at hk
    exact absurd h hk
/-! ### going round -/
def iter (f : Int → Int) : Nat → Int → Int
  | 0, g => g
  | n + 1, g => f (iter f n g)
theorem iter_add (f : Int → Int) (m : Nat) : ∀ (n : Nat) (g : Int), iter f (n + m) g = iter f n (iter f m g)
  | 0, _ => by rw [Nat.zero_add]; rfl
  | n + 1, g => by
    rw [Nat.add_right_comm]
    show f (iter f (n + m) g) = f (iter f n (iter f m g))
    rw [iter_add f m n g]
theorem iter_inj {f : Int → Int} (h : Inj f) : ∀ (n : Nat) {a b : Int}, iter f n a = iter f n b → a = b
  | 0, _, _, e => e
  | n + 1, _, _, e => iter_inj h n (h _ _ e)
theorem iter_in {f : Int → Int} {ks : List Int} (hk : ∀ g ∈ ks, f g ∈ ks) {g : Int} (hg : g ∈ ks) : ∀ n, iter f n g ∈ ks
  | 0 => hg
  | n + 1 => hk _ (iter_in hk hg n)
theorem not_nodup : ∀ {l : List Int}, ¬ l.Nodup → ∃ i j : Nat, i < j ∧ ∃ x, l[i]? = some x ∧ l[j]? = some x
  | [], h => absurd List.nodup_nil h
  | a :: r, h => by
    by_cases ha : a ∈ r
    · obtain ⟨n, hn, e⟩ := List.getElem_of_mem ha
      exact ⟨0, n + 1, Nat.succ_pos _, a, rfl, by rw [List.getElem?_cons_succ, List.getElem?_eq_getElem hn, e]⟩
    · have hr : ¬ r.Nodup := fun z => h (List.nodup_cons.mpr ⟨ha, z⟩)
      obtain ⟨i, j, hij, x, e1, e2⟩ := not_nodup hr
      exact ⟨i + 1, j + 1, Nat.succ_lt_succ hij, x, by simpa using e1, by simpa using e2⟩
/-- one comes back within as many steps as there are keys -/
theorem comes_back {f : Int → Int} (hf : Inj f) {ks : List Int} (hk : ∀ g ∈ ks, f g ∈ ks) {g : Int} (hg : g ∈ ks) : ∃ n, 0 < n ∧ n ≤ ks.length ∧ iter f n g = g := by
  have h : ¬ ((List.range (ks.length + 1)).map fun n => iter f n g).Nodup := fun nd => by
    have := nodup_len nd (m := ks) fun x hx => by
      obtain ⟨n, _, rfl⟩ := List.mem_map.mp hx
      exact iter_in hk hg n
    rw [List.length_map, List.length_range] at this
    omega
  obtain ⟨i, j, hij, x, e1, e2⟩ := not_nodup h
  rw [List.getElem?_map] at e1 e2
  have hj : j < ks.length + 1 := by
    have := (List.getElem?_eq_some_iff.mp (show ((List.range (ks.length + 1)).map fun n => iter f n g)[j]? = some x by rw [List.getElem?_map]; exact e2)).1
    simpa using this
  have hi : i < ks.length + 1 := by omega
  rw [List.getElem?_range hi] at e1
  rw [List.getElem?_range hj] at e2
  have e1' : iter f i g = x := Option.some.inj e1
  have e2' : iter f j g = x := Option.some.inj e2
  refine ⟨j - i, by omega, by omega, ?_⟩
  have e3 : iter f (i + (j - i)) g = iter f i g := by rw [show i + (j - i) = j by omega, e2', e1']
  rw [iter_add] at e3
  exact iter_inj hf i e3

/-- the first time that one comes back -/
theorem first_back {f : Int → Int} {g : Int} : ∀ (n : Nat), 0 < n → iter f n g = g → ∃ m, 0 < m ∧ m ≤ n ∧ iter f m g = g ∧ ∀ k, 0 < k → k < m → iter f k g ≠ g := by
  intro n
  induction n using Nat.strongRecOn with
  | _ n ih =>
    intro hn he
    by_cases h : ∃ k, 0 < k ∧ k < n ∧ iter f k g = g
    · obtain ⟨k, k0, kn, ke⟩ := h
      obtain ⟨m, m0, mk, me, mf⟩ := ih k kn k0 ke
      exact ⟨m, m0, by omega, me, mf⟩
    · exact ⟨n, hn, Nat.le_refl _, he, fun k k0 kn ke => h ⟨k, k0, kn, ke⟩⟩
def ringL (f : Int → Int) (g : Int) (m : Nat) : List Int := (List.range m).map fun i => iter f i g
theorem ring_nodup {f : Int → Int} (hf : Inj f) {g : Int} {m : Nat} (hm : ∀ k, 0 < k → k < m → iter f k g ≠ g) : (ringL f g m).Nodup := by
  cases Classical.em (ringL f g m).Nodup with
  | inl h => exact h
  | inr h =>
    obtain ⟨i, j, hij, x, e1, e2⟩ := not_nodup h
    unfold ringL at e1 e2
    have hj : j < m := by
      have := (List.getElem?_eq_some_iff.mp e2).1
      simpa using this
    rw [List.getElem?_map, List.getElem?_range (by omega)] at e1
    rw [List.getElem?_map, List.getElem?_range hj] at e2
    have e1' : iter f i g = x := Option.some.inj e1
    have e2' : iter f j g = x := Option.some.inj e2
    have e3 : iter f (i + (j - i)) g = iter f i g := by rw [show i + (j - i) = j by omega, e2', e1']
    rw [iter_add] at e3
    exact absurd (iter_inj hf i e3) (hm (j - i) (by omega) (by omega))
theorem ring_closed {f : Int → Int} {g : Int} {m : Nat} (hm : 0 < m) (he : iter f m g = g) {x : Int} (hx : x ∈ ringL f g m) : f x ∈ ringL f g m := by
  unfold ringL at hx ⊢
  obtain ⟨i, hi, rfl⟩ := List.mem_map.mp hx
  have hi := List.mem_range.mp hi
  by_cases h : i + 1 < m
  · exact List.mem_map.mpr ⟨i + 1, List.mem_range.mpr h, rfl⟩
  · refine List.mem_map.mpr ⟨0, List.mem_range.mpr hm, ?_⟩
    have : i + 1 = m := by omega
    rw [← this] at he
    exact he.symm
/-- the pairs of a ring, one behind the other, hand each guest of it the next one's mask; the others stay -/
def chainL (f : Int → Int) (g : Int) : Nat → List (Int × Int)
  | 0 => []
  | n + 1 => chainL f g n ++ [(iter f n g, iter f (n + 1) g)]
/-- behind the first n pairs: the first n of the ring wear the next one's mask, the n-th wears the first one's, the others what they wore -/
theorem chain_worn {f h : Int → Int} {g : Int} {m : Nat} (nd : (ringL f g (m + 1)).Nodup) (hid : ∀ i, i ≤ m → h (iter f i g) = iter f i g) :
    ∀ n, n ≤ m → (∀ i, i < n → (chainL f g n).foldl swapF h (iter f i g) = iter f (i + 1) g) ∧ (chainL f g n).foldl swapF h (iter f n g) = g ∧ ∀ x, (∀ i, i ≤ n → x ≠ iter f i g) → (chainL f g n).foldl swapF h x = h x := by
  have apart : ∀ i j, i ≤ m → j ≤ m → iter f i g = iter f j g → i = j := fun i j hi hj e => by
    have e1 : (ringL f g (m + 1))[i]? = some (iter f i g) := by unfold ringL; rw [List.getElem?_map, List.getElem?_range (by omega)]; rfl
    have e2 : (ringL f g (m + 1))[j]? = some (iter f i g) := by unfold ringL; rw [List.getElem?_map, List.getElem?_range (by omega), e]; rfl
    obtain ⟨h1, q1⟩ := List.getElem?_eq_some_iff.mp e1
    obtain ⟨h2, q2⟩ := List.getElem?_eq_some_iff.mp e2
    exact (List.getElem_inj nd).mp (q1.trans q2.symm)
  intro n
  induction n with
  | zero =>
    intro _
    refine ⟨fun i hi => absurd hi (Nat.not_lt_zero _), ?_, fun x _ => rfl⟩
    exact hid 0 (Nat.zero_le _)
  | succ n ih =>
    intro hn
    obtain ⟨i1, i2, i3⟩ := ih (by omega)
    have fold : ∀ x, (chainL f g (n + 1)).foldl swapF h x = swapF ((chainL f g n).foldl swapF h) (iter f n g, iter f (n + 1) g) x := fun x => by
      show (chainL f g n ++ [(iter f n g, iter f (n + 1) g)]).foldl swapF h x = _
      rw [List.foldl_append]; rfl
    have nxt : (chainL f g n).foldl swapF h (iter f (n + 1) g) = iter f (n + 1) g := by
      rw [i3 _ fun i hi e => by have := apart (n + 1) i hn (by omega) e; omega]
      exact hid _ hn
    generalize hF : (chainL f g n).foldl swapF h = F at i1 i2 i3 fold nxt
    refine ⟨fun i hi => ?_, ?_, fun x hx => ?_⟩
    · rw [fold]
      unfold swapF
      dsimp only
      have ne : iter f i g ≠ iter f (n + 1) g := fun e => by have := apart i (n + 1) (by omega) hn e; omega
      rw [if_neg ne]
      by_cases hin : i = n
      · subst hin; rw [if_pos rfl, nxt]
      · rw [if_neg fun e => hin (apart i n (by omega) (by omega) e)]
        exact i1 i (by omega)
    · rw [fold]
      unfold swapF
      dsimp only
      rw [if_pos rfl]
      exact i2
    · rw [fold]
      unfold swapF
      dsimp only
      rw [if_neg (hx (n + 1) (Nat.le_refl _)), if_neg (hx n (Nat.le_succ _))]
      exact i3 x fun i hi => hx i (by omega)
end Wz

set_option maxRecDepth 100000
set_option maxHeartbeats 4000000
namespace Wz
open PySem L2
theorem sortI_pm (l : List Int) : (sortI l).Perm l := List.mergeSort_perm l _
/-! ### the rings, one by one -/
def IsRing (f : Int → Int) (g : Int) (m : Nat) : Prop := 0 < m ∧ iter f m g = g ∧ ∀ k, 0 < k → k < m → iter f k g ≠ g
def ordF (f : Int → Int) (N : Nat) (g : Int) : Nat := ((List.range N).find? fun i => decide (iter f (i + 1) g = g)).getD 0 + 1
def ringR (f : Int → Int) (N : Nat) (g : Int) : List Int := ringL f g (ordF f N g)
theorem find_first (p : Nat → Bool) : ∀ (N m : Nat), m < N → p m = true → (∀ k, k < m → p k = false) → (List.range N).find? p = some m
  | 0, m, h, _, _ => by omega
  | N + 1, m, h, hm, hk => by
    rw [List.range_succ, List.find?_append]
    by_cases e : m < N
    · rw [find_first p N m e hm hk]; rfl
    · have e : m = N := by omega
      subst e
      rw [List.find?_eq_none.mpr fun x hx => by rw [hk x (List.mem_range.mp hx)]; simp]
      simp [hm]
theorem ord_ring {f : Int → Int} {g : Int} {m N : Nat} (h : IsRing f g m) (hN : m ≤ N) : ordF f N g = m := by
  obtain ⟨h0, h1, h2⟩ := h
  unfold ordF
  rw [find_first _ N (m - 1) (by omega) (by rw [show m - 1 + 1 = m by omega]; exact decide_eq_true h1) fun k hk => decide_eq_false (h2 (k + 1) (by omega) (by omega))]
  simp; omega
theorem isRing_of {f : Int → Int} (hf : Inj f) {K : List Int} (hk : ∀ g ∈ K, f g ∈ K) {g : Int} (hg : g ∈ K) {N : Nat} (hN : K.length ≤ N) : IsRing f g (ordF f N g) := by
  obtain ⟨n, n0, n1, n2⟩ := comes_back hf hk hg
  obtain ⟨m, m0, m1, m2, m3⟩ := first_back n n0 n2
  have R : IsRing f g m := ⟨m0, m2, m3⟩
  rw [ord_ring R (by omega)]
  exact R
theorem ring_mem {f : Int → Int} {g x : Int} {m : Nat} : x ∈ ringL f g m ↔ ∃ i, i < m ∧ x = iter f i g := by
  unfold ringL
  rw [List.mem_map]
  constructor
  · rintro ⟨i, hi, rfl⟩; exact ⟨i, List.mem_range.mp hi, rfl⟩
  · rintro ⟨i, hi, rfl⟩; exact ⟨i, List.mem_range.mpr hi, rfl⟩
theorem closed_iter {f : Int → Int} {S : List Int} (h : ∀ x ∈ S, f x ∈ S) : ∀ (n : Nat) {x : Int}, x ∈ S → iter f n x ∈ S
  | 0, _, hx => hx
  | n + 1, _, hx => h _ (closed_iter h n hx)
theorem ring_apart {f : Int → Int} {g : Int} {m : Nat} (R : IsRing f g m) {S : List Int} (hS : ∀ x ∈ S, f x ∈ S) (hg : g ∉ S) : ∀ x ∈ ringL f g m, x ∉ S := fun x hx z => by
  obtain ⟨i, hi, rfl⟩ := ring_mem.mp hx
  have := closed_iter hS (m - i) z
  rw [← iter_add, show m - i + i = m by omega, R.2.1] at this
  exact hg this
def ringsA (f : Int → Int) (N : Nat) : List Int → List Int → List (List Int)
  | [], _ => []
  | g :: ks, S => if g ∈ S then ringsA f N ks S else ringR f N g :: ringsA f N ks (S ++ ringR f N g)
theorem rings_ok {f : Int → Int} (hf : Inj f) {K : List Int} (hk : ∀ g ∈ K, f g ∈ K) {N : Nat} (hN : K.length ≤ N) : ∀ (ks S : List Int), (∀ x ∈ ks, x ∈ K) → (∀ x ∈ S, f x ∈ S) →
    (ringsA f N ks S).flatten.Nodup ∧ (∀ x ∈ (ringsA f N ks S).flatten, x ∉ S ∧ x ∈ K) ∧ (∀ x ∈ ks, x ∈ S ∨ x ∈ (ringsA f N ks S).flatten) ∧ ∀ r ∈ ringsA f N ks S, ∃ g ∈ ks, r = ringR f N g ∧ IsRing f g (ordF f N g)
  | [], S, _, _ => by simp [ringsA]
  | g :: ks, S, h1, h2 => by
    have hgK := h1 g List.mem_cons_self
    have h1' : ∀ x ∈ ks, x ∈ K := fun x hx => h1 x (List.mem_cons_of_mem _ hx)
    unfold ringsA
    by_cases hg : g ∈ S
    · rw [if_pos hg]
      obtain ⟨a, b, c, d⟩ := rings_ok hf hk hN ks S h1' h2
      refine ⟨a, b, fun x hx => ?_, fun r hr => ?_⟩
      · rcases List.mem_cons.mp hx with rfl | z
        · exact .inl hg
        · exact c x z
      · obtain ⟨q, hq, e⟩ := d r hr
        exact ⟨q, List.mem_cons_of_mem _ hq, e⟩
    · rw [if_neg hg]
      have R := isRing_of hf hk hgK hN
      have ap := ring_apart R h2 hg
      have cl : ∀ x ∈ ringR f N g, f x ∈ ringR f N g := fun x hx => ring_closed R.1 R.2.1 hx
      have inK : ∀ x ∈ ringR f N g, x ∈ K := fun x hx => by
        obtain ⟨i, hi, rfl⟩ := ring_mem.mp hx
        exact iter_in hk hgK i
      have g0 : g ∈ ringR f N g := ring_mem.mpr ⟨0, R.1, rfl⟩
      obtain ⟨a, b, c, d⟩ := rings_ok hf hk hN ks (S ++ ringR f N g) h1' fun x hx => by
        rcases List.mem_append.mp hx with z | z
        · exact List.mem_append.mpr (.inl (h2 x z))
        · exact List.mem_append.mpr (.inr (cl x z))
      rw [List.flatten_cons]
      refine ⟨?_, fun x hx => ?_, fun x hx => ?_, fun r hr => ?_⟩
      · rw [List.nodup_append]
        exact ⟨ring_nodup hf R.2.2, a, fun x hx y hy e => (b y hy).1 (List.mem_append.mpr (.inr (by rw [← e]; exact hx)))⟩
      · rcases List.mem_append.mp hx with z | z
        · exact ⟨ap x z, inK x z⟩
        · exact ⟨fun q => (b x z).1 (List.mem_append.mpr (.inl q)), (b x z).2⟩
      · rcases List.mem_cons.mp hx with rfl | z
        · exact .inr (List.mem_append.mpr (.inl g0))
        · rcases c x z with q | q
          · rcases List.mem_append.mp q with q | q
            · exact .inl q
            · exact .inr (List.mem_append.mpr (.inl q))
          · exact .inr (List.mem_append.mpr (.inr q))
      · rcases List.mem_cons.mp hr with rfl | z
        · exact ⟨g, List.mem_cons_self, rfl, R⟩
        · obtain ⟨q, hq, e⟩ := d r z
          exact ⟨q, List.mem_cons_of_mem _ hq, e⟩
theorem len_ringR {f : Int → Int} {N : Nat} {g : Int} : (ringR f N g).length = ordF f N g := by unfold ringR ringL; rw [List.length_map, List.length_range]
theorem ord_fixed {f : Int → Int} {N : Nat} {g : Int} (h : f g = g) : ordF f N g = 1 := by
  unfold ordF
  cases N with
  | zero => rfl
  | succ N => rw [find_first _ (N + 1) 0 (by omega) (decide_eq_true h) fun k hk => by omega]; rfl
theorem ord_wrong {f : Int → Int} {N : Nat} {g : Int} (h : f g ≠ g) (R : IsRing f g (ordF f N g)) : 2 ≤ ordF f N g := by
  have h0 := R.1
  by_cases e : ordF f N g = 1
  · have := R.2.1
    rw [e] at this
    exact absurd this h
  · omega
/-- the rings of those in a wrong mask are the rings of more than one -/
theorem rings_filter {f : Int → Int} (hf : Inj f) {K : List Int} (hk : ∀ g ∈ K, f g ∈ K) {N : Nat} (hN : K.length ≤ N) : ∀ (ks S S' : List Int), (∀ x ∈ ks, x ∈ K) → (∀ x, f x ≠ x → (x ∈ S ↔ x ∈ S')) →
    ringsA f N (ks.filter fun g => decide (f g ≠ g)) S' = (ringsA f N ks S).filter fun r => decide (2 ≤ r.length)
  | [], S, S', _, _ => rfl
  | g :: ks, S, S', h1, h2 => by
    have hgK := h1 g List.mem_cons_self
    have h1' : ∀ x ∈ ks, x ∈ K := fun x hx => h1 x (List.mem_cons_of_mem _ hx)
    by_cases hw : f g = g
    · rw [List.filter_cons_of_neg (by simpa using hw)]
      by_cases hg : g ∈ S
      · rw [show ringsA f N (g :: ks) S = ringsA f N ks S by rw [ringsA, if_pos hg]]
        exact rings_filter hf hk hN ks S S' h1' h2
      · rw [show ringsA f N (g :: ks) S = ringR f N g :: ringsA f N ks (S ++ ringR f N g) by rw [ringsA, if_neg hg], List.filter_cons_of_neg (by rw [len_ringR, ord_fixed hw]; decide)]
        refine rings_filter hf hk hN ks _ S' h1' fun x hx => ?_
        rw [List.mem_append, h2 x hx]
        have : x ∉ ringR f N g := fun z => by
          unfold ringR at z
          rw [ord_fixed hw] at z
          obtain ⟨i, hi, rfl⟩ := ring_mem.mp z
          have : i = 0 := by omega
          subst this
          exact hx hw
        simp [this]
    · rw [List.filter_cons_of_pos (by simpa using hw)]
      by_cases hg : g ∈ S
      · rw [show ringsA f N (g :: ks) S = ringsA f N ks S by rw [ringsA, if_pos hg], ringsA, if_pos ((h2 g hw).mp hg)]
        exact rings_filter hf hk hN ks S S' h1' h2
      · have hg' : g ∉ S' := fun z => hg ((h2 g hw).mpr z)
        rw [show ringsA f N (g :: ks) S = ringR f N g :: ringsA f N ks (S ++ ringR f N g) by rw [ringsA, if_neg hg], List.filter_cons_of_pos (by rw [len_ringR]; exact decide_eq_true (ord_wrong hw (isRing_of hf hk hgK hN))), ringsA, if_neg hg']
        congr 1
        refine rings_filter hf hk hN ks _ _ h1' fun x hx => ?_
        rw [List.mem_append, List.mem_append, h2 x hx]
def pairsR (r : List Int) : List (Int × Int) := r.zip (r.drop 1)
theorem len_pairsR (r : List Int) : (pairsR r).length = r.length - 1 := by unfold pairsR; rw [List.length_zip, List.length_drop]; omega
def shortR (rs : List (List Int)) : List (Int × Int) := rs.flatMap pairsR
theorem short_len : ∀ (rs : List (List Int)), (∀ r ∈ rs, 0 < r.length) → (shortR rs).length + (rs.filter fun r => decide (2 ≤ r.length)).length = ((rs.filter fun r => decide (2 ≤ r.length)).flatten).length
  | [], _ => rfl
  | r :: rs, h => by
    have ih := short_len rs fun q hq => h q (List.mem_cons_of_mem _ hq)
    have h0 := h r List.mem_cons_self
    have e : (shortR (r :: rs)).length = (r.length - 1) + (shortR rs).length := by unfold shortR; rw [List.flatMap_cons, List.length_append, len_pairsR]
    rw [e]
    by_cases h2 : 2 ≤ r.length
    · rw [List.filter_cons_of_pos (by simpa using h2), List.flatten_cons, List.length_append, List.length_cons]
      omega
    · rw [List.filter_cons_of_neg (by simpa using h2)]
      omega
theorem chain_pairs (f : Int → Int) (g : Int) : ∀ n, pairsR (ringL f g (n + 1)) = chainL f g n
  | 0 => rfl
  | n + 1 => by
    rw [chainL, ← chain_pairs f g n]
    have e : ringL f g (n + 1 + 1) = ringL f g (n + 1) ++ [iter f (n + 1) g] := by unfold ringL; rw [List.range_succ, List.map_append]; rfl
    have e2 : ringL f g (n + 1) = ringL f g n ++ [iter f n g] := by unfold ringL; rw [List.range_succ, List.map_append]; rfl
    unfold pairsR
    have l1 : (ringL f g (n + 1)).length = n + 1 := by unfold ringL; rw [List.length_map, List.length_range]
    have ln : (ringL f g n).length = n := by unfold ringL; rw [List.length_map, List.length_range]
    apply List.ext_getElem?
    intro i
    have gz : ∀ (a b : List Int), (a.zip b)[i]? = match a[i]?, b[i]? with | some x, some y => some (x, y) | _, _ => none := fun a b => by
      rw [List.zip_eq_zipWith, List.getElem?_zipWith]
      cases a[i]? <;> cases b[i]? <;> rfl
    by_cases hi : i < n
    · rw [List.getElem?_append_left (by rw [List.length_zip, List.length_drop, l1]; omega), gz, gz, e, List.getElem?_append_left (by omega), List.getElem?_drop, List.getElem?_drop, List.getElem?_append_left (by omega)]
    · by_cases hi2 : i = n
      · subst hi2
        rw [List.getElem?_append_right (by rw [List.length_zip, List.length_drop, l1]; omega), gz, List.length_zip, List.length_drop, l1, e, List.getElem?_append_left (by omega), List.getElem?_drop, List.getElem?_append_right (by omega), l1, e2, List.getElem?_append_right (by omega), ln]
        simp
        rw [show 1 + i - (i + 1) = 0 by omega]
        simp
      · rw [List.getElem?_eq_none (by rw [List.length_zip, List.length_drop, e, List.length_append, l1]; simp; omega), List.getElem?_eq_none (by rw [List.length_append, List.length_zip, List.length_drop, l1]; simp; omega)]
/-- the pairs of all rings do what f says -/
theorem short_worn {f : Int → Int} (hf : Inj f) {K : List Int} (hk : ∀ g ∈ K, f g ∈ K) {N : Nat} (hN : K.length ≤ N) : ∀ (ks S : List Int) (h : Int → Int), (∀ x ∈ ks, x ∈ K) → (∀ x ∈ S, f x ∈ S) → (∀ x, h x = if x ∈ S then f x else x) →
    ∀ x, (shortR (ringsA f N ks S)).foldl swapF h x = if x ∈ S ∨ x ∈ (ringsA f N ks S).flatten then f x else x
  | [], S, h, _, _, hh => fun x => by simp [shortR, ringsA]; rw [hh]
  | g :: ks, S, h, h1, h2, hh => fun x => by
    have hgK := h1 g List.mem_cons_self
    have h1' : ∀ x ∈ ks, x ∈ K := fun x hx => h1 x (List.mem_cons_of_mem _ hx)
    unfold ringsA
    by_cases hg : g ∈ S
    · rw [if_pos hg]
      exact short_worn hf hk hN ks S h h1' h2 hh x
    · rw [if_neg hg]
      have R := isRing_of hf hk hgK hN
      have ap := ring_apart R h2 hg
      have cl : ∀ x ∈ ringR f N g, f x ∈ ringR f N g := fun x hx => ring_closed R.1 R.2.1 hx
      have sh : shortR (ringR f N g :: ringsA f N ks (S ++ ringR f N g)) = pairsR (ringR f N g) ++ shortR (ringsA f N ks (S ++ ringR f N g)) := by unfold shortR; rw [List.flatMap_cons]
      rw [sh, List.foldl_append]
      rw [short_worn hf hk hN ks (S ++ ringR f N g) _ h1' (fun x hx => by
        rcases List.mem_append.mp hx with z | z
        · exact List.mem_append.mpr (.inl (h2 x z))
        · exact List.mem_append.mpr (.inr (cl x z))) (fun x => ?_) x]
      · rw [List.flatten_cons]
        by_cases q1 : x ∈ S
        · simp [q1]
        · by_cases q2 : x ∈ ringR f N g
          · simp [q2]
          · simp [q1, q2]
      · have m0 := R.1
        have eo : ordF f N g = ordF f N g - 1 + 1 := by omega
        have ec : pairsR (ringR f N g) = chainL f g (ordF f N g - 1) := by unfold ringR; rw [eo]; exact chain_pairs f g _
        have nd := ring_nodup hf R.2.2
        rw [eo] at nd
        obtain ⟨c1, c2, c3⟩ := chain_worn (h := h) nd (fun i hi => by rw [hh, if_neg (ap _ (ring_mem.mpr ⟨i, by omega, rfl⟩))]) _ (Nat.le_refl _)
        rw [ec]
        by_cases q2 : x ∈ ringR f N g
        · rw [if_pos (List.mem_append.mpr (.inr q2))]
          obtain ⟨i, hi, rfl⟩ := ring_mem.mp q2
          by_cases hi2 : i < ordF f N g - 1
          · rw [c1 i hi2]; rfl
          · have : i = ordF f N g - 1 := by omega
            rw [this, c2]
            have r2 := R.2.1
            rw [eo] at r2
            exact r2.symm
        · have n2 : ∀ i, i ≤ ordF f N g - 1 → x ≠ iter f i g := fun i hi e => q2 (ring_mem.mpr ⟨i, by omega, e⟩)
          rw [c3 x n2, hh]
          simp [q2]
/-- behind the rows of all rings of the keys: as f says -/
theorem short_all {f : Int → Int} (hf : Inj f) {K : List Int} (hk : ∀ g ∈ K, f g ∈ K) {N : Nat} (hN : K.length ≤ N) (ho : ∀ x, x ∉ K → f x = x) : (shortR (ringsA f N K [])).foldl swapF id = f := by
  funext x
  rw [short_worn hf hk hN K [] id (fun x h => h) (fun x h => by cases h) (fun x => by simp)]
  have := (rings_ok hf hk hN K [] (fun x h => h) (fun x h => by cases h)).2.2.1
  by_cases hx : x ∈ K
  · rw [if_pos (this x hx)]
  · have : x ∉ (ringsA f N K []).flatten := fun z => hx ((rings_ok hf hk hN K [] (fun x h => h) (fun x h => by cases h)).2.1 x z).2
    rw [if_neg (by simpa using this), ho x hx]
theorem short_count {f : Int → Int} (hf : Inj f) {K : List Int} (hk : ∀ g ∈ K, f g ∈ K) {N : Nat} (hN : K.length ≤ N) (nd : K.Nodup) :
    (shortR (ringsA f N K [])).length + (ringsA f N (K.filter fun g => decide (f g ≠ g)) []).length = (K.filter fun g => decide (f g ≠ g)).length := by
  have pos : ∀ r ∈ ringsA f N K [], 0 < r.length := fun r hr => by
    obtain ⟨g, _, rfl, R⟩ := (rings_ok hf hk hN K [] (fun x h => h) (fun x h => by cases h)).2.2.2 r hr
    rw [len_ringR]; exact R.1
  have e := rings_filter hf hk hN K [] [] (fun x h => h) (fun x _ => Iff.rfl)
  have s := short_len _ pos
  rw [← e] at s
  rw [s]
  have hk' : ∀ g ∈ K.filter (fun g => decide (f g ≠ g)), f g ∈ K.filter (fun g => decide (f g ≠ g)) := fun g hg => by
    obtain ⟨a, b⟩ := List.mem_filter.mp hg
    refine List.mem_filter.mpr ⟨hk g a, decide_eq_true fun z => ?_⟩
    exact of_decide_eq_true b (hf _ _ z)
  obtain ⟨a, b, c, _⟩ := rings_ok hf hk' (Nat.le_trans (List.length_filter_le _ _) hN) (K.filter fun g => decide (f g ≠ g)) [] (fun x h => h) (fun x h => by cases h)
  refine ((List.perm_ext_iff_of_nodup a (nd.filter _)).mpr fun x => ⟨fun z => (b x z).2, fun z => ?_⟩).length_eq
  rcases c x z with q | q
  · cases q
  · exact q
end Wz

set_option maxRecDepth 100000
set_option maxHeartbeats 4000000
namespace Wz
open PySem L2
structure Prm (W : List (Int × Int)) : Prop where
  inj : Inj (wr W)
  cl : ∀ g ∈ keysL W, wr W g ∈ keysL W
  nd : (keysL W).Nodup
theorem look_wr {W : List (Int × Int)} {g : Int} (h : g ∈ keysL W) : look W g = some (wr W g) := by
  obtain ⟨m, e⟩ := Option.isSome_iff_exists.mp (look_mem.mpr h)
  unfold wr
  rw [e]
  rfl
theorem len_keys (W : List (Int × Int)) : (keysL W).length = W.length := by unfold keysL; rw [List.length_map]
theorem Prm.ring {W : List (Int × Int)} (P : Prm W) {g : Int} (hg : g ∈ keysL W) : IsRing (wr W) g (ordF (wr W) W.length g) := isRing_of P.inj P.cl hg (by rw [len_keys]; exact Nat.le_refl _)
theorem Prm.ord_le {W : List (Int × Int)} (P : Prm W) {g : Int} (hg : g ∈ keysL W) : ordF (wr W) W.length g ≤ W.length := by
  have h := nodup_len (ring_nodup P.inj (P.ring hg).2.2) (m := keysL W) fun x hx => by
    obtain ⟨i, _, rfl⟩ := ring_mem.mp hx
    exact iter_in P.cl hg i
  rw [len_keys] at h
  unfold ringL at h
  rwa [List.length_map, List.length_range] at h
def ringsW (W : List (Int × Int)) : List (List Int) := ringsA (wr W) W.length (wrongL W) []
theorem Prm.wrong {W : List (Int × Int)} (P : Prm W) : (∀ g ∈ wrongL W, g ∈ keysL W ∧ wr W g ≠ g) ∧ (wrongL W).Nodup ∧ (∀ g ∈ wrongL W, wr W g ∈ wrongL W) ∧ (wrongL W).length ≤ W.length := by
  have m : ∀ g, g ∈ wrongL W ↔ g ∈ keysL W ∧ wr W g ≠ g := fun g => by
    unfold wrongL
    rw [List.mem_filter, (sortI_pm _).mem_iff]
    simp
  refine ⟨fun g hg => (m g).mp hg, ((sortI_pm _).nodup_iff.mpr P.nd).filter _, fun g hg => (m _).mpr ⟨P.cl g ((m g).mp hg).1, fun z => ((m g).mp hg).2 (P.inj _ _ z)⟩, wrong_len W⟩
theorem ringL_succ (f : Int → Int) (g : Int) (i : Nat) : ringL f g (i + 1) = ringL f g i ++ [iter f i g] := by unfold ringL; rw [List.range_succ, List.map_append]; rfl
theorem len_ringL (f : Int → Int) (g : Int) (i : Nat) : (ringL f g i).length = i := by unfold ringL; rw [List.length_map, List.length_range]
/-! ### the rings, as they are found -/
def stepR (f : Int → Int) (N : Nat) (q : List Int × List (List Int)) (g : Int) : List Int × List (List Int) := if g ∈ q.1 then q else (q.1 ++ ringR f N g, q.2 ++ [ringR f N g])
theorem fold_rings (f : Int → Int) (N : Nat) : ∀ (ks S : List Int) (rs : List (List Int)), ks.foldl (stepR f N) (S, rs) = (S ++ (ringsA f N ks S).flatten, rs ++ ringsA f N ks S)
  | [], S, rs => by simp [ringsA]
  | g :: ks, S, rs => by
    rw [List.foldl_cons]
    unfold stepR ringsA
    by_cases h : g ∈ S
    · rw [if_pos h, if_pos h]; exact fold_rings f N ks S rs
    · rw [if_neg h, if_neg h]
      have := fold_rings f N ks (S ++ ringR f N g) (rs ++ [ringR f N g])
      unfold stepR at this
      rw [this, List.flatten_cons]
      simp
def qR (W : List (Int × Int)) (i : Nat) : List Int × List (List Int) := ((wrongL W).take i).foldl (stepR (wr W) W.length) ([], [])
/-! ### lists of lists -/
def LLAt (H : Hp) (l : Addr) (rs : List (List Int)) : Prop := ∃ as : List Addr, H l = some (.lst (as.map V.ref)) ∧ Paired (fun a (r : List Int) => H a = some (.lst (r.map V.int))) as rs
def llD (rs : List (List Int)) : Dt := .sq false (rs.map numsD)
/-! ### what the program promises -/
def spStrays (c : HX) : Sp := fun vs H Q _ => ∃ (p : Addr) (A : HA) (st : HSt), vs = [.ref p] ∧ HallAt c.C H p A st ∧ HGood st ∧ st.worn.length < 64 ∧ (∀ g ∈ keysL st.worn, Small g) ∧
  ∀ (l : Addr) (H' : Hp), H l = none → Same H H' → H' l = some (.lst ((wrongL st.worn).map V.int)) → Q (.ref l) H'
def spRingW (c : HX) : Sp := fun vs H Q E => ∃ (p : Addr) (A : HA) (st : HSt) (g : Int), vs = [.ref p, .int g] ∧ HallAt c.C H p A st ∧ HGood st ∧ st.worn.length < 64 ∧ (∀ g ∈ keysL st.worn, Small g) ∧ Small g ∧
  (if (look st.worn g).isSome = true then ∀ (l : Addr) (H' : Hp), H l = none → Same H H' → H' l = some (.lst ((ringR (wr st.worn) st.worn.length g).map V.int)) → Q (.ref l) H' else ∀ dx H', Same H H' → H' dx = some (.xd [("guest", .int g)]) → E (.ref c.cN) (some dx) H')
def spRings (c : HX) : Sp := fun vs H Q _ => ∃ (p : Addr) (A : HA) (st : HSt), vs = [.ref p] ∧ HallAt c.C H p A st ∧ HGood st ∧ st.worn.length < 64 ∧ (∀ g ∈ keysL st.worn, Small g) ∧
  ∀ (l : Addr) (as : List Addr) (H' : Hp), H l = none → Same H H' → H' l = some (.lst (as.map V.ref)) → Paired (fun a (r : List Int) => H' a = some (.lst (r.map V.int))) as (ringsW st.worn) → (∀ a ∈ as, H a = none) → Q (.ref l) H'
def spLRings : Sp := fun vs H Q _ => ∃ (w : Addr) (W : List (Int × Int)), vs = [.ref w] ∧ H w = some (.dK (dk W)) ∧ W.length < 64 ∧ Prm W ∧ ∀ (l : Addr) (H' : Hp), H l = none → Same H H' → LLAt H' l (ringsW W) → Q (.ref l) H'
def spRingFrom : Sp := fun vs H Q _ => ∃ (w : Addr) (W : List (Int × Int)) (g : Int), vs = [.ref w, .int g] ∧ H w = some (.dK (dk W)) ∧ W.length < 64 ∧ Prm W ∧
  (if (look W g).isSome = true then ∀ (l : Addr) (H' : Hp), H l = none → Same H H' → H' l = some (.lst ((ringR (wr W) W.length g).map V.int)) → Q (.ref l) H' else ∀ r H', H r = none → Same H H' → H' r = some (.tup [.str "NoGuest", .int g]) → Q (.ref r) H')
def spRingAsked (c : HX) : Sp := fun vs H Q _ => ∃ (p : Addr) (A : HA) (st : HSt) (g : Int), vs = [.ref p, .int g] ∧ HallAt c.C H p A st ∧ HGood st ∧ st.worn.length < 64 ∧ (∀ g ∈ keysL st.worn, Small g) ∧ Small g ∧
  (if (look st.worn g).isSome = true then ∀ (l : Addr) (H' : Hp), H l = none → Same H H' → H' l = some (.lst ((ringR (wr st.worn) st.worn.length g).map V.int)) → Q (.ref l) H' else ∀ r H', H r = none → Same H H' → H' r = some (.tup [.str "NoGuest", .int g]) → Q (.ref r) H')
def spRingAlike : Sp := fun vs H Q _ => ∃ (l l2 : Addr) (rs : List (List Int)), vs = [.ref l, .ref l2] ∧ LLAt H l rs ∧ LLAt H l2 rs ∧ rs.length ≤ 1000 ∧ (∀ r ∈ rs, r.length ≤ 1000) ∧ ∀ H', Same H H' → Q (.bl true) H'
end Wz

set_option maxRecDepth 100000
set_option maxHeartbeats 4000000
namespace L2
open PySem PySem.Spec PyProof.Rows
theorem cut_1 (xs : List V) : cutV xs (some 1) none = xs.drop 1 := by
  unfold cutV
  rw [show HT.sIx xs.length 0 (some 1) = min 1 xs.length from HT.sIx_nat _ _ 1, HT.sIx_none]
  by_cases h : xs = []
  · subst h; rfl
  · have : 0 < xs.length := List.length_pos_iff.mpr h
    rw [show min 1 xs.length = 1 by omega, List.take_of_length_le (by rw [List.length_drop]; omega)]
end L2
namespace Wz
open PySem L2
/-! ### sending a ring home by its first guest -/
def starR (r : List Int) : List (Int × Int) := (r.drop 1).map fun x => (r.headD 0, x)
def homeR (rs : List (List Int)) : List (Int × Int) := rs.flatMap starR
def starL (f : Int → Int) (g : Int) : Nat → List (Int × Int)
  | 0 => []
  | n + 1 => starL f g n ++ [(g, iter f (n + 1) g)]
def spFewest (c : HX) : Sp := fun vs H Q _ => ∃ (p : Addr) (A : HA) (st : HSt), vs = [.ref p] ∧ HallAt c.C H p A st ∧ HGood st ∧ st.worn.length < 64 ∧ (∀ g ∈ keysL st.worn, Small g) ∧ ∀ H', Same H H' → Q (.int (((wrongL st.worn).length : Int) - ((ringsW st.worn).length : Int))) H'
def spRingHome : Sp := fun vs H Q _ => ∃ (l : Addr) (r : List Int), vs = [.ref l] ∧ H l = some (.lst (r.map V.int)) ∧ r ≠ [] ∧ r.length ≤ 1000 ∧ ∀ (l2 : Addr) (H' : Hp), H l2 = none → Same H H' → RowAt H' l2 (starR r) → Q (.ref l2) H'
def spPlain (c : HX) : Sp := fun vs H Q _ => ∃ (p : Addr) (A : HA) (st : HSt), vs = [.ref p] ∧ HallAt c.C H p A st ∧ HGood st ∧ st.worn.length < 64 ∧ (∀ g ∈ keysL st.worn, Small g) ∧ ∀ (l : Addr) (H' : Hp), H l = none → Same H H' → RowAt H' l (homeR (ringsW st.worn)) → Q (.ref l) H'
def spManyLost : Sp := fun vs H Q _ => ∃ (w : Addr) (W : List (Int × Int)), vs = [.ref w] ∧ H w = some (.dK (dk W)) ∧ W.length < 64 ∧ ∀ H', Same H H' → Q (.int ((wrongL W).length : Int)) H'
end Wz

set_option maxRecDepth 100000
set_option maxHeartbeats 4000000
namespace Wz
open PySem L2
/-! ### how many rings there are, and what an exchange does to their number -/
def RP (f : Int → Int) (K : List Int) (rs : List (List Int)) : Prop := rs.flatten.Perm K ∧ ∀ r ∈ rs, ∃ g m, r = ringL f g m ∧ IsRing f g m
theorem iter_mul {f : Int → Int} {g : Int} {m : Nat} (R : IsRing f g m) : ∀ n, iter f n g ∈ ringL f g m := by
  intro n
  induction n with
  | zero => exact ring_mem.mpr ⟨0, R.1, rfl⟩
  | succ n ih => exact ring_closed R.1 R.2.1 ih
theorem ring_eqv {f : Int → Int} {g g' : Int} {m m' : Nat} (R : IsRing f g m) (R' : IsRing f g' m') (h : g ∈ ringL f g' m') (x : Int) : x ∈ ringL f g m ↔ x ∈ ringL f g' m' := by
  obtain ⟨j, hj, e⟩ := ring_mem.mp h
  have back : iter f (m' - j) g = g' := by rw [e, ← iter_add, show m' - j + j = m' by omega]; exact R'.2.1
  constructor
  · intro z
    obtain ⟨i, _, rfl⟩ := ring_mem.mp z
    rw [e, ← iter_add]
    exact iter_mul R' _
  · intro z
    obtain ⟨i, _, rfl⟩ := ring_mem.mp z
    rw [← back, ← iter_add]
    exact iter_mul R _
theorem perm_cancel {α : Type} {a b c d : List α} (h : (a ++ b).Perm (c ++ d)) (e : a.Perm c) : b.Perm d := (List.perm_append_left_iff c).mp ((e.symm.append_right b).trans h)
theorem flat_erase {rs : List (List Int)} {r : List Int} (h : r ∈ rs) : rs.flatten.Perm (r ++ (rs.erase r).flatten) := by
  have := (List.perm_cons_erase h).flatten
  rwa [List.flatten_cons] at this
theorem rp_le {f : Int → Int} (hf : Inj f) : ∀ (rs rs' : List (List Int)) (K : List Int), K.Nodup → RP f K rs → RP f K rs' → rs.length ≤ rs'.length
  | [], _, _, _, _, _ => Nat.zero_le _
  | r :: rs, rs', K, nd, h, h' => by
    obtain ⟨g, m, rfl, R⟩ := h.2 r List.mem_cons_self
    have gK : g ∈ K := h.1.mem_iff.mp (by rw [List.flatten_cons]; exact List.mem_append.mpr (.inl (ring_mem.mpr ⟨0, R.1, rfl⟩)))
    obtain ⟨r', hr', gr'⟩ := List.mem_flatten.mp (h'.1.mem_iff.mpr gK)
    obtain ⟨g', m', rfl, R'⟩ := h'.2 r' hr'
    have pr : (ringL f g m).Perm (ringL f g' m') := (List.perm_ext_iff_of_nodup (ring_nodup hf R.2.2) (ring_nodup hf R'.2.2)).mpr (ring_eqv R R' gr')
    have h1 := h.1
    rw [List.flatten_cons] at h1
    have p2 : rs.flatten.Perm (rs'.erase (ringL f g' m')).flatten := perm_cancel (h1.trans (h'.1.symm.trans (flat_erase hr'))) pr
    have nd2 : (ringL f g m ++ rs.flatten).Nodup := h1.nodup_iff.mpr nd
    have ih := rp_le hf rs (rs'.erase (ringL f g' m')) rs.flatten (List.nodup_append.mp nd2).2.1 ⟨List.Perm.refl _, fun q hq => h.2 q (List.mem_cons_of_mem _ hq)⟩ ⟨p2.symm, fun q hq => h'.2 q (List.mem_of_mem_erase hq)⟩
    have l1 := List.length_erase_of_mem hr'
    have l2 := List.length_pos_of_mem hr'
    rw [List.length_cons]
    omega
theorem rp_of {f : Int → Int} (hf : Inj f) {K : List Int} (nd : K.Nodup) (hk : ∀ g ∈ K, f g ∈ K) : RP f K (ringsA f K.length K []) := by
  obtain ⟨a, b, c, d⟩ := rings_ok hf hk (Nat.le_refl _) K [] (fun x h => h) (fun x h => by cases h)
  refine ⟨(List.perm_ext_iff_of_nodup a nd).mpr fun x => ⟨fun z => (b x z).2, fun z => (c x z).elim (fun q => by cases q) id⟩, fun r hr => ?_⟩
  obtain ⟨g, _, e, R⟩ := d r hr
  exact ⟨g, _, e, R⟩
/-- two of one ring exchange: the ring parts -/
theorem rp_split {f : Int → Int} (hf : Inj f) {K : List Int} (nd : K.Nodup) {rs : List (List Int)} (h : RP f K rs) {a b : Int} {m j : Nat} (R : IsRing f a m) (aK : a ∈ K) (j0 : 0 < j) (jm : j < m) (hb : b = iter f j a) :
    ∃ rs', RP (swapF f (a, b)) K rs' ∧ rs'.length = rs.length + 1 := by
  have ndR := ring_nodup hf R.2.2
  have apart : ∀ i k, i < m → k < m → iter f i a = iter f k a → i = k := fun i k hi hk e => by
    have e1 : (ringL f a m)[i]? = some (iter f i a) := by unfold ringL; rw [List.getElem?_map, List.getElem?_range hi]; rfl
    have e2 : (ringL f a m)[k]? = some (iter f i a) := by unfold ringL; rw [List.getElem?_map, List.getElem?_range hk, e]; rfl
    obtain ⟨h1, q1⟩ := List.getElem?_eq_some_iff.mp e1
    obtain ⟨h2, q2⟩ := List.getElem?_eq_some_iff.mp e2
    exact (List.getElem_inj ndR).mp (q1.trans q2.symm)
  have ab : a ≠ b := fun z => by rw [hb] at z; have := apart 0 j R.1 jm z; omega
  have sa : swapF f (a, b) a = f b := by unfold swapF; dsimp only; rw [if_neg ab, if_pos rfl]
  have sb : swapF f (a, b) b = f a := by unfold swapF; dsimp only; rw [if_pos rfl]
  have so : ∀ x, x ≠ a → x ≠ b → swapF f (a, b) x = f x := fun x h1 h2 => by unfold swapF; dsimp only; rw [if_neg h2, if_neg h1]
  generalize hF : swapF f (a, b) = F at sa sb so
  have ia : ∀ i, 1 ≤ i → i ≤ m - j → iter F i a = iter f (j + i) a := by
    intro i
    induction i with
    | zero => intro h; omega
    | succ i ih =>
      intro _ h2
      show F (iter F i a) = _
      by_cases i0 : i = 0
      · subst i0
        show F a = _
        rw [sa, hb]; rfl
      · rw [ih (by omega) (by omega), so]
        · rfl
        · intro z; have := apart (j + i) 0 (by omega) R.1 z; omega
        · rw [hb]; intro z; have := apart (j + i) j (by omega) jm z; omega
  have ib : ∀ i, 1 ≤ i → i ≤ j → iter F i b = iter f i a := by
    intro i
    induction i with
    | zero => intro h; omega
    | succ i ih =>
      intro _ h2
      show F (iter F i b) = _
      by_cases i0 : i = 0
      · subst i0
        show F b = _
        rw [sb]; rfl
      · rw [ih (by omega) (by omega), so]
        · rfl
        · intro z; have := apart i 0 (by omega) R.1 z; omega
        · rw [hb]; intro z; have := apart i j (by omega) jm z; omega
  have RA : IsRing F a (m - j) := ⟨by omega, by rw [ia _ (by omega) (Nat.le_refl _), show j + (m - j) = m by omega]; exact R.2.1, fun k k0 k1 => by rw [ia k k0 (by omega)]; exact R.2.2 _ (by omega) (by omega)⟩
  have RB : IsRing F b j := ⟨j0, by rw [ib j (by omega) (Nat.le_refl _)]; exact hb.symm, fun k k0 k1 z => by rw [ib k k0 (by omega), hb] at z; have := apart k j (by omega) jm z; omega⟩
  have hF' : Inj F := by rw [← hF]; exact inj_swap hf (a, b)
  have mA : ∀ x, x ∈ ringL F a (m - j) ↔ x = a ∨ ∃ i, 1 ≤ i ∧ i < m - j ∧ x = iter f (j + i) a := fun x => by
    rw [ring_mem]
    constructor
    · rintro ⟨i, hi, rfl⟩
      by_cases i0 : i = 0
      · subst i0; exact .inl rfl
      · exact .inr ⟨i, by omega, hi, ia i (by omega) (by omega)⟩
    · rintro (rfl | ⟨i, h1, h2, rfl⟩)
      · exact ⟨0, by omega, rfl⟩
      · exact ⟨i, h2, (ia i h1 (by omega)).symm⟩
  have mB : ∀ x, x ∈ ringL F b j ↔ x = b ∨ ∃ i, 1 ≤ i ∧ i < j ∧ x = iter f i a := fun x => by
    rw [ring_mem]
    constructor
    · rintro ⟨i, hi, rfl⟩
      by_cases i0 : i = 0
      · subst i0; exact .inl rfl
      · exact .inr ⟨i, by omega, hi, ib i (by omega) (by omega)⟩
    · rintro (rfl | ⟨i, h1, h2, rfl⟩)
      · exact ⟨0, j0, rfl⟩
      · exact ⟨i, h2, (ib i h1 (by omega)).symm⟩
  have ndAB : (ringL F a (m - j) ++ ringL F b j).Nodup := by
    rw [List.nodup_append]
    refine ⟨ring_nodup hF' RA.2.2, ring_nodup hF' RB.2.2, fun x hx y hy e => ?_⟩
    subst e
    rcases (mA x).mp hx with z | ⟨i, h1, h2, z⟩ <;> rcases (mB x).mp hy with z' | ⟨k, k1, k2, z'⟩
    · exact ab (z.symm.trans z')
    · rw [z] at z'; have := apart 0 k R.1 (by omega) z'; omega
    · rw [z, hb] at z'; have := apart (j + i) j (by omega) jm z'; omega
    · rw [z] at z'; have := apart (j + i) k (by omega) (by omega) z'; omega
  have pAB : (ringL F a (m - j) ++ ringL F b j).Perm (ringL f a m) := (List.perm_ext_iff_of_nodup ndAB ndR).mpr fun x => by
    rw [List.mem_append, mA, mB, ring_mem]
    constructor
    · rintro ((rfl | ⟨i, h1, h2, rfl⟩) | (rfl | ⟨i, h1, h2, rfl⟩))
      · exact ⟨0, R.1, rfl⟩
      · exact ⟨j + i, by omega, rfl⟩
      · exact ⟨j, jm, hb⟩
      · exact ⟨i, by omega, rfl⟩
    · rintro ⟨i, hi, rfl⟩
      by_cases i0 : i = 0
      · subst i0; exact .inl (.inl rfl)
      · by_cases i1 : i < j
        · exact .inr (.inr ⟨i, by omega, i1, rfl⟩)
        · by_cases i2 : i = j
          · rw [i2]; exact .inr (.inl hb.symm)
          · exact .inl (.inr ⟨i - j, by omega, by omega, by rw [show j + (i - j) = i by omega]⟩)
  obtain ⟨r0, hr0, ar0⟩ := List.mem_flatten.mp (h.1.mem_iff.mpr aK)
  obtain ⟨g0, m0, e0, R0⟩ := h.2 r0 hr0
  have p0 : r0.Perm (ringL f a m) := by
    rw [e0] at ar0 ⊢
    exact ((List.perm_ext_iff_of_nodup ndR (ring_nodup hf R0.2.2)).mpr (ring_eqv R R0 ar0)).symm
  have fl := flat_erase hr0
  refine ⟨ringL F a (m - j) :: ringL F b j :: rs.erase r0, ⟨?_, fun r hr => ?_⟩, ?_⟩
  · rw [List.flatten_cons, List.flatten_cons, ← List.append_assoc]
    exact ((pAB.trans p0.symm).append_right _).trans (fl.symm.trans h.1)
  · rcases List.mem_cons.mp hr with rfl | hr
    · exact ⟨a, _, rfl, RA⟩
    · rcases List.mem_cons.mp hr with rfl | hr
      · exact ⟨b, _, rfl, RB⟩
      · obtain ⟨g, n, rfl, Rg⟩ := h.2 r (List.mem_of_mem_erase hr)
        have ndK : (r0 ++ (rs.erase r0).flatten).Nodup := (fl.symm.trans h.1).nodup_iff.mpr nd
        have out : ∀ x ∈ ringL f g n, x ≠ a ∧ x ≠ b := fun x hx => by
          have hx2 : x ∈ (rs.erase r0).flatten := List.mem_flatten.mpr ⟨_, hr, hx⟩
          have no : ∀ y ∈ r0, y ≠ x := fun y hy => (List.nodup_append.mp ndK).2.2 y hy x hx2
          refine ⟨fun z => no a ar0 z.symm, fun z => no b (p0.mem_iff.mpr (ring_mem.mpr ⟨j, jm, hb⟩)) z.symm⟩
        have same : ∀ i, iter F i g = iter f i g := by
          intro i
          induction i with
          | zero => rfl
          | succ i ih =>
            show F (iter F i g) = f (iter f i g)
            rw [ih]
            exact so _ (out _ (iter_mul Rg i)).1 (out _ (iter_mul Rg i)).2
        refine ⟨g, n, ?_, Rg.1, by rw [same]; exact Rg.2.1, fun k k0 k1 => by rw [same]; exact Rg.2.2 k k0 k1⟩
        unfold ringL
        exact List.map_congr_left fun i _ => (same i).symm
  · have l1 := List.length_erase_of_mem hr0
    have l2 := List.length_pos_of_mem hr0
    rw [List.length_cons, List.length_cons]
    omega
theorem swap_closed {f : Int → Int} {K : List Int} (hk : ∀ g ∈ K, f g ∈ K) {a b : Int} (aK : a ∈ K) (bK : b ∈ K) : ∀ g ∈ K, swapF f (a, b) g ∈ K := fun g hg => by
  unfold swapF
  dsimp only
  split
  · exact hk a aK
  · split
    · exact hk b bK
    · exact hk g hg
/-- an exchange makes one ring more or one less -/
theorem rp_step {f : Int → Int} (hf : Inj f) {K : List Int} (nd : K.Nodup) (hk : ∀ g ∈ K, f g ∈ K) {rs rs' : List (List Int)} (h : RP f K rs) {a b : Int} (aK : a ∈ K) (bK : b ∈ K) (ab : a ≠ b) (h' : RP (swapF f (a, b)) K rs') : rs'.length = rs.length + 1 ∨ rs'.length + 1 = rs.length := by
  have hF := inj_swap hf (a, b)
  have hkF := swap_closed hk aK bK
  have R := isRing_of hf hk aK (Nat.le_refl _)
  have uniq : ∀ {u : Int → Int} (_ : Inj u) {p q : List (List Int)}, RP u K p → RP u K q → p.length = q.length := fun hu _ _ p q => Nat.le_antisymm (rp_le hu _ _ K nd p q) (rp_le hu _ _ K nd q p)
  by_cases hb : b ∈ ringL f a (ordF f K.length a)
  · obtain ⟨j, jm, e⟩ := ring_mem.mp hb
    have j0 : 0 < j := by
      rcases Nat.eq_zero_or_pos j with z | z
      · rw [z] at e; exact absurd e.symm ab
      · exact z
    obtain ⟨q, hq, lq⟩ := rp_split hf nd h R aK j0 jm e
    left
    rw [uniq hF h' hq, lq]
  · right
    -- in the new one they lie in one ring
    have RBf := isRing_of hf hk bK (Nat.le_refl _)
    generalize ordF f K.length b = n at RBf
    have na : ∀ i, iter f i b ≠ a := fun i z => hb ((ring_eqv R RBf (by rw [← z]; exact iter_mul RBf i) b).mpr (ring_mem.mpr ⟨0, RBf.1, rfl⟩))
    have go : ∀ i, 1 ≤ i → i ≤ n → iter (swapF f (a, b)) i a = iter f i b := by
      intro i
      induction i with
      | zero => intro z; omega
      | succ i ih =>
        intro _ h2
        show swapF f (a, b) (iter (swapF f (a, b)) i a) = _
        by_cases i0 : i = 0
        · subst i0
          show swapF f (a, b) a = _
          unfold swapF
          dsimp only
          rw [if_neg ab, if_pos rfl]
          rfl
        · rw [ih (by omega) (by omega)]
          unfold swapF
          dsimp only
          rw [if_neg (RBf.2.2 i (by omega) (by omega)), if_neg (na i)]
          rfl
    have hbn : b = iter (swapF f (a, b)) n a := by rw [go n RBf.1 (Nat.le_refl _)]; exact RBf.2.1.symm
    have RF := isRing_of hF hkF aK (Nat.le_refl _)
    generalize ordF (swapF f (a, b)) K.length a = M at RF
    have inF : b ∈ ringL (swapF f (a, b)) a M := by have := iter_mul RF n; rw [← hbn] at this; exact this
    obtain ⟨j, jm, e⟩ := ring_mem.mp inF
    have j0 : 0 < j := by
      rcases Nat.eq_zero_or_pos j with z | z
      · rw [z] at e; exact absurd e.symm ab
      · exact z
    obtain ⟨q, hq, lq⟩ := rp_split hF nd h' RF aK j0 jm e
    rw [swap_twice] at hq
    have := uniq hf h hq
    omega
theorem rp_row {K : List Int} (nd : K.Nodup) : ∀ (ps : List (Int × Int)) {f : Int → Int} (_ : Inj f) (_ : ∀ g ∈ K, f g ∈ K) {rs rs' : List (List Int)}, RP f K rs → (∀ p ∈ ps, p.1 ∈ K ∧ p.2 ∈ K ∧ p.1 ≠ p.2) → RP (ps.foldl swapF f) K rs' → rs'.length ≤ rs.length + ps.length ∧ (rs'.length + ps.length) % 2 = rs.length % 2
  | [], f, hf, hk, rs, rs', h, _, h' => by
    have h' : RP f K rs' := h'
    have e := Nat.le_antisymm (rp_le hf _ _ K nd h h') (rp_le hf _ _ K nd h' h)
    simp [e]
  | p :: ps, f, hf, hk, rs, rs', h, hp, h' => by
    obtain ⟨p1, p2, p3⟩ := hp p List.mem_cons_self
    have hF := inj_swap hf p
    have hkF : ∀ g ∈ K, swapF f p g ∈ K := swap_closed hk p1 p2
    have q := rp_of hF nd hkF
    have st := rp_step hf nd hk h p1 p2 p3 q
    obtain ⟨i1, i2⟩ := rp_row nd ps hF hkF q (fun x hx => hp x (List.mem_cons_of_mem _ hx)) h'
    rw [List.length_cons]
    omega
theorem rp_id (K : List Int) : RP id K (K.map fun x => [x]) := by
  refine ⟨?_, fun r hr => ?_⟩
  · rw [show (K.map fun x => [x]).flatten = K from by induction K with | nil => rfl | cons a r ih => rw [List.map_cons, List.flatten_cons, ih]; rfl]
  · obtain ⟨x, _, rfl⟩ := List.mem_map.mp hr
    exact ⟨x, 1, rfl, by decide, rfl, fun k h1 h2 => by omega⟩
/-- a row that sends all home has as many pairs as those in a wrong mask less the rings, or more by an even number -/
theorem row_many {f : Int → Int} (hf : Inj f) {K : List Int} (nd : K.Nodup) (hk : ∀ g ∈ K, f g ∈ K) {ps : List (Int × Int)} (hp : ∀ p ∈ ps, p.1 ∈ K ∧ p.2 ∈ K ∧ p.1 ≠ p.2) (he : ps.foldl swapF f = id) :
    (K.filter fun g => decide (f g ≠ g)).length ≤ ps.length + (ringsA f K.length (K.filter fun g => decide (f g ≠ g)) []).length ∧
    (ps.length + (ringsA f K.length (K.filter fun g => decide (f g ≠ g)) []).length) % 2 = (K.filter fun g => decide (f g ≠ g)).length % 2 := by
  have c := short_count hf hk (Nat.le_refl _) nd
  have q := rp_of hf nd hk
  have pos : ∀ r ∈ ringsA f K.length K [], 0 < r.length := fun r hr => by
    obtain ⟨g, m, rfl, R⟩ := q.2 r hr
    unfold ringL; rw [List.length_map, List.length_range]; exact R.1
  have sl : ∀ (rs : List (List Int)), (∀ r ∈ rs, 0 < r.length) → (shortR rs).length + rs.length = rs.flatten.length := by
    intro rs
    induction rs with
    | nil => intro _; rfl
    | cons r rs ih =>
      intro h
      have i := ih fun q hq => h q (List.mem_cons_of_mem _ hq)
      have h0 := h r List.mem_cons_self
      have e : (shortR (r :: rs)).length = (r.length - 1) + (shortR rs).length := by unfold shortR; rw [List.flatMap_cons, List.length_append, len_pairsR]
      rw [e, List.flatten_cons, List.length_append, List.length_cons]
      omega
  have s := sl _ pos
  rw [q.1.length_eq] at s
  obtain ⟨a, b⟩ := rp_row nd ps hf hk q hp (by rw [he]; exact rp_id K)
  rw [List.length_map] at a b
  omega
theorem among_ne {M c : Int} (hM : M ≤ 100) {ps : List (Int × Int)} (h : Among M c ps) : ∀ p ∈ ps, p.1 ≠ p.2 := fun p hp z => by
  obtain ⟨i, j, hi, hj, ne, rfl⟩ := h p hp
  exact ne (gst_inj ⟨hi.1, by omega⟩ ⟨hj.1, by omega⟩ z)
theorem Prm.row {W : List (Int × Int)} (P : Prm W) {ps : List (Int × Int)} (hp : ∀ p ∈ ps, p.1 ∈ keysL W ∧ p.2 ∈ keysL W ∧ p.1 ≠ p.2) (hw : wrongL (paperL W ps) = []) :
    (wrongL W).length ≤ ps.length + (ringsW W).length ∧ (ps.length + (ringsW W).length) % 2 = (wrongL W).length % 2 := by
  have he : ps.foldl swapF (wr W) = id := by
    rw [← wr_paper]
    funext x
    by_cases hx : x ∈ keysL (paperL W ps)
    · by_cases e : wr (paperL W ps) x = x
      · exact e
      · have : x ∈ wrongL (paperL W ps) := List.mem_filter.mpr ⟨(sortI_pm _).mem_iff.mpr hx, decide_eq_true e⟩
        rw [hw] at this
        cases this
    · exact wr_out hx
  have m : ∀ x, x ∈ sortI (keysL W) ↔ x ∈ keysL W := fun x => (sortI_pm _).mem_iff
  have r := row_many P.inj ((sortI_pm _).nodup_iff.mpr P.nd) (K := sortI (keysL W)) (fun g hg => (m _).mpr (P.cl g ((m g).mp hg))) (fun p hp0 => ⟨(m _).mpr (hp p hp0).1, (m _).mpr (hp p hp0).2.1, (hp p hp0).2.2⟩) he
  rw [show (sortI (keysL W)).length = W.length by rw [len_sortI, len_keys]] at r
  exact r
def spBent2 : Sp := fun vs H Q _ => ∃ (l : Addr) (ps : List (Int × Int)) (c m n M : Int) (b : Nat), vs = [.ref l, .int c, .int m, .int n] ∧ RowAt H l ps ∧ Among M n ps ∧ m ≤ M ∧ ps.length ≤ b ∧ b ≤ 1000 ∧ 0 ≤ c ∧ (2 ≤ m ∧ m ≤ 12) ∧ ∀ (l' : Addr) (H' : Hp) (qs : List (Int × Int)), H l' = none → Same H H' → RowAt H' l' qs → Among M n qs → qs.length ≤ 2 * b + 10 → Q (.ref l') H'
def spUnwound : Sp := fun vs H Q _ => ∃ (w : Addr) (W : List (Int × Int)), vs = [.ref w] ∧ H w = some (.dK (dk W)) ∧ W.length < 64 ∧ Prm W ∧ ∀ (l : Addr) (H' : Hp), H l = none → Same H H' → RowAt H' l (homeR (ringsW W)) → Q (.ref l) H'
end Wz

set_option maxRecDepth 100000
set_option maxHeartbeats 4000000
namespace L2
open PySem PySem.Spec PyProof.Rows PySem.Calls
section
variable {X : Cx} {pins : List (Addr × Obj)} {σ : St} {H H' : Hp} {s : Shared}
/-- objects that were not there are tracked, all at once -/
theorem Inv.grown {h' : Heap} {t' : Nat} (I : Inv X pins σ H s) (k : ∀ b u, s.heap.get? b = some u → h'.get? b = some u) (old : ∀ b u, s.heap.get? b = some u → H b = none → H' b = none) (sm : ∀ b o, H b = some o → H' b = some o)
    (new : ∀ b o, H' b = some o → H b = none → ObjOk X.prog X.w H' h' b o) : Inv X pins σ H' { s with heap := h', toks := t' } := by
  refine I.un ⟨fun b u q _ _ _ => k b u q, fun b u q _ _ _ => ⟨u.slots, k b u q⟩, fun b u q n _ => old b u q n, fun b u q _ => ⟨u, k b u q⟩, fun b xs q => sm _ _ q, fun b u xs q => sm _ _ q, fun b ps q => ⟨#[], by rw [sm _ _ q]; simp⟩⟩ fun b u e => ?_
  cases hb : H b with
  | none => exact new b u e hb
  | some v =>
    have := sm _ _ hb
    rw [this] at e; cases e
    exact (I.hok b _ hb).stay (fun c v _ q => k c v q) (fun c q => sm _ _ q) fun c xs q => sm _ _ q
end
/-! ### list(zip(xs, ys)) -/
theorem zip_len : typeLookup (.type "zip") "__len__" = pure none := by rw [typeLookup_type, builtinLookup_eq_fast]; kernel_rfl
theorem zip_hint : typeLookup (.type "zip") "__length_hint__" = pure none := by rw [typeLookup_type, builtinLookup_eq_fast]; kernel_rfl
abbrev IsZ (h : Heap) (z TI TO : Addr) (f0 : Value) (b : Bool) : Prop :=
  h.get? z = some { cls := .type "zip", dict := none, data := .fields #[f0, .bool b, .bool false, .ref TI, .ref TO], slots := #[] }
section
variable {prog : Program} {w : World} {A : Around} {E : Value → Shared → Prop} {s : Shared}
theorem wpAny_loadIf {a : Addr} {Q : Option Obj → Shared → Prop} (h : Q (s.heap.get? a) s) : wpAny (model prog w) A (loadIfAlive a) Q E s := fun Γ p _ => by
  unfold loadIfAlive
  rw [Sem.wp_loadIfAlive]
  exact wpAny_pure (M := model prog w) (A := A) (E := E) h Γ p (by assumption)
theorem not_free {z TI TO T : Addr} {b : Bool} {o : Obj} {Q : Bool → Shared → Prop} (hz : IsZ s.heap z TI TO (rawInt T) b) (hT : s.heap.get? T = some o)
    (hQ : ∀ h', IsZ h' z TI TO (rawInt T) true → Heap.SameBut z s.heap h' → Q false { s with heap := h' }) : wpAny (model prog w) A (Builtin.SmallTypes.ownedTupleIsFree (.ref z)) Q E s := by
  unfold Builtin.SmallTypes.ownedTupleIsFree
  refine wpAny_bind (wpAny_field hz rfl (x := rawInt T) rfl ?_)
  show wpAny _ _ (loadIfAlive T >>= _) _ _ _
  refine wpAny_bind (wpAny_loadIf ?_)
  rw [hT]
  show wpAny _ _ (field (.ref z) 1 >>= _) _ _ _
  refine wpAny_bind (wpAny_field hz rfl (x := .bool b) rfl ?_)
  cases b with
  | true => exact wpAny_bind (wpAny_pure (wpAny_pure (hQ _ hz (by exact ⟨rfl, fun _ _ => rfl⟩))))
  | false => exact wpAny_bind (wpAny_setField_rec hz (by simp) fun h1 hz1 hs1 => wpAny_pure (hQ _ hz1 hs1))
theorem zip_next2_item {z TI TO i1 i2 l1 l2 T : Addr} {k1 k2 : Nat} {b : Bool} {oT : Obj} {xs ys : Array Value} {x y : Value} {Q : Value → Shared → Prop} (D : ZipApart z TI TO i1 i2 l1 l2)
    (hz : IsZ s.heap z TI TO (rawInt T) b) (hT : s.heap.get? T = some oT) (hTI : IsPair s.heap TI (.ref i1) (.ref i2))
    (h1 : s.heap.IsListIter i1 l1 k1) (h2 : s.heap.IsListIter i2 l2 k2) (hl1 : s.heap.IsList l1 xs) (hl2 : s.heap.IsList l2 ys) (hx : xs[k1]? = some x) (hy : ys[k2]? = some y)
    (hQ : ∀ h', IsZ h' z TI TO (rawInt T) true → h'.IsListIter i1 l1 (k1 + 1) → h'.IsListIter i2 l2 (k2 + 1) → IsPair h' s.heap.objs.size x y → h'.objs.size = s.heap.objs.size + 1 →
      (∀ c o, c ≠ z → c ≠ i1 → c ≠ i2 → s.heap.get? c = some o → h'.get? c = some o) → Q (.ref s.heap.objs.size) { s with heap := h' }) :
    wpAny (model prog w) A (Builtin.«zip.__next__» ⟨[.ref z], []⟩) (fun fin s' => ∃ v, fin = .done (.ret v) ∧ Q v s') E s := by
  show wpAny _ _ (field (.ref z) 2 >>= _) _ _ _
  refine wpAny_bind (wpAny_field hz rfl (x := .bool false) rfl ?_)
  show wpAny _ _ (field (.ref z) 3 >>= _) _ _ _
  refine wpAny_bind (wpAny_field hz rfl (x := .ref TI) rfl ?_)
  refine wpAny_bind (wpAny_seqItems hTI rfl ?_)
  show wpAny _ _ (Builtin.SmallTypes.ownedTupleIsFree (.ref z) >>= _) _ _ _
  refine wpAny_bind (not_free hz hT fun h₁ hz₁ hs₁ => ?_)
  simp only [Bool.false_eq_true, if_false]
  refine wpAny_bind ?_
  simp only [List.forIn_toArray, List.forIn_cons, List.forIn_nil]
  refine wpAny_bind (wpAny_bind (wpAny_holding ?_))
  show wpAny _ _ (Builtin.SmallTypes.nextOf (.ref i1) >>= _) _ _ _
  refine wpAny_bind (wpAny_nextOf_list_item (h1.extBut hs₁.extBut D.i1z) (hl1.extBut hs₁.extBut D.l1z) hx fun h₂ h1₂ hs₂ => wpAny_pure (wpAny_pure ?_))
  refine wpAny_bind (wpAny_bind (wpAny_holding ?_))
  show wpAny _ _ (Builtin.SmallTypes.nextOf (.ref i2) >>= _) _ _ _
  refine wpAny_bind (wpAny_nextOf_list_item ((h2.extBut hs₁.extBut D.i2z).extBut hs₂.extBut D.i12.symm) ((hl2.extBut hs₁.extBut D.l2z).extBut hs₂.extBut D.l2i1) hy fun h₄ h2₄ hs₄ => wpAny_pure (wpAny_pure (wpAny_pure ?_)))
  refine wpAny_bind (wpAny_newTuple ?_ (by show 2 ≤ sizeLine; decide))
  have hsz : h₄.objs.size = s.heap.objs.size := by rw [hs₄.1, hs₂.1, hs₁.1]
  refine wpAny_pure ⟨_, rfl, ?_⟩
  show Q (.ref h₄.objs.size) _
  rw [hsz]
  have up : ∀ {c : Addr} {o : Obj}, h₄.get? c = some o → (h₄.push { cls := .type "tuple", data := .seq #[x, y] }).get? c = some o := fun e => Heap.get?_push_of_some _ e
  refine hQ _ (up (hs₄.extBut _ _ D.i2z.symm (hs₂.extBut _ _ D.i1z.symm hz₁))) ((h1₂.extBut hs₄.extBut D.i12).at fun o e => up e) (h2₄.at fun o e => up e) ?_ (by rw [Heap.size_push, hsz]) fun c o c1 c2 c3 e => up (hs₄.extBut _ _ c3 (hs₂.extBut _ _ c2 (hs₁.extBut _ _ c1 e)))
  rw [← hsz]
  exact Heap.get?_push_size _ rfl
theorem zip_next2_end {z TI TO i1 i2 l1 l2 T : Addr} {k1 k2 : Nat} {b : Bool} {oT : Obj} {xs ys : Array Value} {x : Value} {Q : Fin → Shared → Prop} (hh : A.handled = none) (D : ZipApart z TI TO i1 i2 l1 l2)
    (hz : IsZ s.heap z TI TO (rawInt T) b) (hT : s.heap.get? T = some oT) (hTI : IsPair s.heap TI (.ref i1) (.ref i2))
    (h1 : s.heap.IsListIter i1 l1 k1) (h2 : s.heap.IsListIter i2 l2 k2) (hl1 : s.heap.IsList l1 xs) (hl2 : s.heap.IsList l2 ys) (hx : xs[k1]? = some x) (hy : ys[k2]? = none)
    (hE : ∀ h' e, (∀ c o, c ≠ z → c ≠ i1 → c ≠ i2 → s.heap.get? c = some o → h'.get? c = some o) → (∃ o, h'.get? e = some o ∧ o.cls = .type "StopIteration") → E (.ref e) { s with heap := h' }) :
    wpAny (model prog w) A (Builtin.«zip.__next__» ⟨[.ref z], []⟩) Q E s := by
  show wpAny _ _ (field (.ref z) 2 >>= _) _ _ _
  refine wpAny_bind (wpAny_field hz rfl (x := .bool false) rfl ?_)
  show wpAny _ _ (field (.ref z) 3 >>= _) _ _ _
  refine wpAny_bind (wpAny_field hz rfl (x := .ref TI) rfl ?_)
  refine wpAny_bind (wpAny_seqItems hTI rfl ?_)
  show wpAny _ _ (Builtin.SmallTypes.ownedTupleIsFree (.ref z) >>= _) _ _ _
  refine wpAny_bind (not_free hz hT fun h₁ hz₁ hs₁ => ?_)
  simp only [Bool.false_eq_true, if_false]
  refine wpAny_bind ?_
  simp only [List.forIn_toArray, List.forIn_cons, List.forIn_nil]
  refine wpAny_bind (wpAny_bind (wpAny_holding ?_))
  show wpAny _ _ (Builtin.SmallTypes.nextOf (.ref i1) >>= _) _ _ _
  refine wpAny_bind (wpAny_nextOf_list_item (h1.extBut hs₁.extBut D.i1z) (hl1.extBut hs₁.extBut D.l1z) hx fun h₂ h1₂ hs₂ => wpAny_pure (wpAny_pure ?_))
  refine wpAny_bind (wpAny_bind (wpAny_holding ?_))
  show wpAny _ _ (Builtin.SmallTypes.nextOf (.ref i2) >>= _) _ _ _
  refine wpAny_bind (wpAny_nextOf_list_end hh ((h2.extBut hs₁.extBut D.i2z).extBut hs₂.extBut D.i12.symm) ((hl2.extBut hs₁.extBut D.l2z).extBut hs₂.extBut D.l2i1) hy fun h₄ e hs₄ he => ?_)
  exact hE h₄ e (fun c o c1 c2 c3 x => hs₄ _ _ c3 (hs₂.extBut _ _ c2 (hs₁.extBut _ _ c1 x))) he
theorem next2_item {z TI TO i1 i2 l1 l2 T : Addr} {k1 k2 : Nat} {b : Bool} {oT : Obj} {xs ys : Array Value} {x y : Value} {Q : Option Value → Shared → Prop} (D : ZipApart z TI TO i1 i2 l1 l2)
    (hz : IsZ s.heap z TI TO (rawInt T) b) (hT : s.heap.get? T = some oT) (hTI : IsPair s.heap TI (.ref i1) (.ref i2))
    (h1 : s.heap.IsListIter i1 l1 k1) (h2 : s.heap.IsListIter i2 l2 k2) (hl1 : s.heap.IsList l1 xs) (hl2 : s.heap.IsList l2 ys) (hx : xs[k1]? = some x) (hy : ys[k2]? = some y)
    (hQ : ∀ h', IsZ h' z TI TO (rawInt T) true → h'.IsListIter i1 l1 (k1 + 1) → h'.IsListIter i2 l2 (k2 + 1) → IsPair h' s.heap.objs.size x y → h'.objs.size = s.heap.objs.size + 1 →
      (∀ c o, c ≠ z → c ≠ i1 → c ≠ i2 → s.heap.get? c = some o → h'.get? c = some o) → Q (some (.ref s.heap.objs.size)) { s with heap := h' }) :
    wpAny (model prog w) A (pyNext (.ref z)) Q E s := by
  have hTy : s.TypeIs (.ref z) "zip" := ⟨_, hz, rfl⟩
  unfold pyNext
  exact wpAny_bind (wpAny_attempt (wpAny_callSpecial?_slot (name := Str.ofString "__next__") hTy F.slot_zip_next
    (wpAny_call_entry F.slot_zip_next hTy F.entry_zip_next
      (zip_next2_item D hz hT hTI h1 h2 hl1 hl2 hx hy fun h' a1 a3 a4 a5 a6 a7 => wpAny_pure (hQ h' a1 a3 a4 a5 a6 a7)) (F.args_zip_next_1 _))))
theorem next2_end {z TI TO i1 i2 l1 l2 T : Addr} {k1 k2 : Nat} {b : Bool} {oT : Obj} {xs ys : Array Value} {x : Value} {Q : Option Value → Shared → Prop} (hh : A.handled = none) (D : ZipApart z TI TO i1 i2 l1 l2)
    (hz : IsZ s.heap z TI TO (rawInt T) b) (hT : s.heap.get? T = some oT) (hTI : IsPair s.heap TI (.ref i1) (.ref i2))
    (h1 : s.heap.IsListIter i1 l1 k1) (h2 : s.heap.IsListIter i2 l2 k2) (hl1 : s.heap.IsList l1 xs) (hl2 : s.heap.IsList l2 ys) (hx : xs[k1]? = some x) (hy : ys[k2]? = none)
    (hQ : ∀ h', (∀ c o, c ≠ z → c ≠ i1 → c ≠ i2 → s.heap.get? c = some o → h'.get? c = some o) → Q none { s with heap := h' }) : wpAny (model prog w) A (pyNext (.ref z)) Q E s := by
  have hTy : s.TypeIs (.ref z) "zip" := ⟨_, hz, rfl⟩
  unfold pyNext
  refine wpAny_bind (wpAny_attempt (wpAny_callSpecial?_slot (name := Str.ofString "__next__") hTy F.slot_zip_next
    (wpAny_call_entry F.slot_zip_next hTy F.entry_zip_next (zip_next2_end hh D hz hT hTI h1 h2 hl1 hl2 hx hy fun h' e hk he => ?_) (F.args_zip_next_1 _))))
  obtain ⟨o, ho, hc⟩ := he
  refine wpAny_bind (wpAny_isInstance (T := "StopIteration") (b := true) ⟨o, ho, hc⟩ isSubtype_stop ?_)
  exact wpAny_pure (hQ _ hk)
/-- the loop of list.extend over a zip that has handed a tuple out -/
theorem zip_loop {R : Result → Shared → Prop} {z TI TO i1 i2 l1 l2 S : Addr} {xs ys : Array Value} (hh : A.handled = none) (D : ZipApart z TI TO i1 i2 l1 l2) (hxy : ys.size < xs.size) (hn : ys.size ≤ sizeLine) (res : Value)
    (hS1 : S ≠ z) (hS2 : S ≠ i1) (hS3 : S ≠ i2) (hS4 : S ≠ l1) (hS5 : S ≠ l2) (hS6 : S ≠ TI) :
    ∀ (k i : Nat) (s : Shared) (acc : List Addr) (arr : Array Value) (c : Nat) (T : Addr) (b : Bool), arr = (acc.map Value.ref).toArray → ys.size - i = k → i ≤ ys.size → IsZ s.heap z TI TO (rawInt T) b → T ∈ acc → IsPair s.heap TI (.ref i1) (.ref i2) →
    s.heap.IsListIter i1 l1 i → s.heap.IsListIter i2 l2 i → s.heap.IsList l1 xs → s.heap.IsList l2 ys → s.heap.get? S = some { cls := .type "list", dict := none, data := .seq arr c, slots := #[] } → acc.length = i →
    (∀ (j : Nat) (t : Addr), acc[j]? = some t → ∃ x y, xs[j]? = some x ∧ ys[j]? = some y ∧ IsPair s.heap t x y) → (∀ t ∈ acc, t ≠ z ∧ t ≠ i1 ∧ t ≠ i2 ∧ t ≠ S) → acc.Nodup → (∀ t ∈ acc, t < s.heap.objs.size) →
    (∀ (h' : Heap) (acc' : List Addr) (c' : Nat), (∀ b o, b ≠ S → b ≠ z → b ≠ i1 → b ≠ i2 → s.heap.get? b = some o → h'.get? b = some o) → h'.get? S = some { cls := .type "list", dict := none, data := .seq (acc'.map Value.ref).toArray c', slots := #[] } → acc'.length = ys.size → acc'.Nodup →
      (∀ t ∈ acc', t ∈ acc ∨ s.heap.objs.size ≤ t) → (∀ (j : Nat) (t : Addr), acc'[j]? = some t → ∃ x y, xs[j]? = some x ∧ ys[j]? = some y ∧ IsPair h' t x y) → (∀ t ∈ acc', t ≠ S) → R (.ok (.ret res)) { s with heap := h' }) →
    codeAny (model prog w) A (.builtin "list.extend.loop" ⟨[.ref S, .ref z, res], []⟩) R s := by
  intro k
  induction k with
  | zero =>
    intro i s acc arr c T b harr hk hi hz hT hTI h1 h2 hl1 hl2 hS hlen hacc hap nd hlt hR
    have hin : i = ys.size := by omega
    obtain ⟨oT, hoT⟩ : ∃ o, s.heap.get? T = some o := by
      obtain ⟨j, hj⟩ := List.getElem?_of_mem hT
      obtain ⟨_, _, _, _, p⟩ := hacc j T hj
      exact ⟨_, p⟩
    refine codeAny_builtin F.entry_extend_loop ?_
    rw [Around.under_plainId F.plain_extend_loop _]
    show wpAny _ A.in1 (pyNext (.ref z) >>= _) _ _ s
    refine wpAny_bind (next2_end (A := A.in1) hh D hz hoT hTI h1 h2 hl1 hl2 (Array.getElem?_eq_getElem (by omega)) (Array.getElem?_eq_none (by omega)) fun h' hk' => ?_)
    refine wpAny_pure (hR h' acc c (fun b o _ b1 b2 b3 e => hk' b o b1 b2 b3 e) (by rw [← harr]; exact hk' _ _ hS1 hS2 hS3 hS) (by omega) nd (fun t ht => .inl ht) (fun j t e => ?_) fun t ht => (hap t ht).2.2.2)
    obtain ⟨x, y, e1, e2, p⟩ := hacc j t e
    have ha := hap t (List.mem_of_getElem? e)
    exact ⟨x, y, e1, e2, hk' _ _ ha.1 ha.2.1 ha.2.2.1 p⟩
  | succ k ih =>
    intro i s acc arr c T b harr hk hi hz hT hTI h1 h2 hl1 hl2 hS hlen hacc hap nd hlt hR
    obtain ⟨oT, hoT⟩ : ∃ o, s.heap.get? T = some o := by
      obtain ⟨j, hj⟩ := List.getElem?_of_mem hT
      obtain ⟨_, _, _, _, p⟩ := hacc j T hj
      exact ⟨_, p⟩
    refine codeAny_builtin F.entry_extend_loop ?_
    rw [Around.under_plainId F.plain_extend_loop _]
    show wpAny _ A.in1 (pyNext (.ref z) >>= _) _ _ s
    have ex : xs[i]? = some xs[i] := Array.getElem?_eq_getElem (by omega)
    have ey : ys[i]? = some ys[i] := Array.getElem?_eq_getElem (by omega)
    refine wpAny_bind (next2_item (A := A.in1) D hz hoT hTI h1 h2 hl1 hl2 ex ey fun h' z' i1' i2' pn sz keep => ?_)
    have hS' := keep _ _ hS1 hS2 hS3 hS
    show wpAny _ A.in1 (updateSeq S (·.push (.ref s.heap.objs.size)) >>= _) _ _ _
    refine wpAny_bind ?_
    have hsa : arr.size = i := by rw [harr]; simp [hlen]
    obtain ⟨h2', eh2⟩ : ∃ h2', h2' = h'.update S (Obj.mapSeq (·.push (Value.ref s.heap.objs.size))) := ⟨_, rfl⟩
    have up : ∀ b o, b ≠ S → h'.get? b = some o → h2'.get? b = some o := fun b o hb e => by rw [eh2]; exact (Heap.get?_update_other _ _ (fun z => hb z.symm)).trans e
    have hSn : S < s.heap.objs.size := Heap.lt_size hS
    have hzlt : z < s.heap.objs.size := Heap.lt_size hz
    have hi1lt : i1 < s.heap.objs.size := by obtain ⟨_, e, _⟩ := h1; exact Heap.lt_size e
    have hi2lt : i2 < s.heap.objs.size := by obtain ⟨_, e, _⟩ := h2; exact Heap.lt_size e
    have sz2 : h2'.objs.size = s.heap.objs.size + 1 := by rw [eh2, Heap.size_update, sz]
    refine wpAny_updateSeq hS' rfl (wpAny_pure ⟨plainId_quiet F.plain_extend_loop _, ?_⟩) (by rw [hsa]; omega) (by show (arr.push _).size ≤ sizeLine + 1; rw [Array.size_push, hsa]; omega)
    rw [← eh2]
    have kp : ∀ b o, b ≠ S → b ≠ z → b ≠ i1 → b ≠ i2 → s.heap.get? b = some o → h2'.get? b = some o := fun b o b0 b1 b2 b3 e => up b o b0 (keep b o b1 b2 b3 e)
    refine ih (i + 1) { s with heap := h2' } (acc ++ [s.heap.objs.size]) (arr.push (.ref s.heap.objs.size)) _ T true (by rw [harr]; simp) (by omega) (by omega) (up _ _ hS1.symm z') (List.mem_append_left _ hT) (kp _ _ hS6.symm D.TIz D.TIi1 D.TIi2 hTI) (i1'.at fun o e => up _ _ hS2.symm e) (i2'.at fun o e => up _ _ hS3.symm e)
      (hl1.at fun o e => kp _ _ hS4.symm D.l1z D.l1i1 D.l1i2 e) (hl2.at fun o e => kp _ _ hS5.symm D.l2z D.l2i1 D.l2i2 e) (by show h2'.get? S = _; rw [eh2]; exact Heap.get?_update_self _ hS' rfl) (by simp [hlen]) (fun j t e => ?_) (fun t ht => ?_) ?_ (fun t ht => ?_) fun h3 acc' c' k3 s3 l3 n3 m3 p3 f3 => ?_
    · rw [List.getElem?_append] at e
      split at e
      · obtain ⟨x, y, e1, e2, p⟩ := hacc j t e
        have ha := hap t (List.mem_of_getElem? e)
        exact ⟨x, y, e1, e2, kp _ _ ha.2.2.2 ha.1 ha.2.1 ha.2.2.1 p⟩
      · rename_i hj
        have hj0 : j = i := by
          have := (List.getElem?_eq_some_iff.mp e).1
          simp at this; omega
        subst hj0
        rw [hlen, Nat.sub_self] at e
        cases e
        exact ⟨_, _, ex, ey, up _ _ (Nat.ne_of_gt hSn) pn⟩
    · rcases List.mem_append.mp ht with q | q
      · exact hap t q
      · rw [List.mem_singleton.mp q]; exact ⟨Nat.ne_of_gt hzlt, Nat.ne_of_gt hi1lt, Nat.ne_of_gt hi2lt, Nat.ne_of_gt hSn⟩
    · refine List.nodup_append.mpr ⟨nd, by simp, fun a ha b hb => ?_⟩
      rw [List.mem_singleton.mp hb]; exact Nat.ne_of_lt (hlt a ha)
    · show t < h2'.objs.size
      rw [sz2]
      rcases List.mem_append.mp ht with q | q
      · exact Nat.lt_succ_of_lt (hlt t q)
      · rw [List.mem_singleton.mp q]; exact Nat.lt_succ_self _
    · refine hR h3 acc' c' (fun b o b0 b1 b2 b3 e => k3 b o b0 b1 b2 b3 (kp b o b0 b1 b2 b3 e)) s3 l3 n3 (fun t ht => ?_) p3 f3
      rcases m3 t ht with q | q
      · rcases List.mem_append.mp q with q | q
        · exact .inl q
        · rw [List.mem_singleton.mp q]; exact .inr (Nat.le_refl _)
      · right; have q : h2'.objs.size ≤ t := q; omega
theorem zip_loop0 {R : Result → Shared → Prop} {z TI TO i1 i2 l1 l2 S : Addr} {xs ys : Array Value} (hh : A.handled = none) (D : ZipApart z TI TO i1 i2 l1 l2) (hxy : ys.size < xs.size) (hn : ys.size ≤ sizeLine) (res : Value)
    (hS1 : S ≠ z) (hS2 : S ≠ i1) (hS3 : S ≠ i2) (hS4 : S ≠ l1) (hS5 : S ≠ l2) (hS6 : S ≠ TI) (hS7 : S ≠ TO) {a b : Value} {c : Nat} (hz : IsZip s.heap z TI TO .none) (hTI : IsPair s.heap TI (.ref i1) (.ref i2)) (hTO : IsPair s.heap TO a b)
    (h1 : s.heap.IsListIter i1 l1 0) (h2 : s.heap.IsListIter i2 l2 0) (hl1 : s.heap.IsList l1 xs) (hl2 : s.heap.IsList l2 ys) (hS : s.heap.get? S = some { cls := .type "list", dict := none, data := .seq #[] c, slots := #[] })
    (hR : ∀ (h' : Heap) (acc' : List Addr) (c' : Nat), (∀ b o, b ≠ S → b ≠ z → b ≠ TO → b ≠ i1 → b ≠ i2 → s.heap.get? b = some o → h'.get? b = some o) → h'.get? S = some { cls := .type "list", dict := none, data := .seq (acc'.map Value.ref).toArray c', slots := #[] } → acc'.length = ys.size → acc'.Nodup →
      (∀ t ∈ acc', s.heap.objs.size ≤ t) → (∀ (j : Nat) (t : Addr), acc'[j]? = some t → ∃ x y, xs[j]? = some x ∧ ys[j]? = some y ∧ IsPair h' t x y) → R (.ok (.ret res)) { s with heap := h' }) :
    codeAny (model prog w) A (.builtin "list.extend.loop" ⟨[.ref S, .ref z, res], []⟩) R s := by
  refine codeAny_builtin F.entry_extend_loop ?_
  rw [Around.under_plainId F.plain_extend_loop _]
  show wpAny _ A.in1 (pyNext (.ref z) >>= _) _ _ s
  by_cases h0 : ys.size = 0
  · refine wpAny_bind (wpAny_pyNext_zip_end (A := A.in1) hh D hz hTI hTO h1 h2 hl1 hl2 (.inr (Array.getElem?_eq_none (by omega))) fun h' hk' => ?_)
    exact wpAny_pure (hR h' [] c (fun b o _ b1 b2 b3 b4 e => hk' b o b1 b2 b3 b4 e) (hk' _ _ hS1 hS7 hS2 hS3 hS) (by simp [h0]) List.nodup_nil (fun t ht => nomatch ht) fun j t e => by simp at e)
  · have ex : xs[0]? = some xs[0] := Array.getElem?_eq_getElem (by omega)
    have ey : ys[0]? = some ys[0] := Array.getElem?_eq_getElem (by omega)
    refine wpAny_bind (wpAny_pyNext_zip_item (A := A.in1) D hz hTI hTO h1 h2 hl1 hl2 ex ey fun h' z' _ i1' i2' pn sz keep => ?_)
    have hS' := keep _ _ hS1 hS7 hS2 hS3 hS
    show wpAny _ A.in1 (updateSeq S (·.push (.ref s.heap.objs.size)) >>= _) _ _ _
    refine wpAny_bind ?_
    obtain ⟨h2', eh2⟩ : ∃ h2', h2' = h'.update S (Obj.mapSeq (·.push (Value.ref s.heap.objs.size))) := ⟨_, rfl⟩
    have up : ∀ b o, b ≠ S → h'.get? b = some o → h2'.get? b = some o := fun b o hb e => by rw [eh2]; exact (Heap.get?_update_other _ _ (fun z => hb z.symm)).trans e
    have hSn : S < s.heap.objs.size := Heap.lt_size hS
    have hzlt : z < s.heap.objs.size := Heap.lt_size hz
    have hi1lt : i1 < s.heap.objs.size := by obtain ⟨_, e, _⟩ := h1; exact Heap.lt_size e
    have hi2lt : i2 < s.heap.objs.size := by obtain ⟨_, e, _⟩ := h2; exact Heap.lt_size e
    have sz2 : h2'.objs.size = s.heap.objs.size + 1 := by rw [eh2, Heap.size_update, sz]
    refine wpAny_updateSeq hS' rfl (wpAny_pure ⟨plainId_quiet F.plain_extend_loop _, ?_⟩) (Nat.zero_le _) (by show (1 : Nat) ≤ sizeLine + 1; omega)
    rw [← eh2]
    have kp : ∀ b o, b ≠ S → b ≠ z → b ≠ TO → b ≠ i1 → b ≠ i2 → s.heap.get? b = some o → h2'.get? b = some o := fun b o b0 b1 b2 b3 b4 e => up b o b0 (keep b o b1 b2 b3 b4 e)
    refine zip_loop hh D hxy hn res hS1 hS2 hS3 hS4 hS5 hS6 (ys.size - 1) 1 { s with heap := h2' } [s.heap.objs.size] #[.ref s.heap.objs.size] _ s.heap.objs.size false rfl (by omega) (by omega) (up _ _ hS1.symm z') List.mem_cons_self (kp _ _ hS6.symm D.TIz D.TITO D.TIi1 D.TIi2 hTI) (i1'.at fun o e => up _ _ hS2.symm e) (i2'.at fun o e => up _ _ hS3.symm e)
      (hl1.at fun o e => kp _ _ hS4.symm D.l1z D.l1TO D.l1i1 D.l1i2 e) (hl2.at fun o e => kp _ _ hS5.symm D.l2z D.l2TO D.l2i1 D.l2i2 e) (by show h2'.get? S = _; rw [eh2]; exact Heap.get?_update_self _ hS' rfl) rfl (fun j t e => ?_) (fun t ht => ?_) (by simp) (fun t ht => ?_) fun h3 acc' c' k3 s3 l3 n3 m3 p3 f3 => ?_
    · cases j with
      | zero => cases e; exact ⟨_, _, ex, ey, up _ _ (Nat.ne_of_gt hSn) pn⟩
      | succ j => simp at e
    · rw [List.mem_singleton.mp ht]; exact ⟨Nat.ne_of_gt hzlt, Nat.ne_of_gt hi1lt, Nat.ne_of_gt hi2lt, Nat.ne_of_gt hSn⟩
    · show t < h2'.objs.size
      rw [sz2, List.mem_singleton.mp ht]; exact Nat.lt_succ_self _
    · refine hR h3 acc' c' (fun b o b0 b1 b2 b3 b4 e => k3 b o b0 b1 b3 b4 (kp b o b0 b1 b2 b3 b4 e)) s3 l3 n3 (fun t ht => ?_) p3
      rcases m3 t ht with q | q
      · rw [List.mem_singleton.mp q]; exact Nat.le_refl _
      · have q : h2'.objs.size ≤ t := q; omega
theorem call_list_zip {Q : Value → Shared → Prop} {z TI TO i1 i2 l1 l2 : Addr} {xs ys : Array Value} (hh : A.handled = none) (D : ZipApart z TI TO i1 i2 l1 l2) (hxy : ys.size < xs.size) (hn : ys.size ≤ sizeLine) {a b : Value}
    (hz : IsZip s.heap z TI TO .none) (hTI : IsPair s.heap TI (.ref i1) (.ref i2)) (hTO : IsPair s.heap TO a b)
    (h1 : s.heap.IsListIter i1 l1 0) (h2 : s.heap.IsListIter i2 l2 0) (hl1 : s.heap.IsList l1 xs) (hl2 : s.heap.IsList l2 ys)
    (hQ : ∀ (h' : Heap) (acc' : List Addr) (c' : Nat), (∀ b o, b ≠ z → b ≠ TO → b ≠ i1 → b ≠ i2 → s.heap.get? b = some o → h'.get? b = some o) → h'.get? s.heap.objs.size = some { cls := .type "list", dict := none, data := .seq (acc'.map Value.ref).toArray c', slots := #[] } → acc'.length = ys.size → acc'.Nodup →
      (∀ t ∈ acc', s.heap.objs.size < t) → (∀ (j : Nat) (t : Addr), acc'[j]? = some t → ∃ x y, xs[j]? = some x ∧ ys[j]? = some y ∧ IsPair h' t x y) → Q (.ref s.heap.objs.size) { s with heap := h' }) :
    wpAny (model prog w) A (call (.type "list") [.ref z]) Q E s := by
  refine callType_codes (Q₁ := fun obj s1 => obj = .ref s.heap.objs.size ∧ s1 = { s with heap := s.heap.push { cls := .type "list", data := .seq #[] } }) PySem.F.called_list (PySem.F.typeCall_list_1 _) PySem.F.entry_list_init (code_list_new _ ⟨rfl, rfl⟩) fun obj s1 he => ?_
  obtain ⟨rfl, rfl⟩ := he
  have hS : (s.heap.push { cls := .type "list", data := .seq #[] }).get? s.heap.objs.size = some { cls := .type "list", data := .seq #[] } := Heap.get?_push_size _ rfl
  refine ⟨⟨_, hS, rfl⟩, PySem.F.args_list_init_2 _ _, ?_⟩
  show wpAny _ _ (do let old ← Builtin.List.listItems (.ref s.heap.objs.size); Builtin.List.listUpdate (.ref s.heap.objs.size) (fun _ => #[]); letGo old.toList.reverse; Builtin.List.listExtendWith (.ref s.heap.objs.size) (.ref z) .none) _ _ _
  refine wpAny_bind ?_
  unfold Builtin.List.listItems
  refine wpAny_bind (wpAny_seqItems hS rfl (wpAny_pure ?_))
  show wpAny _ _ (updateSeq s.heap.objs.size (fun _ => #[]) >>= fun _ => letGo (#[] : Array Value).toList.reverse >>= fun _ => Builtin.List.listExtendWith (.ref s.heap.objs.size) (.ref z) .none) _ _ _
  refine wpAny_bind (wpAny_updateSeq hS rfl ?_)
  have hS2 := Heap.get?_update_self (Obj.mapSeq (fun _ => (#[] : Array Value))) hS rfl
  have oth : ∀ b o, s.heap.get? b = some o → ((s.heap.push { cls := .type "list", data := .seq #[] }).update s.heap.objs.size (Obj.mapSeq (fun _ => (#[] : Array Value)))).get? b = some o :=
    fun b o e => (Heap.get?_update_other _ _ (Nat.ne_of_gt (Heap.lt_size e))).trans (Heap.get?_push_of_some _ e)
  have szz : ((s.heap.push { cls := .type "list", data := .seq #[] }).update s.heap.objs.size (Obj.mapSeq (fun _ => (#[] : Array Value)))).objs.size = s.heap.objs.size + 1 := by rw [Heap.size_update, Heap.size_push]
  refine wpAny_bind (wpAny_letGo ?_)
  generalize (s.heap.push { cls := .type "list", data := .seq #[] }).update s.heap.objs.size (Obj.mapSeq (fun _ => (#[] : Array Value))) = g at hS2 oth szz ⊢
  have zlt : z ≠ s.heap.objs.size := Nat.ne_of_lt (Heap.lt_size hz)
  have hT : Shared.TypeIs { s with heap := g } (.ref z) "zip" := ⟨_, oth _ _ hz, rfl⟩
  unfold Builtin.List.listExtendWith
  refine wpAny_bind (wpAny_typeOf (T := "zip") hT ?_)
  have q1 : Builtin.List.listSameRef (.ref s.heap.objs.size) (.ref z) = false := by simp [Builtin.List.listSameRef, zlt.symm]
  have q2 : (Value.type "zip" == Value.type "list") = false := by decide
  have q3 : (Value.type "zip" == Value.type "tuple") = false := by decide
  simp only [q1, q2, q3, Bool.or_false, Bool.false_eq_true, if_false]
  refine wpAny_bind (wpAny_pyIter_zip (oth _ _ hz) ?_)
  refine wpAny_bind (wpAny_holding ?_)
  unfold Builtin.List.listLengthHint
  refine wpAny_bind (wpAny_specialOf hT zip_len ?_)
  show wpAny _ _ (specialOf (Value.ref z) (Str.ofString "__length_hint__") >>= _) _ _ _
  refine wpAny_bind (wpAny_specialOf hT zip_hint ?_)
  refine wpAny_pure ?_
  show wpAny _ _ (rule "list.extend.makes-room" >>= fun _ => Builtin.List.listTouch (.ref s.heap.objs.size) >>= fun _ =>
    again (.builtin "list.extend.loop" ⟨[.ref s.heap.objs.size, .ref z, .none], []⟩)) _ _ _
  refine wpAny_bind (wpAny_rule ?_)
  refine wpAny_bind ?_
  show wpAny _ _ (updateSeq s.heap.objs.size (·.push .none) >>= fun _ => updateSeq s.heap.objs.size (·.pop)) _ _ _
  refine wpAny_bind (wpAny_updateSeq hS2 rfl ?_)
  have hS₂ := Heap.get?_update_self (Obj.mapSeq (·.push Value.none)) hS2 rfl
  refine wpAny_updateSeq hS₂ rfl ?_
  have hS₃ := Heap.get?_update_self (Obj.mapSeq (·.pop)) hS₂ rfl
  have oth2 : ∀ b o, s.heap.get? b = some o → ((g.update s.heap.objs.size (Obj.mapSeq (·.push Value.none))).update s.heap.objs.size (Obj.mapSeq (·.pop))).get? b = some o :=
    fun b o e => (Heap.get?_update_other _ _ (Nat.ne_of_gt (Heap.lt_size e))).trans ((Heap.get?_update_other _ _ (Nat.ne_of_gt (Heap.lt_size e))).trans (oth b o e))
  have szz2 : ((g.update s.heap.objs.size (Obj.mapSeq (·.push Value.none))).update s.heap.objs.size (Obj.mapSeq (·.pop))).objs.size = s.heap.objs.size + 1 := by rw [Heap.size_update, Heap.size_update, szz]
  generalize (g.update s.heap.objs.size (Obj.mapSeq (·.push Value.none))).update s.heap.objs.size (Obj.mapSeq (·.pop)) = g2 at hS₃ oth2 szz2 ⊢
  have li1 : i1 ≠ s.heap.objs.size := by obtain ⟨_, e, _⟩ := h1; exact Nat.ne_of_lt (Heap.lt_size e)
  have li2 : i2 ≠ s.heap.objs.size := by obtain ⟨_, e, _⟩ := h2; exact Nat.ne_of_lt (Heap.lt_size e)
  have ll1 : l1 ≠ s.heap.objs.size := by obtain ⟨_, e, _⟩ := hl1; exact Nat.ne_of_lt (Heap.lt_size e)
  have ll2 : l2 ≠ s.heap.objs.size := by obtain ⟨_, e, _⟩ := hl2; exact Nat.ne_of_lt (Heap.lt_size e)
  refine wpAny_pure ⟨plainId_quiet F.plain_extend_loop _, ?_⟩
  refine zip_loop0 (A := A.in1) (s := { s with heap := g2 }) (S := s.heap.objs.size) hh D hxy hn .none zlt.symm li1.symm li2.symm ll1.symm ll2.symm (Nat.ne_of_gt (Heap.lt_size hTI)) (Nat.ne_of_gt (Heap.lt_size hTO)) (oth2 _ _ hz) (oth2 _ _ hTI) (oth2 _ _ hTO) (h1.at fun o e => oth2 _ _ e) (h2.at fun o e => oth2 _ _ e) (hl1.at fun o e => oth2 _ _ e) (hl2.at fun o e => oth2 _ _ e) hS₃ fun h' acc' c' k3 s3 l3 n3 m3 p3 => ?_
  refine ⟨rfl, hQ h' acc' c' (fun b o b1 b2 b3 b4 e => k3 b o (Nat.ne_of_lt (Heap.lt_size e)) b1 b2 b3 b4 (oth2 b o e)) s3 l3 n3 (fun t ht => ?_) p3⟩
  have := m3 t ht
  have this : g2.objs.size ≤ t := this
  omega
end
/-- tuples laid at the addresses -/
def layT (H : Hp) : List Addr → List (V × V) → Hp
  | [], _ => H
  | _, [] => H
  | t :: ts, p :: ps => upd (layT H ts ps) t (.tup [p.1, p.2])
theorem layT_out {H : Hp} : ∀ {ts : List Addr} {ps : List (V × V)} {b : Addr}, b ∉ ts → layT H ts ps b = H b
  | [], _, _, _ => rfl
  | _ :: _, [], _, _ => rfl
  | t :: ts, p :: ps, b, h => by
    show upd (layT H ts ps) t _ b = _
    rw [upd_ne (fun e => h (by rw [e]; exact List.mem_cons_self))]
    exact layT_out fun m => h (List.mem_cons_of_mem _ m)
theorem layT_in {H : Hp} : ∀ {ts : List Addr} {ps : List (V × V)} {b : Addr} {o : HO}, ts.Nodup → b ∈ ts → layT H ts ps b = some o → H b = none → ∃ j : Nat, ∃ p, ts[j]? = some b ∧ ps[j]? = some p ∧ o = .tup [p.1, p.2]
  | [], _, _, _, _, h, _, _ => nomatch h
  | _ :: _, [], _, _, _, _, e, n => by rw [show layT H (_ :: _) [] = H from rfl, n] at e; cases e
  | t :: ts, p :: ps, b, o, nd, h, e, n => by
    by_cases hb : b = t
    · subst hb
      rw [show layT H (b :: ts) (p :: ps) = upd (layT H ts ps) b (.tup [p.1, p.2]) from rfl, upd_same] at e
      exact ⟨0, p, rfl, rfl, (Option.some.inj e).symm⟩
    · rw [show layT H (t :: ts) (p :: ps) = upd (layT H ts ps) t (.tup [p.1, p.2]) from rfl, upd_ne hb] at e
      obtain ⟨j, q, e1, e2, e3⟩ := layT_in (List.nodup_cons.mp nd).2 ((List.mem_cons.mp h).resolve_left hb) e n
      exact ⟨j + 1, q, e1, e2, e3⟩
theorem layT_pairs {H : Hp} : ∀ {ts : List Addr} {ps : List (V × V)}, ts.Nodup → ts.length = ps.length → Paired (fun t (p : V × V) => layT H ts ps t = some (.tup [p.1, p.2])) ts ps
  | [], [], _, _ => .nil
  | [], _ :: _, _, h => by simp at h
  | _ :: _, [], _, h => by simp at h
  | t :: ts, p :: ps, nd, h => by
    refine .cons (show upd (layT H ts ps) t (.tup [p.1, p.2]) t = _ from upd_same) ?_
    have hn := List.nodup_cons.mp nd
    have key : ∀ {us : List Addr} {qs : List (V × V)} {R S : Addr → V × V → Prop}, (∀ u ∈ us, ∀ q, R u q → S u q) → Paired R us qs → Paired S us qs := fun {us qs R S} hRS pr => by
      induction pr with
      | nil => exact .nil
      | cons r _ ih => exact .cons (hRS _ List.mem_cons_self _ r) (ih fun u hu => hRS u (List.mem_cons_of_mem _ hu))
    refine key (R := fun t (p : V × V) => layT H ts ps t = some (.tup [p.1, p.2])) (fun u hu q e => ?_) (layT_pairs (H := H) hn.2 (by simpa using h))
    show upd (layT H ts ps) t _ u = _
    rw [upd_ne (fun z => hn.1 (by rw [← z]; exact hu))]; exact e
/-- list(zip(xs, ys)), ys shorter than xs -/
def tListZip (K : PySem.W.Frag) (t : TA) : TE := fun σ H Q => t σ H fun vs H1 => ∃ (a b : Addr) (xs ys : List V), vs = [.ref a, .ref b] ∧ SqL K H1 a xs ∧ SqL K H1 b ys ∧ ys.length < xs.length ∧
  ∀ (l : Addr) (ts : List Addr) (H' : Hp), H1 l = none → (∀ c o, H1 c = some o → H' c = some o) → H' l = some (.lst (ts.map V.ref)) → Paired (fun t (p : V × V) => H' t = some (.tup [p.1, p.2])) ts (xs.zip ys) → Q (.ref l) H'
theorem pe_listzip {X : Cx} {e : Expr} {es : List Expr} {t : TA} {p p2 pos pos2 : Pos} (hc : X.calm = true) (ha : PA X (e :: es) t) (hg : Gl X "list") (hm : X.mg "list" = none) (hg2 : Gl X "zip") (hm2 : X.mg "zip" = none)
    (he : starEach (e :: es) X.env = (false, eval e X.env) :: starEach es X.env := by rfl) (hpl : (backTo pos2 (starEach es X.env)).any (·.1) = false := by rfl)
    (hs2 : starEach [.Call (.Name "zip" p2) (e :: es) [] pos2] X.env = [(false, eval (.Call (.Name "zip" p2) (e :: es) [] pos2) X.env)] := by rfl) :
    PE X (.Call (.Name "list" p) [.Call (.Name "zip" p2) (e :: es) [] pos2] [] pos) (tListZip X.K t) := by
  intro pins s σ H Q I h
  refine wpAny_Call_Name_kw (ld_blt I hg hm boot_list ?_ (by decide) (by decide))
  refine PyProof.Rows.callWith_type1 ?_ hs2 rfl
  rw [hs2]
  refine spliced_cons (wpAny_Call_Name_kw (ld_blt I hg2 hm2 boot_zip ?_ (by decide) (by decide)))
  refine PyProof.Rows.callWith_type1 (thn (ha pos2 pins s σ H _ I h) fun us s1 ⟨vs, H1, I1, r1, a, b, xs, ys, ev, hqa, hqb, hlt, q⟩ => ?_) he hpl
  subst ev
  obtain ⟨u1, u2, rfl, ru1, ru2⟩ := r1.two
  cases ru1
  cases ru2
  obtain ⟨ita, rva, pla, hza⟩ := I1.list hqa
  obtain ⟨itb, rvb, plb, hzb⟩ := I1.list hqb
  have la := rva.length
  have lb := rvb.length
  have lta : a < s1.heap.objs.size := by obtain ⟨o, n, e, _⟩ := pla; exact Heap.lt_size e
  have ltb : b < s1.heap.objs.size := by obtain ⟨o, n, e, _⟩ := plb; exact Heap.lt_size e
  refine call_zip_2 pla.isList plb.isList fun h1 z1 t1 t2 i1 i2 sz k1 => spliced_nil ?_
  refine call_list_zip (s := { s1 with heap := h1 }) (I1.ok.hd hc) (zipApart_new lta ltb) (by simpa using (show itb.length < ita.length by omega)) (by simpa using (show itb.length ≤ sizeLine by omega)) z1 t1 t2 i1 i2 (pla.isList.at fun o e => k1 _ _ e) (plb.isList.at fun o e => k1 _ _ e) fun h' ts c' k2 s2 l2 n2 m2 p2 => ?_
  have l2 : ts.length = itb.length := by simpa using l2
  have m2 : ∀ t ∈ ts, h1.objs.size < t := m2
  have s2 : h'.get? h1.objs.size = some { cls := .type "list", dict := none, data := .seq (ts.map Value.ref).toArray c', slots := #[] } := s2
  have kk : ∀ c o, s1.heap.get? c = some o → h'.get? c = some o := fun c o e => by
    have hc : c < s1.heap.objs.size := Heap.lt_size e
    exact k2 c o (Nat.ne_of_lt (Nat.lt_of_lt_of_le hc (Nat.le_add_right _ _))) (Nat.ne_of_lt (Nat.lt_of_lt_of_le hc (Nat.le_add_right _ _))) (Nat.ne_of_lt hc) (Nat.ne_of_lt (Nat.lt_of_lt_of_le hc (Nat.le_add_right _ _))) (k1 c o e)
  have ln : h1.objs.size ∉ ts := fun hm => Nat.lt_irrefl _ (m2 _ hm)
  have lz : (xs.zip ys).length = ts.length := by rw [List.length_zip]; omega
  have out : ∀ c, c < s1.heap.objs.size → upd (layT H1 ts (xs.zip ys)) h1.objs.size (.lst (ts.map V.ref)) c = H1 c := fun c hc => by
    have hne : c ≠ h1.objs.size := by omega
    have hnm : c ∉ ts := fun hm => by have := m2 c hm; omega
    rw [upd_ne hne, layT_out hnm]
  refine ⟨.ref h1.objs.size, upd (layT H1 ts (xs.zip ys)) h1.objs.size (.lst (ts.map V.ref)), ?_, rfl, ?_⟩
  · refine I1.grown kk (fun c u e n => by rw [out c (Heap.lt_size e)]; exact n) (fun c o e => by rw [out c (I1.hok c o e).lt]; exact e) fun c o e n => ?_
    by_cases hb : c = h1.objs.size
    · subst hb
      rw [upd_same] at e
      cases e
      refine ⟨by rw [List.length_map]; omega, ts.map Value.ref, c', ?_, s2⟩
      exact vals_pw (by simp) fun i y v e1 e2 => by
        rw [List.getElem?_map] at e1 e2
        cases hts : ts[i]? with
        | none => rw [hts] at e1; cases e1
        | some t => rw [hts] at e1 e2; cases e1; cases e2; exact rfl
    · rw [upd_ne hb] at e
      by_cases hm : c ∈ ts
      · obtain ⟨j, pp, e1, e2, rfl⟩ := layT_in n2 hm e n
        obtain ⟨x, y, ex, ey, ip⟩ := p2 j c e1
        obtain ⟨f1, f2⟩ := List.getElem?_zip_eq_some.mp e2
        obtain ⟨v1, g1, w1⟩ := rva.get f1
        obtain ⟨v2, g2, w2⟩ := rvb.get f2
        have ex : ita[j]? = some x := by simpa using ex
        have ey : itb[j]? = some y := by simpa using ey
        rw [ex] at g1; cases g1
        rw [ey] at g2; cases g2
        exact ⟨(show 2 ≤ sizeLine by decide), [x, y], .cons w1 (.cons w2 .nil), ⟨_, ip, rfl, _, rfl⟩⟩
      · rw [layT_out hm, n] at e; cases e
  · refine q _ ts _ (I1.hok.fresh (by omega)) (fun c o e => by rw [out c (I1.hok c o e).lt]; exact e) upd_same ?_
    have pr := layT_pairs (H := H1) n2 lz.symm
    have key : ∀ {us : List Addr} {qs : List (V × V)} {R S : Addr → V × V → Prop}, (∀ u ∈ us, ∀ q, R u q → S u q) → Paired R us qs → Paired S us qs := fun {us qs R S} hRS pr => by
      induction pr with
      | nil => exact .nil
      | cons r _ ih => exact .cons (hRS _ List.mem_cons_self _ r) (ih fun u hu => hRS u (List.mem_cons_of_mem _ hu))
    exact key (fun u hu q e => by rw [upd_ne (fun z => ln (by rw [← z]; exact hu))]; exact e) pr
end L2

set_option maxRecDepth 100000
set_option maxHeartbeats 4000000
namespace Wz
open PySem L2
theorem prm_worn (ps : List (Int × Int)) : Prm (wornL ps) := ⟨inj_worn ps, fun g hg => wr_keys (inj_worn ps) hg, nodup_paper ps (w := []) (by simp [keysL])⟩
/-- the rings of all, by turns -/
def qS (W : List (Int × Int)) (i : Nat) : List Int × List (List Int) := ((sortI (keysL W)).take i).foldl (stepR (wr W) W.length) ([], [])
def ringsS (W : List (Int × Int)) : List (List Int) := ringsA (wr W) W.length (sortI (keysL W)) []
def shortW (W : List (Int × Int)) : List (Int × Int) := shortR (ringsS W)
theorem qS_end (W : List (Int × Int)) {n : Nat} (h : (sortI (keysL W)).length ≤ n) : (qS W n).2 = ringsS W := by unfold qS; rw [List.take_of_length_le h, fold_rings]; rfl
theorem qS_next {W : List (Int × Int)} {i : Nat} {g : Int} (h : (sortI (keysL W))[i]? = some g) : qS W (i + 1) = stepR (wr W) W.length (qS W i) g := by unfold qS; rw [List.take_add_one, h, Option.toList_some, List.foldl_append]; rfl
theorem Prm.keysS {W : List (Int × Int)} (P : Prm W) : (∀ g ∈ sortI (keysL W), wr W g ∈ sortI (keysL W)) ∧ (sortI (keysL W)).length ≤ W.length ∧ (sortI (keysL W)).Nodup :=
  ⟨fun g hg => mem_sortI.mpr (P.cl g (mem_sortI.mp hg)), by rw [len_sortI, len_keys]; exact Nat.le_refl _, (sortI_pm _).nodup_iff.mpr P.nd⟩
theorem qS_ok {W : List (Int × Int)} (P : Prm W) (i : Nat) : (qS W i).1.Nodup ∧ (∀ x ∈ (qS W i).1, x ∈ keysL W) ∧ (qS W i).1.length ≤ W.length ∧ (∀ r ∈ (qS W i).2, r.Nodup ∧ 0 < r.length ∧ ∀ x ∈ r, x ∈ keysL W) ∧ ((qS W i).2.flatten) = (qS W i).1 := by
  obtain ⟨w3, w4, w5⟩ := P.keysS
  have sub : ∀ x ∈ (sortI (keysL W)).take i, x ∈ sortI (keysL W) := fun x hx => List.mem_of_mem_take hx
  obtain ⟨a, b, c, d⟩ := rings_ok P.inj w3 w4 ((sortI (keysL W)).take i) [] sub (fun x h => by cases h)
  have e : qS W i = ((ringsA (wr W) W.length ((sortI (keysL W)).take i) []).flatten, ringsA (wr W) W.length ((sortI (keysL W)).take i) []) := by unfold qS; rw [fold_rings]; rfl
  rw [e]
  refine ⟨a, fun x hx => mem_sortI.mp (b x hx).2, Nat.le_trans (nodup_len a fun x hx => (b x hx).2) w4, fun r hr => ?_, rfl⟩
  obtain ⟨g, _, rfl, R⟩ := d r hr
  refine ⟨ring_nodup P.inj R.2.2, by rw [len_ringR]; exact R.1, fun x hx => mem_sortI.mp (b x (List.mem_flatten.mpr ⟨_, hr, hx⟩)).2⟩
theorem pairsR_in {r : List Int} (nd : r.Nodup) {p : Int × Int} (h : p ∈ pairsR r) : p.1 ≠ p.2 ∧ p.1 ∈ r ∧ p.2 ∈ r := by
  unfold pairsR at h
  obtain ⟨i, hi⟩ := List.getElem?_of_mem h
  obtain ⟨e1, e2⟩ := List.getElem?_zip_eq_some.mp hi
  rw [List.getElem?_drop] at e2
  refine ⟨fun z => ?_, List.mem_of_getElem? e1, List.mem_of_getElem? e2⟩
  have hl := (List.getElem?_eq_some_iff.mp e1).1
  rw [z] at e1
  have := (List.getElem?_inj hl nd).mp (e1.trans e2.symm)
  omega
theorem short_le : ∀ (rs : List (List Int)), (shortR rs).length ≤ rs.flatten.length
  | [] => Nat.le_refl _
  | r :: rs => by
    have := short_le rs
    unfold shortR at this ⊢
    rw [List.flatMap_cons, List.flatten_cons, List.length_append, List.length_append, len_pairsR]
    omega
theorem Prm.short {W : List (Int × Int)} (P : Prm W) : (∀ p ∈ shortW W, p.1 ≠ p.2 ∧ p.1 ∈ keysL W ∧ p.2 ∈ keysL W) ∧ (shortW W).length + (ringsW W).length = (wrongL W).length ∧ wr (wornL (shortW W)) = wr W ∧ (shortW W).length ≤ W.length ∧ (wornL (shortW W)).length ≤ W.length := by
  obtain ⟨w3, w4, w5⟩ := P.keysS
  have hq := qS_ok P (sortI (keysL W)).length
  rw [qS_end W (Nat.le_refl _)] at hq
  obtain ⟨q1, q2, q3, q4, q5⟩ := hq
  have A : ∀ p ∈ shortW W, p.1 ≠ p.2 ∧ p.1 ∈ keysL W ∧ p.2 ∈ keysL W := fun p hp => by
    unfold shortW shortR at hp
    obtain ⟨r, hr, hpr⟩ := List.mem_flatMap.mp hp
    obtain ⟨nd, _, sub⟩ := q4 r hr
    obtain ⟨a, b, c⟩ := pairsR_in nd hpr
    exact ⟨a, sub _ b, sub _ c⟩
  refine ⟨A, short_count P.inj w3 w4 w5, ?_, ?_, ?_⟩
  · unfold wornL
    rw [wr_paper]
    have : wr ([] : List (Int × Int)) = id := by funext x; rfl
    rw [this]
    exact short_all P.inj w3 w4 fun x hx => wr_out fun z => hx (mem_sortI.mpr z)
  · have := short_le (ringsS W)
    rw [q5] at this
    exact Nat.le_trans this q3
  · have e : (wornL (shortW W)).length = (keysL (wornL (shortW W))).length := by simp [keysL]
    rw [e, ← len_keys W]
    refine nodup_len (nodup_paper _ (w := []) (by simp [keysL])) fun x hx => ?_
    rcases (mem_paper _).mp hx with z | ⟨p, hp, e⟩
    · simp [keysL] at z
    · rcases e with e | e
      · rw [e]; exact (A p hp).2.1
      · rw [e]; exact (A p hp).2.2
def spRingF : Sp := fun vs H Q _ => ∃ (w : Addr) (W : List (Int × Int)) (g : Int), vs = [.ref w, .int g] ∧ H w = some (.dK (dk W)) ∧ W.length < 64 ∧ Prm W ∧ g ∈ keysL W ∧
  ∀ (l : Addr) (H' : Hp), H l = none → Same H H' → H' l = some (.lst ((ringR (wr W) W.length g).map V.int)) → Q (.ref l) H'
def spShort : Sp := fun vs H Q _ => ∃ (l : Addr) (ps : List (Int × Int)), vs = [.ref l] ∧ RowAt H l ps ∧ ps.length ≤ 1000 ∧ (wornL ps).length < 64 ∧
  ∀ (l' : Addr) (H' : Hp), H l' = none → Same H H' → RowAt H' l' (shortW (wornL ps)) → Q (.ref l') H'
theorem paired_ints {H : Hp} : ∀ {ps : List (Int × Int)} {ts : List Addr}, Paired (fun t (p : V × V) => H t = some (.tup [p.1, p.2])) ts (ps.map (Prod.map V.int V.int)) → Paired (fun t (p : Int × Int) => H t = some (.tup [.int p.1, .int p.2])) ts ps
  | [], _, h => by cases h; exact .nil
  | p :: ps, _, h => by cases h with | cons e r => exact .cons e (paired_ints r)
/-- the tuples of zip(r, r[1:]) -/
theorem zip_pairs {H : Hp} {ts : List Addr} {r : List Int} (h : Paired (fun t (p : V × V) => H t = some (.tup [p.1, p.2])) ts ((r.map V.int).zip ((r.map V.int).drop 1))) : Paired (fun t (p : Int × Int) => H t = some (.tup [.int p.1, .int p.2])) ts (pairsR r) := by
  unfold pairsR
  rw [← List.map_drop, List.zip_map] at h
  exact paired_ints h
end Wz

set_option maxRecDepth 100000
set_option maxHeartbeats 4000000
namespace L2
open PySem PySem.Spec PyProof.Rows
/-- min of a list of ints -/
theorem call_minL {X : Cx} (hc : X.calm = true) : CallR X (.builtin "min") (fun xs H Q => ∃ (p : Addr) (ns : List Int), xs = [.ref p] ∧ SqL X.K H p (ns.map V.int) ∧ 0 < ns.length ∧ ∀ M, M ∈ ns → (∀ a ∈ ns, M ≤ a) → Q (.int M) H) := by
  intro pins s σ H xs us Q I r h
  obtain ⟨p, ns, rfl, hq, hn, q⟩ := h
  obtain ⟨u, rfl, rx⟩ := vals1 r
  cases rx
  obtain ⟨its, rv, pl, hz⟩ := I.list hq
  have hl := rv.length
  rw [List.length_map] at hl
  refine call_min_walk (list_walk (xs := ns.map V.int) I (I.ok.hd hc) pl fun I' St s2 hs2 hI W st kp fin => ?_)
  have val : ∀ (i : Nat) (v : Value), its.toArray[i]? = some v → ∃ t, v = .int (ns.getD i 0) t := fun i v e => by
    have e : its[i]? = some v := by simpa using e
    have hi : i < ns.length := by have := (List.getElem?_eq_some_iff.mp e).1; omega
    obtain ⟨u, eu, ru⟩ := rv.get (i := i) (x := V.int ns[i]) (by rw [List.getElem?_map, List.getElem?_eq_getElem hi]; rfl)
    rw [e] at eu
    cases eu
    obtain ⟨t, rfl⟩ := ru
    exact ⟨t, by rw [List.getD_eq_getElem?_getD, List.getElem?_eq_getElem hi]; rfl⟩
  have hlt : p < s.heap.objs.size := by obtain ⟨o, n, e, _⟩ := pl; exact Heap.lt_size e
  refine ⟨I', _, _, _, _, St, _, rfl, W, st, fun b hb => ?_, by omega, CmpOf.ints_lt (fun i => ns.getD i 0) val, fun v h' tk hv k => ?_⟩
  · rcases List.mem_cons.mp hb with z | z
    · rw [z, hI, hs2]; exact Nat.lt_succ_self _
    · rw [List.mem_singleton.mp z, hs2]; exact Nat.lt_succ_of_lt hlt
  · obtain ⟨t, rfl⟩ := val _ _ hv
    obtain ⟨h1, h2⟩ := argBest_lt (fun i => ns.getD i 0) (its.length - 1)
    refine ⟨.int _, H, fin h' tk k, ⟨t, rfl⟩, q _ ?_ fun a ha => ?_⟩
    · rw [List.getD_eq_getElem?_getD, List.getElem?_eq_getElem (by omega)]; exact List.getElem_mem _
    · obtain ⟨j, hj⟩ := List.getElem?_of_mem ha
      have hjl : j < ns.length := (List.getElem?_eq_some_iff.mp hj).1
      have := h2 j (by omega)
      rw [show ns.getD j 0 = a by rw [List.getD_eq_getElem?_getD, hj]; rfl] at this
      exact this
end L2
namespace Wz
open PySem L2
theorem ord_N {f : Int → Int} (hf : Inj f) {K : List Int} (hk : ∀ g ∈ K, f g ∈ K) {N N' : Nat} (hN : K.length ≤ N) (hN' : K.length ≤ N') {g : Int} (hg : g ∈ K) : ordF f N g = ordF f N' g := by
  have R := isRing_of hf hk hg hN'
  have le : ordF f N' g ≤ K.length := by
    have := nodup_len (m := K) (ring_nodup hf R.2.2) fun x hx => by
      obtain ⟨i, _, rfl⟩ := ring_mem.mp hx
      exact iter_in hk hg i
    rwa [len_ringL] at this
  exact ord_ring R (Nat.le_trans le hN)
theorem ringsA_N {f : Int → Int} (hf : Inj f) {K : List Int} (hk : ∀ g ∈ K, f g ∈ K) {N N' : Nat} (hN : K.length ≤ N) (hN' : K.length ≤ N') : ∀ (ks S : List Int), (∀ x ∈ ks, x ∈ K) → ringsA f N ks S = ringsA f N' ks S
  | [], _, _ => rfl
  | g :: ks, S, h => by
    have e : ringR f N g = ringR f N' g := by unfold ringR; rw [ord_N hf hk hN hN' (h g List.mem_cons_self)]
    unfold ringsA
    rw [e, ringsA_N hf hk hN hN' ks S fun x hx => h x (List.mem_cons_of_mem _ hx), ringsA_N hf hk hN hN' ks _ fun x hx => h x (List.mem_cons_of_mem _ hx)]
theorem wrong_out {W : List (Int × Int)} {x : Int} (h : x ∉ wrongL W) : wr W x = x := by
  by_cases hx : x ∈ keysL W
  · by_cases e : wr W x = x
    · exact e
    · exact absurd (List.mem_filter.mpr ⟨(sortI_pm _).mem_iff.mpr hx, decide_eq_true e⟩) h
  · exact wr_out hx
/-- rows of the same moves -/
theorem same_moves {W V : List (Int × Int)} (e : movesL W = movesL V) : wrongL W = wrongL V ∧ wr W = wr V := by
  have e1 : wrongL W = wrongL V := by
    have := congrArg (List.map (·.1)) e
    unfold movesL at this
    rw [List.map_map, List.map_map, show ((fun x : Int × Int => x.1) ∘ fun g => (g, wr W g)) = id from rfl, show ((fun x : Int × Int => x.1) ∘ fun g => (g, wr V g)) = id from rfl, List.map_id, List.map_id] at this
    exact this
  refine ⟨e1, funext fun x => ?_⟩
  by_cases h : x ∈ wrongL W
  · have : (x, wr W x) ∈ movesL V := by rw [← e]; exact List.mem_map.mpr ⟨x, h, rfl⟩
    obtain ⟨g, _, hg⟩ := List.mem_map.mp this
    have a := congrArg Prod.fst hg
    have b := congrArg Prod.snd hg
    dsimp only at a b
    rw [a] at b
    exact b.symm
  · rw [wrong_out h, wrong_out (by rw [← e1]; exact h)]
theorem same_short {W V : List (Int × Int)} (P : Prm W) (P' : Prm V) (e : movesL W = movesL V) : (shortW W).length = (shortW V).length ∧ (wrongL W).length = (wrongL V).length ∧ (ringsW W).length = (ringsW V).length := by
  obtain ⟨e1, e2⟩ := same_moves e
  have a := P.short.2.1
  have b := P'.short.2.1
  obtain ⟨w1, w2, w3, w4⟩ := P.wrong
  obtain ⟨v1, v2, v3, v4⟩ := P'.wrong
  have c : ringsW W = ringsW V := by
    unfold ringsW
    rw [← e1, ← e2]
    exact ringsA_N P.inj w3 w4 (by rw [e1]; exact v4) _ _ fun x h => h
  rw [c, e1] at a
  exact ⟨by omega, by rw [e1], by rw [c]⟩
/-- no row of the same effect is shorter, and the parity is the same -/
theorem short_least {ps : List (Int × Int)} (hp : ∀ p ∈ ps, p.1 ≠ p.2) : (shortW (wornL ps)).length ≤ ps.length ∧ (ps.length - (shortW (wornL ps)).length) % 2 = 0 := by
  have P := prm_worn ps
  have h := P.short.2.1
  have ks : ∀ p ∈ ps, p.1 ∈ keysL (wornL ps) ∧ p.2 ∈ keysL (wornL ps) := fun p h => ⟨(mem_paper ps).mpr (.inr ⟨p, h, .inl rfl⟩), (mem_paper ps).mpr (.inr ⟨p, h, .inr rfl⟩)⟩
  have he : wr (paperL (wornL ps) ps.reverse) = id := by
    unfold wornL
    rw [wr_paper, wr_paper, ← List.foldl_append, fold_rev]
    funext x; rfl
  have r := P.row (ps := ps.reverse) (fun p h => ⟨(ks p (List.mem_reverse.mp h)).1, (ks p (List.mem_reverse.mp h)).2, hp p (List.mem_reverse.mp h)⟩) (by
    unfold wrongL
    rw [he]
    exact List.filter_eq_nil_iff.mpr fun a _ => by simp)
  rw [List.length_reverse] at r
  omega
end Wz

set_option maxRecDepth 100000
set_option maxHeartbeats 4000000
namespace Wk05
open PySem L2 Wz
def top (i : Nat) : Stmt := PySem.Challenge.pw_lastwaltz_k05_whole_no_row_is_shorter.main.body.getD i (.Pass ⟨0, 0, 0, 0⟩)
structure Txt (mg : Str → Option Value) : Prop where
  len : mg "len" = none
  range : mg "range" = none
  isinstance : mg "isinstance" = none
  tuple : mg "tuple" = none
  list : mg "list" = none
  int : mg "int" = none
  bool : mg "bool" = none
  all : mg "all" = none
  any : mg "any" = none
  sorted : mg "sorted" = none
  reversed : mg "reversed" = none
  bset : mg "set" = none
  bmin : mg "min" = none
  bmax : mg "max" = none
  dict : mg "dict" = none
  zip : mg "zip" = none
  enumerate : mg "enumerate" = none
section
variable {P : Program} {w : World} {K : PySem.W.Frag} {mg : Str → Option Value} {base : Heap} {c : HX} {co : Addr}
abbrev st_worn_behind : Stmt := top 1
theorem sc_worn_behind : FnScope ["row", "worn", "one", "other", "mask"] ["row"] (defScope st_worn_behind) := ⟨rfl, rfl, rfl, by decide +kernel, rfl, by decide +kernel, by decide +kernel⟩
theorem ok_worn_behind {f : Addr} {fd : FuncData} (F : Fun K "worn_behind" "worn_behind" st_worn_behind f fd) (T : Txt mg)   : FnOk P w K mg base CX0 1 f fd ["row"] spWorn := by
  refine F.ok sc_worn_behind (fun vs H Q E h => ?_) (fun cdv A outer s H vs Q E hr h => ?_)
  · obtain ⟨l, ps, rfl, _⟩ := h
    rfl
  · obtain ⟨l, ps, rfl, ⟨as, hl, hp⟩, hlen, k⟩ := h
    have hu := hu_of hr
    have wrI : ∀ (w : List (Int × Int)) (g : Int), ((valV (dk w) (Sum.inl g : Key)).getD (.int g)) = .int (wr w g) := fun w g => by
      rw [valV_dk]; unfold wr
      cases look w g <;> rfl
    refine ⟨_, pss_cons (ps_set (i := 1) sc_worn_behind.nd rfl (Or.inl rfl) pe_dnewK) (pss_cons (ps_for PassesOwn.never rfl (pi_list (pv 0)) (pg_tup rfl (pgs_cons (pg_name (i := 2) sc_worn_behind.nd rfl (Or.inl rfl)) (pgs_cons (pg_name (i := 3) sc_worn_behind.nd rfl (Or.inl rfl)) pgs_nil))) (pss_cons (ps_set (i := 4) sc_worn_behind.nd rfl (Or.inl rfl) (pe_dget2 hu (pv 1) (pv 2) (pv 2) ⟨rfl, rfl, rfl, rfl⟩)) (pss_cons (ps_dput hu (pv 1) (pv 2) (pe_dget2 hu (pv 1) (pv 3) (pv 3) ⟨rfl, rfl, rfl, rfl⟩) rfl) (pss_one (ps_dput hu (pv 1) (pv 3) (pv 4) rfl))))) (pss_one (ps_ret (pv 1)))), ?_⟩
    intro d hd
    have hdl : ∀ a o, H a = some o → a ≠ d := fun a o e => ne_of_none e hd
    refine ⟨_, rfl, l, rfl, ⟨_, SqL.of (by rw [upd_ne (hdl _ _ hl)]; exact hl)⟩, for_list (K := K) (a := l) (xs := as.map V.ref) (fun i σ H2 => ∃ (v1 v2 v3 : Option V), σ = [some (.ref l), some (.ref d), v1, v2, v3] ∧ H2 = upd H d (.dK (dk (paperL [] (ps.take i)))))
      ⟨none, none, none, rfl, rfl⟩ (fun i σ H2 _ ⟨_, _, _, _, h⟩ => SqL.of (by rw [h, upd_ne (hdl _ _ hl)]; exact hl)) ?_ ?_⟩
    · rintro i y σ H2 hi ⟨v1, v2, v3, rfl, rfl⟩
      have hil : i < as.length := by have := (List.getElem?_eq_some_iff.mp hi).1; simpa using this
      obtain ⟨a, ha, rfl⟩ := map_get hi
      obtain ⟨p, hpi, hpa⟩ := paired_get hp ha
      have hpl := Paired.length hp
      have lw := len_paper (ps.take i) []
      rw [List.length_take, List.length_nil] at lw
      generalize hw : paperL [] (ps.take i) = w at lw
      have nxt : paperL [] (ps.take (i + 1)) = swapL w p := by rw [take_snoc hpi]; unfold paperL at hw ⊢; rw [List.foldl_append, hw]; rfl
      have sz : ∀ v : List (Int × Int), v.length ≤ w.length + 1 → (dk v).length < sizeLine := fun v h => by rw [len_dk]; exact Nat.lt_of_lt_of_le (show v.length < 5000 by omega) (by decide)
      refine ⟨a, _, rfl, SqT.of (by rw [upd_ne (hdl _ _ hpa)]; exact hpa), rfl, _, _, rfl, _, _, rfl, rfl, ?_⟩
      refine ⟨_, rfl, d, rfl, .inl ⟨_, .inl upd_same⟩, _, rfl, _, rfl, _, DGet.k (k := Sum.inl p.1) upd_same, ?_⟩
      refine ⟨_, rfl, d, rfl, .inl ⟨_, .inl upd_same⟩, _, rfl, _, rfl, _, DGet.k (k := Sum.inl p.2) upd_same, _, rfl, _, rfl, d, _, rfl, DPut.k (k := Sum.inl p.1) upd_same (sz w (by omega)), ?_⟩
      refine ⟨_, rfl, _, rfl, _, rfl, d, _, rfl, DPut.k (k := Sum.inl p.2) upd_same ?_, ?_⟩
      · rw [wrI, putK_dk]
        exact sz _ (by have := len_put w p.1 (wr w p.2); omega)
      · refine ⟨_, _, _, rfl, ?_⟩
        rw [nxt, wrI, wrI, putK_dk, putK_dk, upd_upd, upd_upd]
        rfl
    · rintro σ H2 ⟨v1, v2, v3, rfl, rfl⟩
      refine ⟨_, rfl, ?_⟩
      have e : ps.take (as.map V.ref).length = ps := by rw [List.length_map, Paired.length hp, List.take_length]
      rw [e]
      exact k d hd
abbrev st_ring_from : Stmt := top 2
theorem sc_ring_from : FnScope ["worn", "first", "ring", "mask"] ["worn", "first"] (defScope st_ring_from) := ⟨rfl, rfl, rfl, by decide +kernel, rfl, by decide +kernel, by decide +kernel⟩
theorem ok_ring_from {f : Addr} {fd : FuncData} (F : Fun K "ring_from" "ring_from" st_ring_from f fd) (T : Txt mg)   : FnOk P w K mg base CX0 2 f fd ["worn", "first"] spRingF := by
  refine F.ok sc_ring_from (fun vs H Q E h => ?_) (fun cdv A outer s H vs Q E hr h => ?_)
  · obtain ⟨w, W, g, rfl, _⟩ := h
    rfl
  · obtain ⟨w, W, g, rfl, hw, h64, P, hg, k⟩ := h
    have hu := hu_of hr
    refine ⟨_, pss_cons (ps_set (i := 2) sc_ring_from.nd rfl (Or.inl rfl) (pe_lst (pa_cons (pv 1) pa_nil))) (
      pss_cons (ps_set (i := 3) sc_ring_from.nd rfl (Or.inl rfl) (pe_dget hu (pv 0) (pv 1) (fun _ _ => rfl))) (
      pss_cons (ps_while PassesOwn.never (pt_cmpR op_ne (pv 3) (pv 1) (nomark _)) (pss_cons (ps_expr (pe_bm PySem.F.plainAttrs_list PySem.F.slot_list_append PySem.F.type_list_append mt_append (pv 2) (pa_cons (pv 3) pa_nil))) (
      pss_one (ps_set (i := 3) sc_ring_from.nd rfl (Or.inl rfl) (pe_dget hu (pv 0) (pv 3) (fun _ _ => rfl)))))) (
      pss_one (ps_ret (pv 2))))), ?_⟩
    have R := P.ring hg
    have ol := P.ord_le hg
    unfold ringR at k
    generalize ordF (wr W) W.length g = M at R k ol
    have dg : ∀ (H' : Hp) (x : Int), x ∈ keysL W → H' w = some (.dK (dk W)) → DGet H' w (.int x) (some (.int (wr W x))) := fun H' x hx s' => by have := DGet.k (k := Sum.inl x) s'; rw [valV_dk, look_wr hx] at this; exact this
    refine ⟨_, rfl, by show 1 ≤ sizeLine; decide, fun l hl => ?_⟩
    have s1 := same_new (o := .lst [V.int g]) hl
    have hl1 : upd H l (.lst [V.int g]) l = some (.lst ((ringL (wr W) g 1).map V.int)) := upd_same
    generalize upd H l (.lst [V.int g]) = H1 at s1 hl1 ⊢
    refine ⟨_, rfl, _, rfl, w, _, rfl, dg H1 g hg (s1 _ _ hw), ?_⟩
    have i1 : iter (wr W) 1 g = wr W g := rfl
    rw [← i1]
    refine ⟨fun n σ HH => ∃ i, n = M - i ∧ 1 ≤ i ∧ i ≤ M ∧ σ = [some (.ref w), some (.int g), some (.ref l), some (.int (iter (wr W) i g))] ∧ Same H HH ∧ HH l = some (.lst ((ringL (wr W) g i).map V.int)), ⟨_, 1, rfl, Nat.le_refl _, R.1, rfl, s1, hl1⟩, ?_⟩
    rintro n σ HH ⟨i, rfl, h1, hM, rfl, s2, hl2⟩
    refine ⟨_, rfl, _, rfl, rfl, _, rfl, ?_⟩
    by_cases e : iter (wr W) i g = g
    · rw [show (!decide (V.int (iter (wr W) i g) = V.int g)) = false by rw [e]; simp]
      have : i = M := by
        by_cases hlt : i < M
        · exact absurd e (R.2.2 i (by omega) hlt)
        · omega
      rw [this] at hl2
      exact iteF ⟨_, rfl, k l HH hl s2 hl2⟩
    · rw [show (!decide (V.int (iter (wr W) i g) = V.int g)) = true by simpa using e]
      have hlt : i < M := by
        by_cases hlt : i < M
        · exact hlt
        · have : i = M := by omega
          rw [this] at e
          exact absurd R.2.1 e
      have ik : iter (wr W) i g ∈ keysL W := iter_in P.cl hg i
      refine iteT ⟨fun σ' H' => σ' = [some (.ref w), some (.int g), some (.ref l), some (.int (iter (wr W) (i + 1) g))] ∧ Same H H' ∧ H' l = some (.lst ((ringL (wr W) g (i + 1)).map V.int)), fun σ' H' ⟨a1, a2, a3⟩ => ⟨M - (i + 1), by omega, i + 1, rfl, by omega, by omega, a1, a2, a3⟩, ?_⟩
      refine ⟨_, rfl, .inl ⟨rfl, _, SqL.of hl2⟩, _, rfl, l, _, _, rfl, rfl, hl2, by rw [List.length_map, len_ringL]; exact small1000 (by omega), ?_⟩
      have s3 : Same H (upd HH l (.lst ((ringL (wr W) g i).map V.int ++ [V.int (iter (wr W) i g)]))) := same_upd s2 hl
      have hl3 : upd HH l (.lst ((ringL (wr W) g i).map V.int ++ [V.int (iter (wr W) i g)])) l = some (.lst ((ringL (wr W) g (i + 1)).map V.int)) := by rw [upd_same, ringL_succ, List.map_append]; rfl
      generalize upd HH l (.lst ((ringL (wr W) g i).map V.int ++ [V.int (iter (wr W) i g)])) = H3 at s3 hl3 ⊢
      refine ⟨_, rfl, _, rfl, w, _, rfl, dg H3 _ ik (s3 _ _ hw), ?_⟩
      exact ⟨rfl, s3, hl3⟩
abbrev st_shortest_row : Stmt := top 3
theorem sc_shortest_row : FnScope ["row", "worn", "placed", "short", "first", "ring", "guest"] ["row"] (defScope st_shortest_row) := ⟨rfl, rfl, rfl, by decide +kernel, rfl, by decide +kernel, by decide +kernel⟩
theorem ok_shortest_row {f : Addr} {fd : FuncData} (F : Fun K "shortest_row" "shortest_row" st_shortest_row f fd) (T : Txt mg)  (Cworn_behind : Callee P w K mg base "worn_behind" 1 ["row"] spWorn) (Cring_from : Callee P w K mg base "ring_from" 2 ["worn", "first"] spRingF) : FnOk P w K mg base CX0 3 f fd ["row"] spShort := by
  refine F.ok sc_shortest_row (fun vs H Q E h => ?_) (fun cdv A outer s H vs Q E hr h => ?_)
  · obtain ⟨lr, ps, rfl, _⟩ := h
    rfl
  · obtain ⟨lrow, ps, rfl, row, p1000, h64, k⟩ := h
    have hu := hu_of hr
    have nil0 : (0 : Nat) ≤ sizeLine := Nat.zero_le _
    refine ⟨_, pss_cons (ps_set (i := 1) sc_shortest_row.nd rfl (Or.inl rfl) (pcall Cworn_behind (hr.mono (by decide)) rfl (pa_cons (pv 0) pa_nil))) (
      pss_cons (ps_set (i := 2) sc_shortest_row.nd rfl (Or.inl rfl) (pe_callTy0 call_set0 (by rfl) T.bset PyProof.Rows.boot_set)) (
      pss_cons (ps_set (i := 3) sc_shortest_row.nd rfl (Or.inl rfl) (pe_lst pa_nil)) (
      pss_cons (ps_for PassesOwn.never rfl (pi_list (pe_callB (call_sortedD rfl) (by rfl) T.sorted PyProof.Rows.boot_sorted (pa_cons (pv 1) pa_nil))) (pg_name (i := 4) sc_shortest_row.nd rfl (Or.inl rfl)) (pss_one (ps_if (pt_cmpR op_notInS (pv 4) (pv 2) rfl) (pss_cons (ps_set (i := 5) sc_shortest_row.nd rfl (Or.inl rfl) (pcall Cring_from (hr.mono (by decide)) rfl (pa_cons (pv 1) (pa_cons (pv 4) pa_nil)))) (
      pss_cons (ps_for PassesOwn.never rfl (pi_list (pv 5)) (pg_name (i := 6) sc_shortest_row.nd rfl (Or.inl rfl)) (pss_one (ps_expr (pe_bm PySem.F.plainAttrs_set PySem.F.slot_set_add PySem.F.type_set_add mt_addS (pv 2) (pa_cons (pv 6) pa_nil))))) (
      pss_one (ps_expr (pe_bm PySem.F.plainAttrs_list PySem.F.slot_list_extend PySem.F.type_list_extend mt_extend (pv 3) (pa_cons (pe_listzip rfl (pa_cons (pv 5) (pa_cons (pe_slice sl_list (pv 5) (po_some (pe_int)) po_none) pa_nil)) (by rfl) T.list (by rfl) T.zip) pa_nil)))))) (pss_nil)))) (
      pss_one (ps_ret (pv 3)))))), ?_⟩
    have P := prm_worn ps
    generalize hW : wornL ps = W at h64 k P
    obtain ⟨w3, w4, w5⟩ := P.keysS
    refine ⟨_, rfl, lrow, ps, rfl, row, p1000, fun w hw0 => ?_⟩
    rw [hW]
    have s0 := same_new (o := .dK (dk W)) hw0
    have hw : upd H w (.dK (dk W)) w = some (.dK (dk W)) := upd_same
    generalize upd H w (.dK (dk W)) = H0 at s0 hw ⊢
    refine ⟨rfl, fun lp hlp => ?_⟩
    have sA := same_new (o := .set (fun _ => false) 0) hlp
    have hp1 : upd H0 lp (.set (fun _ => false) 0) lp = some (.set (fun _ => false) 0) := upd_same
    have hw1 := sA _ _ hw
    generalize upd H0 lp (.set (fun _ => false) 0) = H1 at sA hp1 hw1 ⊢
    refine ⟨nil0, fun lr hlr => ?_⟩
    have sB := same_new (o := .lst []) hlr
    have lr0 : H lr = none := s0.free (sA.free hlr)
    have hr1 : upd H1 lr (.lst []) lr = some (.lst (([] : List Addr).map V.ref)) := upd_same
    have hp2 := sB _ _ hp1
    have hw2 := sB _ _ hw1
    generalize upd H1 lr (.lst []) = H2 at sB hr1 hp2 hw2 ⊢
    have s02 : Same H H2 := (s0.trans sA).trans sB
    have dkk : (dk W).map (·.1) = (keysL W).map Sum.inl := by unfold dk keysL; rw [List.map_map, List.map_map]; rfl
    refine ⟨_, rfl, w, _, keysL W, rfl, hw2, dkk, by rw [len_keys]; exact h64, fun ls hls => ?_⟩
    have s3 := same_new (o := .lst ((sortI (keysL W)).map V.int)) hls
    have h3 : upd H2 ls (.lst ((sortI (keysL W)).map V.int)) ls = some (.lst ((sortI (keysL W)).map V.int)) := upd_same
    have hw3 := s3 _ _ hw2
    generalize upd H2 ls (.lst ((sortI (keysL W)).map V.int)) = H3 at s3 h3 hw3 ⊢
    have lplr : lp ≠ lr := ne_of hp2 hr1 (by intro z; cases z)
    have lsr : ls ≠ lr := fun z => by rw [z, hr1] at hls; cases hls
    have lsp : ls ≠ lp := fun z => by rw [z, hp2] at hls; cases hls
    have wlr : w ≠ lr := ne_of hw2 hr1 (by intro z; cases z)
    have wlp : w ≠ lp := ne_of hw2 hp2 (by intro z; cases z)
    refine ⟨ls, rfl, ⟨_, SqL.of h3⟩, for_list (K := K) (a := ls) (xs := (sortI (keysL W)).map V.int) (fun i σ HH => ∃ (Sf : Int → Bool) (n : Nat) (as : List Addr) (v3 v4 v5 : Option V), σ = [some (.ref lrow), some (.ref w), some (.ref lp), some (.ref lr), v3, v4, v5] ∧ Same H HH ∧ HH w = some (.dK (dk W)) ∧ HH ls = some (.lst ((sortI (keysL W)).map V.int)) ∧ HH lp = some (.set Sf n) ∧ (∀ y, Sf y = decide (y ∈ (qS W i).1)) ∧ n ≤ (qS W i).1.length ∧
        HH lr = some (.lst (as.map V.ref)) ∧ Paired (fun a (p : Int × Int) => HH a = some (.tup [.int p.1, .int p.2])) as (shortR (qS W i).2))
      ⟨_, 0, [], none, none, none, rfl, s02.trans s3, hw3, h3, s3 _ _ hp2, fun y => rfl, Nat.le_refl _, s3 _ _ hr1, .nil⟩ (fun i σ HH _ ⟨_, _, _, _, _, _, _, _, _, h, _⟩ => SqL.of h) ?_ ?_⟩
    · rintro i y σ HH hi ⟨Sf, n, as, v3, v4, v5, rfl, s4, hw4, hls4, hp4, hS4, hn4, hr4, hpa⟩
      obtain ⟨g, hg, rfl⟩ := map_get hi
      have gk : g ∈ keysL W := mem_sortI.mp (List.mem_of_getElem? hg)
      obtain ⟨q1, q2, q3, q4, q5⟩ := qS_ok P i
      have qn := qS_next hg
      have lpa := Paired.length hpa
      have sle := short_le (qS W i).2
      rw [q5] at sle
      refine ⟨_, rfl, _, rfl, lp, Sf, n, g, rfl, rfl, hp4, _, rfl, ?_⟩
      rw [hS4]
      by_cases hq : g ∈ (qS W i).1
      · rw [decide_eq_true hq]
        have e : qS W (i + 1) = qS W i := by rw [qn]; unfold stepR; rw [if_pos hq]
        refine iteF ⟨Sf, n, as, _, _, _, rfl, s4, hw4, hls4, hp4, ?_, ?_, hr4, ?_⟩
        · rw [e]; exact hS4
        · rw [e]; exact hn4
        · rw [e]; exact hpa
      · rw [decide_eq_false hq]
        have e : qS W (i + 1) = ((qS W i).1 ++ ringR (wr W) W.length g, (qS W i).2 ++ [ringR (wr W) W.length g]) := by rw [qn]; unfold stepR; rw [if_neg hq]
        refine iteT ⟨_, rfl, _, rfl, w, W, g, rfl, hw4, h64, P, gk, ?_⟩
        intro l H5 hl s5 h5
        have rl : (ringR (wr W) W.length g).length ≤ W.length := by rw [len_ringR]; exact P.ord_le gk
        have rp : 0 < (ringR (wr W) W.length g).length := by rw [len_ringR]; exact (P.ring gk).1
        generalize ringR (wr W) W.length g = r at e h5 rl rp
        have llr : l ≠ lr := fun z => by rw [z, hr4] at hl; cases hl
        have llp : l ≠ lp := fun z => by rw [z, hp4] at hl; cases hl
        refine ⟨_, rfl, l, rfl, ⟨_, SqL.of h5⟩, for_list (K := K) (a := l) (xs := r.map V.int) (fun j σ HK => ∃ (Sg : Int → Bool) (n' : Nat) (v5 : Option V), σ = [some (.ref lrow), some (.ref w), some (.ref lp), some (.ref lr), some (.int g), some (.ref l), v5] ∧ HK lp = some (.set Sg n') ∧ (∀ y, Sg y = decide (y ∈ (qS W i).1 ++ r.take j)) ∧ n' ≤ (qS W i).1.length + j ∧ (∀ b o, H5 b = some o → b ≠ lp → HK b = some o))
          ⟨Sf, n, _, rfl, s5 _ _ hp4, (fun y => by rw [List.take_zero, List.append_nil]; exact hS4 y), hn4, fun b o z _ => z⟩ (fun j σ HK _ ⟨_, _, _, _, _, _, _, kk⟩ => SqL.of (kk _ _ h5 llp)) ?_ ?_⟩
        · rintro j y σ HK hj ⟨Sg, n', v5, rfl, hp6, hS6, hn6, kk⟩
          obtain ⟨x, hx, rfl⟩ := map_get hj
          have hjl : j < r.length := (List.getElem?_eq_some_iff.mp hx).1
          refine ⟨_, rfl, .inr (.inr (.inr ⟨rfl, Sg, n', hp6⟩)), _, rfl, lp, Sg, n', x, rfl, rfl, hp6, by omega, ?_⟩
          refine ⟨_, _, _, rfl, upd_same, fun y => ?_, ?_, fun b o z nb => by rw [upd_ne nb]; exact kk b o z nb⟩
          · rw [hS6, List.take_add_one, hx, Option.toList_some, ← List.append_assoc, ← Bool.decide_or]
            congr 1
            rw [List.mem_append (s := (qS W i).1 ++ r.take j), List.mem_singleton]
          · split <;> omega
        · rintro σ HK ⟨Sg, n', v5, rfl, hp6, hS6, hn6, kk⟩
          rw [List.length_map] at hn6
          have hr6 := kk _ _ (s5 _ _ hr4) (Ne.symm lplr)
          have hl6 := kk _ _ h5 llp
          refine ⟨_, rfl, .inl ⟨rfl, _, SqL.of hr6⟩, _, rfl, _, rfl, _, rfl, noPart ⟨l, _, rfl, SqL.of hl6, fun l7 hl7 => ?_⟩⟩
          rw [cut_1]
          have s7 := same_new (o := .lst ((r.map V.int).drop 1)) hl7
          have h7 : upd HK l7 (.lst ((r.map V.int).drop 1)) l7 = some (.lst ((r.map V.int).drop 1)) := upd_same
          generalize upd HK l7 (.lst ((r.map V.int).drop 1)) = H7 at s7 h7 ⊢
          refine ⟨l, l7, _, _, rfl, SqL.of (s7 _ _ hl6), SqL.of h7, by rw [List.length_drop, List.length_map]; omega, fun l8 ts H8 hl8 s8 h8 p8 => ?_⟩
          have p8 := zip_pairs p8
          have tl := Paired.length p8
          rw [len_pairsR] at tl
          have hr8 := s8 _ _ (s7 _ _ hr6)
          refine ⟨lr, l8, _, _, rfl, rfl, hr8, h8, by rw [List.length_map, List.length_map]; exact Nat.le_of_lt (small1000 (by omega)), ?_⟩
          have kk8 : ∀ b o, H5 b = some o → b ≠ lp → b ≠ lr → upd H8 lr (.lst (as.map V.ref ++ ts.map V.ref)) b = some o := fun b o z n1 n2 => by rw [upd_ne n2]; exact s8 _ _ (s7 _ _ (kk b o z n1))
          refine ⟨Sg, n', as ++ ts, _, _, _, rfl, fun b o z => kk8 b o ((s4.trans s5) b o z) (ne_of_none z (s0.free hlp)) (ne_of_none z lr0), kk8 _ _ (s5 _ _ hw4) wlp wlr, kk8 _ _ (s5 _ _ hls4) lsp lsr, by rw [upd_ne lplr]; exact s8 _ _ (s7 _ _ hp6), fun y => ?_, ?_, by rw [upd_same, List.map_append], ?_⟩
          · rw [hS6, e, List.length_map, List.take_length]
          · rw [e]; show n' ≤ ((qS W i).1 ++ r).length; rw [List.length_append]; exact hn6
          · rw [e, show shortR ((qS W i).2 ++ [r]) = shortR (qS W i).2 ++ pairsR r by unfold shortR; rw [List.flatMap_append, List.flatMap_singleton]]
            exact paired_append (Paired.mapP hpa fun a q z => kk8 a _ (s5 _ _ z) (ne_of z hp4 (by intro q; cases q)) (ne_of z hr4 (by intro q; cases q))) (Paired.mapP p8 fun b q z => by rw [upd_ne (ne_of z hr8 (by intro q; cases q))]; exact z)
    · rintro σ HH ⟨Sf, n, as, v3, v4, v5, rfl, s4, hw4, hls4, hp4, hS4, hn4, hr4, hpa⟩
      rw [qS_end W (by rw [List.length_map]; exact Nat.le_refl _)] at hpa
      exact ⟨_, rfl, k lr HH lr0 s4 ⟨as, hr4, hpa⟩⟩
abbrev st_law_cell_at : Stmt := top 5
theorem sc_law_cell_at : FnScope ["_law_script", "_law_k"] ["_law_script", "_law_k"] (defScope st_law_cell_at) := ⟨rfl, rfl, rfl, by decide +kernel, rfl, by decide +kernel, by decide +kernel⟩
theorem ok_law_cell_at {f : Addr} {fd : FuncData} (F : Fun K "_law_cell_at" "_law_cell_at" st_law_cell_at f fd) (T : Txt mg)   : FnOk P w K mg base CX0 1 f fd ["_law_script", "_law_k"] (spCell K) := by
  refine F.ok sc_law_cell_at (fun vs H Q E h => ?_) (fun cdv A outer s H vs Q E hr h => ?_)
  · obtain ⟨a, ns, k, rfl, _⟩ := h
    rfl
  · obtain ⟨a, ns, i, rfl, hS, hi, k⟩ := h
    refine ⟨_, pss_cons (ps_if (pt_cmpR op_lt (pv 1) (pe_callB call_len_seq (by rfl) T.len PySem.boot_len (pa_cons (pv 0) pa_nil)) (nomark _)) (pss_one (ps_ret (pe_ix ix_list (pv 0) (pv 1) (fun _ _ => rfl)))) pss_nil) (pss_one (ps_ret pe_int)), ?_⟩
    refine ⟨_, rfl, _, rfl, a, _, rfl, .inl hS, _, _, rfl, rfl, _, rfl, ?_⟩
    unfold cellAt at k
    rw [List.length_map]
    by_cases hc : i < (ns.length : Int)
    · rw [if_pos hc] at k
      rw [decide_eq_true hc]
      refine iteT ⟨_, rfl, _, rfl, a, _, _, _, rfl, rfl, hS, ?_, k⟩
      have e : i = ((i.toNat : Nat) : Int) := (Int.toNat_of_nonneg hi).symm
      have hl : i.toNat < ns.length := by omega
      rw [e]
      refine atI_nat ?_
      rw [List.getElem?_map, List.getD_eq_getElem?_getD, Int.toNat_natCast, List.getElem?_eq_getElem hl]
      rfl
    · rw [if_neg hc] at k
      rw [decide_eq_false hc]
      exact iteF k
abbrev st_law_whole : Stmt := top 6
theorem sc_law_whole : FnScope ["_law_found"] ["_law_found"] (defScope st_law_whole) := ⟨rfl, rfl, rfl, by decide +kernel, rfl, by decide +kernel, by decide +kernel⟩
theorem ok_law_whole {f : Addr} {fd : FuncData} (F : Fun K "_law_whole" "_law_whole" st_law_whole f fd) (T : Txt mg)   : FnOk P w K mg base CX0 1 f fd ["_law_found"] spWhole := by
  refine F.ok sc_law_whole (fun vs H Q E h => ?_) (fun cdv A outer s H vs Q E hr h => ?_)
  · obtain ⟨i, rfl, _⟩ := h
    rfl
  · obtain ⟨i, rfl, k⟩ := h
    refine ⟨_, pss_one (ps_ret (pe_and (pe_callB call_isi (by rfl) T.isinstance PyProof.Rows.boot_isinstance (pa_cons (pv 0) (pa_cons (pe_bltn (v := .ty "int") (by rfl) T.int PyProof.Rows.boot_int rfl) pa_nil))) (pe_one (pe_not (pe_callB call_isi (by rfl) T.isinstance PyProof.Rows.boot_isinstance (pa_cons (pv 0) (pa_cons (pe_bltn (v := .ty "bool") (by rfl) T.bool PyProof.Rows.boot_bool rfl) pa_nil))))))), ?_⟩
    refine ⟨_, rfl, _, _, _, true, rfl, TyOf.int i, rfl, _, rfl, iteT ?_⟩
    exact ⟨_, rfl, _, _, _, false, rfl, TyOf.int i, rfl, _, rfl, k⟩
abbrev st_law_size : Stmt := top 7
theorem sc_law_size : FnScope ["_law_cell"] ["_law_cell"] (defScope st_law_size) := ⟨rfl, rfl, rfl, by decide +kernel, rfl, by decide +kernel, by decide +kernel⟩
theorem ok_law_size {f : Addr} {fd : FuncData} (F : Fun K "_law_size" "_law_size" st_law_size f fd) (T : Txt mg)   : FnOk P w K mg base CX0 1 f fd ["_law_cell"] spSize := by
  refine F.ok sc_law_size (fun vs H Q E h => ?_) (fun cdv A outer s H vs Q E hr h => ?_)
  · obtain ⟨c, rfl, _⟩ := h
    rfl
  · obtain ⟨c, rfl, k⟩ := h
    refine ⟨_, pss_cons (ps_if (pt_cmpR op_lt (pv 0) pe_int (nomark _)) (pss_one (ps_ret (pe_un un_neg (pv 0)))) pss_nil) (pss_one (ps_ret (pv 0))), ?_⟩
    refine ⟨_, rfl, _, _, rfl, rfl, _, rfl, ?_⟩
    unfold absI at k
    by_cases hc : c < 0
    · rw [if_pos hc] at k
      rw [decide_eq_true hc]
      exact iteT ⟨_, rfl, _, rfl, k⟩
    · rw [if_neg hc] at k
      rw [decide_eq_false hc]
      exact iteF ⟨_, rfl, k⟩
abbrev st_law_draws : Stmt := top 8
theorem sc_law_draws : FnScope ["_law_cell", "_law_many_here", "_law_base", "_law_left", "_law_row_here", "_law_count", "_law_k", "_law_now"] ["_law_cell", "_law_many_here", "_law_base"] (defScope st_law_draws) := ⟨rfl, rfl, rfl, by decide +kernel, rfl, by decide +kernel, by decide +kernel⟩
theorem ok_law_draws {f : Addr} {fd : FuncData} (F : Fun K "_law_draws" "_law_draws" st_law_draws f fd) (T : Txt mg)  (C_law_size : Callee P w K mg base "_law_size" 1 ["_law_cell"] spSize) : FnOk P w K mg base CX0 2 f fd ["_law_cell", "_law_many_here", "_law_base"] spDraws := by
  refine F.ok sc_law_draws (fun vs H Q E h => ?_) (fun cdv A outer s H vs Q E hr h => ?_)
  · obtain ⟨c, m, b, rfl, _⟩ := h
    rfl
  · obtain ⟨c, m, b, rfl, ⟨m0, m1⟩, ⟨b0, b1⟩, k⟩ := h
    refine ⟨_, pss_cons (ps_set (i := 3) sc_law_draws.nd rfl (Or.inl rfl) (pcall C_law_size hr rfl (pa_cons (pv 0) pa_nil)))
      (pss_cons (ps_set (i := 4) sc_law_draws.nd rfl (Or.inl rfl) (pe_lst pa_nil))
      (pss_cons (ps_if (pt_cmpR op_ge (pv 3) (pe_op op_pow pe_int pe_int) (nomark _))
        (pss_cons (ps_set (i := 3) sc_law_draws.nd rfl (Or.inl rfl) (pe_op op_sub (pv 3) (pe_op op_pow pe_int pe_int)))
        (pss_cons (ps_set (i := 5) sc_law_draws.nd rfl (Or.inl rfl) (pe_op op_mod (pv 3) (pe_op op_add (pv 1) pe_int)))
        (pss_cons (ps_set (i := 3) sc_law_draws.nd rfl (Or.inl rfl) (pe_op op_fdiv (pv 3) (pe_op op_add (pv 1) pe_int)))
        (pss_cons (ps_for PassesOwn.never rfl (pi_range1 rfl T.range (pa_cons (pv 5) pa_nil)) (pg_name (i := 6) sc_law_draws.nd rfl (Or.inl rfl))
          (pss_cons (ps_expr (pe_bm PySem.F.plainAttrs_list PySem.F.slot_list_append PySem.F.type_list_append mt_append (pv 4) (pa_cons (pe_op op_mod (pv 3) (pv 2)) pa_nil)))
          (pss_one (ps_set (i := 3) sc_law_draws.nd rfl (Or.inl rfl) (pe_op op_fdiv (pv 3) (pv 2))))))
        (pss_one (ps_ret (pv 4)))))))
        pss_nil)
      (pss_cons (ps_set (i := 7) sc_law_draws.nd rfl (Or.inl rfl) (pe_op op_add (pe_op op_mod (pv 3) pe_int) pe_int))
      (pss_cons (ps_for PassesOwn.never rfl (pi_range1 rfl T.range (pa_cons (pe_op op_mod (pv 3) (pe_op op_add (pv 1) pe_int)) pa_nil)) (pg_name (i := 6) sc_law_draws.nd rfl (Or.inl rfl))
          (pss_cons (ps_set (i := 7) sc_law_draws.nd rfl (Or.inl rfl) (pe_op op_mod (pe_op op_mul (pv 7) pe_int) pe_int))
          (pss_one (ps_expr (pe_bm PySem.F.plainAttrs_list PySem.F.slot_list_append PySem.F.type_list_append mt_append (pv 4) (pa_cons (pe_op op_mod (pe_op op_fdiv (pe_op op_mod (pe_op op_mul (pv 7) pe_int) pe_int) pe_int) (pv 2)) pa_nil))))))
      (pss_one (ps_ret (pv 4))))))), ?_⟩
    refine ⟨_, rfl, _, rfl, by show 0 ≤ sizeLine; exact Nat.zero_le _, fun l hl => ?_⟩
    have big : (10 : Int) ^ (18 : Int).toNat = 1000000000000000000 := by decide
    -- one more item
    have room : ∀ ds : List Int, (ds.length : Int) ≤ 1000 → (ds.map V.int).length < sizeLine := fun ds h => by rw [List.length_map]; exact small1000 (by omega)
    have app : ∀ (ds : List Int) (z : Int), upd (upd H l (.lst (ds.map V.int))) l (.lst (ds.map V.int ++ [V.int z])) = upd H l (.lst ((ds ++ [z]).map V.int)) := fun ds z => by rw [upd_upd, List.map_append]; rfl
    have inb : ∀ (ds : List Int) (z : Int), (∀ d ∈ ds, 0 ≤ d ∧ d < b) → ∀ d ∈ ds ++ [z % b], 0 ≤ d ∧ d < b := fun ds z h d hd => by
      rcases List.mem_append.mp hd with hd | hd
      · exact h d hd
      · rw [List.mem_singleton.mp hd]; exact ⟨Int.emod_nonneg _ (by omega), Int.emod_lt_of_pos _ b0⟩
    refine ⟨_, rfl, _, _, rfl, rfl, ⟨by decide, by decide, by decide⟩, _, _, rfl, rfl, _, rfl, ?_⟩
    refine ite2 (fun _ => ?_) (fun _ => ?_)
    · refine ⟨_, rfl, _, _, rfl, rfl, ⟨by decide, by decide, by decide⟩, _, _, rfl, rfl, ?_⟩
      refine ⟨_, rfl, _, rfl, _, _, rfl, rfl, _, _, rfl, rfl, by show (0 : Int) < m + 1; omega, ?_⟩
      refine ⟨_, rfl, _, rfl, _, _, rfl, rfl, _, _, rfl, rfl, ⟨by show (0 : Int) < m + 1; omega, by show m + 1 < 1073741824; omega⟩, ?_⟩
      have cb := Int.emod_lt_of_pos (absI c - (10 : Int) ^ (18 : Int).toNat) (show 0 < m + 1 by omega)
      have cn := Int.emod_nonneg (absI c - (10 : Int) ^ (18 : Int).toNat) (show m + 1 ≠ 0 by omega)
      refine ⟨_, rfl, _, rfl, by omega, by omega, for_range (n := ((absI c - (10 : Int) ^ (18 : Int).toNat) % (m + 1)).toNat) (fun i σ H2 => ∃ (z : Int) (v : Option V) (ds : List Int), σ = [some (.int c), some (.int m), some (.int b), some (.int z), some (.ref l), some (.int ((absI c - (10 : Int) ^ (18 : Int).toNat) % (m + 1))), v, none] ∧ H2 = upd H l (.lst (ds.map V.int)) ∧ ds.length = i ∧ ∀ d ∈ ds, 0 ≤ d ∧ d < b)
        ⟨_, none, [], rfl, rfl, rfl, fun _ z => nomatch z⟩ ?_ ?_⟩
      · rintro i σ H2 hi ⟨z, v, ds, rfl, rfl, hlen, hds⟩
        refine ⟨_, rfl, .inl ⟨rfl, _, SqL.of upd_same⟩, _, rfl, _, rfl, _, _, rfl, rfl, b0, l, _, _, rfl, rfl, upd_same, room ds (by omega), ?_⟩
        refine ⟨_, rfl, _, rfl, _, _, rfl, rfl, ⟨b0, b1⟩, ?_⟩
        exact ⟨_, _, ds ++ [z % b], rfl, app ds _, by rw [List.length_append, hlen]; rfl, inb ds z hds⟩
      · rintro σ H2 ⟨z, v, ds, rfl, rfl, hlen, hds⟩
        exact ⟨_, rfl, k l ds hl hds (by omega)⟩
    · refine ⟨_, rfl, _, _, rfl, rfl, by show (0 : Int) < 2147483629; decide, _, _, rfl, rfl, ?_⟩
      have cb := Int.emod_lt_of_pos (absI c) (show 0 < m + 1 by omega)
      have cn := Int.emod_nonneg (absI c) (show m + 1 ≠ 0 by omega)
      refine ⟨_, rfl, _, rfl, _, _, rfl, rfl, _, _, rfl, rfl, by show (0 : Int) < m + 1; omega, ?_⟩
      refine ⟨_, rfl, by omega, by omega, for_range (n := (absI c % (m + 1)).toNat) (fun i σ H2 => ∃ (z : Int) (v : Option V) (ds : List Int), σ = [some (.int c), some (.int m), some (.int b), some (.int (absI c)), some (.ref l), none, v, some (.int z)] ∧ H2 = upd H l (.lst (ds.map V.int)) ∧ ds.length = i ∧ ∀ d ∈ ds, 0 ≤ d ∧ d < b)
        ⟨_, none, [], rfl, rfl, rfl, fun _ z => nomatch z⟩ ?_ ?_⟩
      · rintro i σ H2 hi ⟨z, v, ds, rfl, rfl, hlen, hds⟩
        refine ⟨_, rfl, _, _, rfl, rfl, .inr ⟨by decide, by decide⟩, _, _, rfl, rfl, by show (0 : Int) < 2147483647; decide, ?_⟩
        refine ⟨_, rfl, .inl ⟨rfl, _, SqL.of upd_same⟩, _, rfl, _, _, rfl, rfl, .inr ⟨by decide, by decide⟩, _, _, rfl, rfl, by show (0 : Int) < 998244353; decide, _, _, rfl, rfl, ⟨by decide, by decide⟩, _, rfl, _, _, rfl, rfl, b0, l, _, _, rfl, rfl, upd_same, room ds (by omega), ?_⟩
        exact ⟨_, _, ds ++ [_], rfl, app ds _, by rw [List.length_append, hlen]; rfl, inb ds _ hds⟩
      · rintro σ H2 ⟨z, v, ds, rfl, rfl, hlen, hds⟩
        exact ⟨_, rfl, k l ds hl hds (by omega)⟩
abbrev st_law_draws_from : Stmt := top 9
theorem sc_law_draws_from : FnScope ["_law_script", "_law_start", "_law_most", "_law_base", "_law_row_here", "_law_cell", "_law_drawn"] ["_law_script", "_law_start", "_law_most", "_law_base"] (defScope st_law_draws_from) := ⟨rfl, rfl, rfl, by decide +kernel, rfl, by decide +kernel, by decide +kernel⟩
theorem ok_law_draws_from {f : Addr} {fd : FuncData} (F : Fun K "_law_draws_from" "_law_draws_from" st_law_draws_from f fd) (T : Txt mg)  (C_law_draws : Callee P w K mg base "_law_draws" 2 ["_law_cell", "_law_many_here", "_law_base"] spDraws) : FnOk P w K mg base CX0 3 f fd ["_law_script", "_law_start", "_law_most", "_law_base"] (spFrom K) := by
  refine F.ok sc_law_draws_from (fun vs H Q E h => ?_) (fun cdv A outer s H vs Q E hr h => ?_)
  · obtain ⟨a, ns, st, m, b, rfl, _⟩ := h
    rfl
  · obtain ⟨a, ns, st, m, b, rfl, hS, ⟨s0, s1⟩, ⟨m0, m1⟩, ⟨b0, b1⟩, k⟩ := h
    refine ⟨_, pss_cons (ps_set (i := 4) sc_law_draws_from.nd rfl (Or.inl rfl) (pe_lst pa_nil))
      (pss_cons (ps_for PassesOwn.never rfl (pi_list (pe_slice sl_list (pv 0) (po_some (pv 1)) (po_some pe_int))) (pg_name (i := 5) sc_law_draws_from.nd rfl (Or.inl rfl))
        (pss_one (ps_for PassesOwn.never rfl (pi_list (pcall C_law_draws hr rfl (pa_cons (pv 5) (pa_cons pe_int (pa_cons (pv 3) pa_nil))))) (pg_name (i := 6) sc_law_draws_from.nd rfl (Or.inl rfl))
          (pss_one (ps_if (pt_cmpR op_lt (pe_callB call_len_seq (by rfl) T.len PySem.boot_len (pa_cons (pv 4) pa_nil)) (pv 2) (nomark _))
            (pss_one (ps_expr (pe_bm PySem.F.plainAttrs_list PySem.F.slot_list_append PySem.F.type_list_append mt_append (pv 4) (pa_cons (pv 6) pa_nil)))) pss_nil)))))
      (pss_one (ps_ret (pv 4)))), ?_⟩
    refine ⟨by show 0 ≤ sizeLine; exact Nat.zero_le _, fun l hl => ?_⟩
    have hS' : SqL K (upd H l (.lst [])) a (ns.map V.int) := (same_new hl).seq hS
    refine ⟨_, rfl, _, rfl, _, rfl, _, rfl, a, _, rfl, hS', fun q hq => ?_⟩
    have hlq : l ≠ q := fun e => by rw [← e, upd_same] at hq; cases hq
    have hHq : H q = none := by rw [upd_ne (Ne.symm hlq)] at hq; exact hq
    obtain ⟨zs, hzs⟩ : ∃ zs : List Int, cutV (ns.map V.int) (some st) (some 63) = zs.map V.int := ⟨(ns.drop (HT.sIx ns.length 0 (some st))).take (HT.sIx ns.length ns.length (some 63) - HT.sIx ns.length 0 (some st)), by unfold cutV; rw [List.length_map, List.map_take, List.map_drop]⟩
    rw [hzs]
    refine ⟨q, rfl, ⟨_, SqL.of upd_same⟩, for_list (K := K) (a := q) (xs := zs.map V.int) (fun i σ H2 => ∃ (v u : Option V) (ds : List Int), σ = [some (.ref a), some (.int st), some (.int m), some (.int b), some (.ref l), v, u] ∧ Same H H2 ∧ H2 q = some (.lst (zs.map V.int)) ∧ H2 l = some (.lst (ds.map V.int)) ∧ (∀ d ∈ ds, 0 ≤ d ∧ d < b) ∧ (ds.length : Int) ≤ m)
      ⟨none, none, [], rfl, same_upd (same_new hl) hHq, upd_same, by rw [upd_ne hlq, upd_same]; rfl, (fun _ z => nomatch z), by simpa using m0⟩ (fun i σ H2 _ ⟨_, _, _, _, _, h, _⟩ => SqL.of h) ?_ ?_⟩
    · rintro i y σ H2 hi ⟨v, u, ds, rfl, s2, hq2, hl2, hds, hlen⟩
      obtain ⟨z, _, rfl⟩ := map_get hi
      refine ⟨_, rfl, _, rfl, z, 24, b, rfl, ⟨by decide, by decide⟩, ⟨b0, b1⟩, fun r es hr2 hes hel => ?_⟩
      have hrq : q ≠ r := ne_of_none hq2 hr2
      have hrl : l ≠ r := ne_of_none hl2 hr2
      refine ⟨r, rfl, ⟨_, SqL.of upd_same⟩, for_list (K := K) (a := r) (xs := es.map V.int) (fun i σ H3 => ∃ (u : Option V) (ds : List Int), σ = [some (.ref a), some (.int st), some (.int m), some (.int b), some (.ref l), some (.int z), u] ∧ Same H H3 ∧ H3 q = some (.lst (zs.map V.int)) ∧ H3 r = some (.lst (es.map V.int)) ∧ H3 l = some (.lst (ds.map V.int)) ∧ (∀ d ∈ ds, 0 ≤ d ∧ d < b) ∧ (ds.length : Int) ≤ m)
        ⟨u, ds, rfl, same_upd s2 (s2.free hr2), by rw [upd_ne hrq]; exact hq2, upd_same, by rw [upd_ne hrl]; exact hl2, hds, hlen⟩ (fun i σ H2 _ ⟨_, _, _, _, _, h, _⟩ => SqL.of h) ?_ ?_⟩
      · rintro i y σ H3 hi ⟨u, ds, rfl, s3, hq3, hr3, hl3, hds, hlen⟩
        obtain ⟨d, hd, rfl⟩ := map_get hi
        refine ⟨_, rfl, l, _, rfl, .inl (SqL.of hl3), _, rfl, _, _, rfl, rfl, _, rfl, ?_⟩
        rw [List.length_map]
        refine ite2 (fun hc => ?_) (fun _ => ?_)
        · have hc := of_decide_eq_true hc
          refine ⟨_, rfl, .inl ⟨rfl, _, SqL.of hl3⟩, _, rfl, l, _, _, rfl, rfl, hl3, by rw [List.length_map]; exact small1000 (by omega), ?_⟩
          refine ⟨_, ds ++ [d], rfl, same_upd s3 hl, by rw [upd_ne (Ne.symm hlq)]; exact hq3, by rw [upd_ne (Ne.symm hrl)]; exact hr3, by rw [upd_same, List.map_append]; rfl, fun x hx => ?_, by rw [List.length_append]; show ((ds.length + 1 : Nat) : Int) ≤ m; omega⟩
          rcases List.mem_append.mp hx with hx | hx
          · exact hds x hx
          · rw [List.mem_singleton.mp hx]; exact hes d (List.mem_of_getElem? hd)
        · exact ⟨_, ds, rfl, s3, hq3, hr3, hl3, hds, hlen⟩
      · rintro σ H3 ⟨u, ds, rfl, s3, hq3, hr3, hl3, hds, hlen⟩
        exact ⟨_, _, ds, rfl, s3, hq3, hl3, hds, hlen⟩
    · rintro σ H2 ⟨v, u, ds, rfl, s2, hq2, hl2, hds, hlen⟩
      exact ⟨_, rfl, k l H2 ds hl s2 hl2 hds hlen⟩
abbrev st_law_guest : Stmt := top 10
theorem sc_law_guest : FnScope ["_law_k", "_law_cell", "_law_left", "_law_turn", "_law_number"] ["_law_k", "_law_cell"] (defScope st_law_guest) := ⟨rfl, rfl, rfl, by decide +kernel, rfl, by decide +kernel, by decide +kernel⟩
theorem ok_law_guest {f : Addr} {fd : FuncData} (F : Fun K "_law_guest" "_law_guest" st_law_guest f fd) (T : Txt mg)  (C_law_size : Callee P w K mg base "_law_size" 1 ["_law_cell"] spSize) : FnOk P w K mg base CX0 2 f fd ["_law_k", "_law_cell"] spGuest := by
  refine F.ok sc_law_guest (fun vs H Q E h => ?_) (fun cdv A outer s H vs Q E hr h => ?_)
  · obtain ⟨k, c, rfl, _⟩ := h
    rfl
  · obtain ⟨i, c, rfl, ⟨i0, i1⟩, k⟩ := h
    refine ⟨_, pss_cons (ps_set (i := 2) sc_law_guest.nd rfl (Or.inl rfl) (pcall C_law_size hr rfl (pa_cons (pv 1) pa_nil)))
      (pss_cons (ps_set (i := 3) sc_law_guest.nd rfl (Or.inl rfl) (pe_op op_add pe_int (pe_op op_mod (pe_op op_mul (pv 2) pe_int) pe_int)))
      (pss_cons (ps_set (i := 4) sc_law_guest.nd rfl (Or.inl rfl) (pe_op op_mod (pe_op op_add (pe_op op_mul (pv 0) (pv 3)) (pe_op op_fdivB (pv 2) pe_int)) pe_int))
      (pss_cons (ps_if (pt_cmpR op_eq (pe_op op_mod (pv 2) pe_int) pe_int (nomark _)) (pss_one (ps_ret (pe_op op_add (pv 4) pe_int))) pss_nil)
      (pss_one (ps_ret (pv 4)))))), ?_⟩
    refine ⟨_, rfl, _, rfl, ?_⟩
    refine ⟨_, rfl, _, _, rfl, rfl, .inr ⟨by decide, by decide⟩, _, _, rfl, rfl, by show (0 : Int) < 2147483646; decide, _, _, rfl, rfl, ?_⟩
    refine ⟨_, rfl, _, rfl, _, _, rfl, rfl, .inl ⟨by show (-(2 ^ 64) : Int) < i; omega, by show i < (2 ^ 64 : Int); omega⟩, _, rfl, _, _, rfl, rfl, ⟨by decide, by decide⟩, _, _, rfl, rfl, _, _, rfl, rfl, by show (0 : Int) < 2147483647; decide, ?_⟩
    refine ⟨_, rfl, _, _, rfl, rfl, by show (0 : Int) < 5; decide, rfl, _, rfl, ?_⟩
    unfold gst at k
    dsimp only at k
    by_cases hc : absI c % 5 = 4
    · rw [if_pos hc] at k
      rw [decide_eq_true (show V.int (absI c % 5) = V.int 4 by rw [hc])]
      exact iteT ⟨_, rfl, _, _, rfl, rfl, k⟩
    · rw [if_neg hc] at k
      rw [decide_eq_false (show ¬ V.int (absI c % 5) = V.int 4 from fun z => hc (by injection z))]
      exact iteF ⟨_, rfl, k⟩
abbrev st_law_pair : Stmt := top 11
theorem sc_law_pair : FnScope ["_law_found"] ["_law_found"] (defScope st_law_pair) := ⟨rfl, rfl, rfl, by decide +kernel, rfl, by decide +kernel, by decide +kernel⟩
theorem ok_law_pair {f : Addr} {fd : FuncData} (F : Fun K "_law_pair" "_law_pair" st_law_pair f fd) (T : Txt mg)  (C_law_whole : Callee P w K mg base "_law_whole" 1 ["_law_found"] spWhole) : FnOk P w K mg base CX0 2 f fd ["_law_found"] spPairT := by
  refine F.ok sc_law_pair (fun vs H Q E h => ?_) (fun cdv A outer s H vs Q E hr h => ?_)
  · obtain ⟨a, p, rfl, _⟩ := h
    rfl
  · obtain ⟨a, p, rfl, hp, k⟩ := h
    refine ⟨_, pss_cons (ps_if (pw_or (pt_not (pt_val (pe_callB call_isi (by rfl) T.isinstance PyProof.Rows.boot_isinstance (pa_cons (pv 0) (pa_cons (pe_bltn (v := .ty "tuple") (by rfl) T.tuple PyProof.Rows.boot_tuple rfl) pa_nil))))) (pw_or1 (pt_cmpR op_ne (pe_callB call_len_seq (by rfl) T.len PySem.boot_len (pa_cons (pv 0) pa_nil)) pe_int (nomark _)))).pt (pss_one (ps_ret pe_bl)) pss_nil)
      (pss_one (ps_ret (pe_and (pcall C_law_whole hr rfl (pa_cons (pe_ix ix_tup (pv 0) pe_int (fun _ _ => rfl)) pa_nil)) (pe_one (pcall C_law_whole hr rfl (pa_cons (pe_ix ix_tup (pv 0) pe_int (fun _ _ => rfl)) pa_nil)))))), ?_⟩
    refine ⟨_, rfl, _, _, _, true, rfl, TyOf.tup hp, rfl, _, rfl, iteF ?_⟩
    refine ⟨_, rfl, a, _, rfl, .inr (SqT.of hp), rfl, _, rfl, iteF ?_⟩
    refine ⟨_, rfl, a, _, _, _, rfl, rfl, SqT.of hp, rfl, _, rfl, _, rfl, iteT ?_⟩
    exact ⟨_, rfl, a, _, _, _, rfl, rfl, SqT.of hp, rfl, _, rfl, k⟩
abbrev st_law_row : Stmt := top 12
theorem sc_law_row : FnScope ["_law_found"] ["_law_found"] (defScope st_law_row) := ⟨rfl, rfl, rfl, by decide +kernel, rfl, by decide +kernel, by decide +kernel⟩
theorem ok_law_row {f : Addr} {fd : FuncData} (F : Fun K "_law_row" "_law_row" st_law_row f fd) (T : Txt mg)  (C_law_pair : Callee P w K mg base "_law_pair" 2 ["_law_found"] spPairT) : FnOk P w K mg base CX0 3 f fd ["_law_found"] spRowT := by
  refine F.ok sc_law_row (fun vs H Q E h => ?_) (fun cdv A outer s H vs Q E hr h => ?_)
  · obtain ⟨l, ps, rfl, _⟩ := h
    rfl
  · obtain ⟨l, ps, rfl, ⟨as, hl, hp⟩, hlen, k⟩ := h
    refine ⟨_, pss_cons (ps_if (pt_not (pt_val (pe_callB call_isi (by rfl) T.isinstance PyProof.Rows.boot_isinstance (pa_cons (pv 0) (pa_cons (pe_bltn (v := .ty "list") (by rfl) T.list PyProof.Rows.boot_list rfl) pa_nil))))) (pss_one (ps_ret pe_bl)) pss_nil)
      (pss_one (ps_ret (pe_callB (call_allB rfl) (by rfl) T.all PyProof.Rows.boot_all (pa_cons (pe_comp (so := defScope st_law_row) (N := ["_law_found"]) (N' := ["_law_pair_here"]) (src := [none]) rfl rfl ⟨rfl, by decide +kernel, by decide +kernel, by decide +kernel, by decide +kernel, rfl, by decide +kernel⟩ rfl (pi_list (pv 0))
        (fun cl C s2 H2 ex => ⟨pg_name (i := 0) (show (["_law_pair_here"] : List Str).Nodup by decide +kernel) rfl (Or.inl rfl), pts_nil, pcall C_law_pair hr rfl (pa_cons (pv 0) pa_nil)⟩)) pa_nil)))), ?_⟩
    refine ⟨_, rfl, _, _, _, true, rfl, TyOf.lst hl, rfl, _, rfl, iteF ?_⟩
    refine ⟨_, rfl, l, rfl, ⟨_, SqL.of hl⟩, fun q hq => ?_⟩
    have hlq : l ≠ q := ne_of_none hl hq
    refine for_list (K := K) (a := l) (xs := as.map V.ref) (fun i σ H2 => ∃ (v : Option V), σ = [v] ∧ Same H H2 ∧ H2 q = some (.lst ((List.replicate i true).map V.bl)))
      ⟨none, rfl, same_new hq, upd_same⟩ (fun i σ H2 _ ⟨_, _, s2, _⟩ => SqL.of (s2 _ _ hl)) ?_ ?_
    · rintro i y σ H2 hi ⟨v, rfl, s2, hq2⟩
      have hil : i < as.length := by have := (List.getElem?_eq_some_iff.mp hi).1; simpa using this
      obtain ⟨a, ha, rfl⟩ := map_get hi
      obtain ⟨p, _, hpa⟩ := paired_get hp ha
      have hpl := Paired.length hp
      refine tbc_yes ⟨_, rfl, a, p, rfl, s2 _ _ hpa, _, hq2, by rw [List.length_map, List.length_replicate]; exact small1000 (by omega), ?_⟩
      exact ⟨_, rfl, same_upd s2 hq, by rw [upd_same, List.replicate_succ', List.map_append]; rfl⟩
    · rintro σ H2 ⟨v, rfl, s2, hq2⟩
      refine ⟨q, List.replicate as.length true, rfl, SqL.of (by rw [hq2, List.length_map]), ?_⟩
      rw [show (List.replicate as.length true).all id = true by simp]
      exact k H2 s2
abbrev st_law_paper : Stmt := top 13
theorem sc_law_paper : FnScope ["_law_row_here", "_law_worn", "_law_one", "_law_other", "_law_kept"] ["_law_row_here", "_law_worn"] (defScope st_law_paper) := ⟨rfl, rfl, rfl, by decide +kernel, rfl, by decide +kernel, by decide +kernel⟩
theorem ok_law_paper {f : Addr} {fd : FuncData} (F : Fun K "_law_paper" "_law_paper" st_law_paper f fd) (T : Txt mg)   : FnOk P w K mg base CX0 1 f fd ["_law_row_here", "_law_worn"] spPaper := by
  refine F.ok sc_law_paper (fun vs H Q E h => ?_) (fun cdv A outer s H vs Q E hr h => ?_)
  · obtain ⟨l, d, ps, w, rfl, _⟩ := h
    rfl
  · obtain ⟨l, d, ps, w0, rfl, ⟨as, hl, hp⟩, hlen, hd, hwl, k⟩ := h
    have hu := hu_of hr
    have wrI : ∀ (w : List (Int × Int)) (g : Int), ((valV (dk w) (Sum.inl g : Key)).getD (.int g)) = .int (wr w g) := fun w g => by
      rw [valV_dk]; unfold wr
      cases look w g <;> rfl
    refine ⟨_, pss_cons (ps_for PassesOwn.never rfl (pi_list (pv 0)) (pg_tup rfl (pgs_cons (pg_name (i := 2) sc_law_paper.nd rfl (Or.inl rfl)) (pgs_cons (pg_name (i := 3) sc_law_paper.nd rfl (Or.inl rfl)) pgs_nil))) (pss_cons (ps_set (i := 4) sc_law_paper.nd rfl (Or.inl rfl) (pe_dget2 hu (pv 1) (pv 2) (pv 2) ⟨rfl, rfl, rfl, rfl⟩)) (pss_cons (ps_dput hu (pv 1) (pv 2) (pe_dget2 hu (pv 1) (pv 3) (pv 3) ⟨rfl, rfl, rfl, rfl⟩) rfl) (pss_one (ps_dput hu (pv 1) (pv 3) (pv 4) rfl))))) (pss_one (ps_ret (pv 1))), ?_⟩
    have hld : l ≠ d := ne_of hl hd (by intro z; cases z)
    refine ⟨_, rfl, l, rfl, ⟨_, SqL.of hl⟩, for_list (K := K) (a := l) (xs := as.map V.ref) (fun i σ H2 => ∃ (v1 v2 v3 : Option V), σ = [some (.ref l), some (.ref d), v1, v2, v3] ∧ H2 = upd H d (.dK (dk (paperL w0 (ps.take i)))))
      ⟨none, none, none, rfl, by funext b; by_cases hb : b = d; subst hb; rw [upd_same, hd]; rfl; rw [upd_ne hb]⟩ (fun i σ H2 _ ⟨_, _, _, _, h⟩ => SqL.of (by rw [h, upd_ne hld]; exact hl)) ?_ ?_⟩
    · rintro i y σ H2 hi ⟨v1, v2, v3, rfl, rfl⟩
      have hil : i < as.length := by have := (List.getElem?_eq_some_iff.mp hi).1; simpa using this
      obtain ⟨a, ha, rfl⟩ := map_get hi
      obtain ⟨p, hpi, hpa⟩ := paired_get hp ha
      have had : a ≠ d := ne_of hpa hd (by intro z; cases z)
      have hpl := Paired.length hp
      have lw := len_paper (ps.take i) w0
      rw [List.length_take] at lw
      generalize hw : paperL w0 (ps.take i) = w at lw
      have nxt : paperL w0 (ps.take (i + 1)) = swapL w p := by rw [take_snoc hpi]; unfold paperL at hw ⊢; rw [List.foldl_append, hw]; rfl
      have sz : ∀ v : List (Int × Int), v.length ≤ w.length + 1 → (dk v).length < sizeLine := fun v h => by rw [len_dk]; exact Nat.lt_of_lt_of_le (show v.length < 5000 by omega) (by decide)
      refine ⟨a, _, rfl, SqT.of (by rw [upd_ne had]; exact hpa), rfl, _, _, rfl, _, _, rfl, rfl, ?_⟩
      refine ⟨_, rfl, d, rfl, .inl ⟨_, .inl upd_same⟩, _, rfl, _, rfl, _, DGet.k (k := Sum.inl p.1) upd_same, ?_⟩
      refine ⟨_, rfl, d, rfl, .inl ⟨_, .inl upd_same⟩, _, rfl, _, rfl, _, DGet.k (k := Sum.inl p.2) upd_same, _, rfl, _, rfl, d, _, rfl, DPut.k (k := Sum.inl p.1) upd_same (sz w (by omega)), ?_⟩
      refine ⟨_, rfl, _, rfl, _, rfl, d, _, rfl, DPut.k (k := Sum.inl p.2) upd_same ?_, ?_⟩
      · rw [wrI, putK_dk]
        exact sz _ (by have := len_put w p.1 (wr w p.2); omega)
      · refine ⟨_, _, _, rfl, ?_⟩
        rw [nxt, wrI, wrI, putK_dk, putK_dk, upd_upd, upd_upd]
        rfl
    · rintro σ H2 ⟨v1, v2, v3, rfl, rfl⟩
      refine ⟨_, rfl, ?_⟩
      have e : ps.take (as.map V.ref).length = ps := by rw [List.length_map, Paired.length hp, List.take_length]
      rw [e]
      exact k
abbrev st_law_wrong : Stmt := top 14
theorem sc_law_wrong : FnScope ["_law_worn"] ["_law_worn"] (defScope st_law_wrong) := ⟨rfl, rfl, rfl, by decide +kernel, rfl, by decide +kernel, by decide +kernel⟩
theorem ok_law_wrong {f : Addr} {fd : FuncData} (F : Fun K "_law_wrong" "_law_wrong" st_law_wrong f fd) (T : Txt mg)   : FnOk P w K mg base CX0 1 f fd ["_law_worn"] spWrong := by
  refine F.ok sc_law_wrong (fun vs H Q E h => ?_) (fun cdv A outer s H vs Q E hr h => ?_)
  · obtain ⟨d, w, rfl, _⟩ := h
    rfl
  · obtain ⟨d, w, rfl, hd, h64, k⟩ := h
    have hu := hu_of hr
    refine ⟨_, pss_one (ps_ret (pe_comp (so := defScope st_law_wrong) (N := ["_law_worn"]) (N' := ["_law_guest_here", "_law_worn"]) (src := [none, some 0]) rfl rfl ⟨rfl, by decide +kernel, by decide +kernel, by decide +kernel, by decide +kernel, rfl, by decide +kernel⟩ rfl
        (pi_list (pe_callB (call_sortedD rfl) (by rfl) T.sorted PyProof.Rows.boot_sorted (pa_cons (pv 0) pa_nil)))
        (fun cl C s2 H2 ex => ⟨pg_name (i := 0) (show (["_law_guest_here", "_law_worn"] : List Str).Nodup by decide +kernel) rfl (Or.inl rfl), pts_one (pt_cmpR op_ne (pe_dget hu (pv 1) (pv 0) (fun _ _ => rfl)) (pv 0) (nomark _)), pv 0⟩))), ?_⟩
    have hkl : (keysL w).length < 64 := by unfold keysL; rw [List.length_map]; exact h64
    refine ⟨_, rfl, d, _, keysL w, rfl, hd, keys_dk w, hkl, fun q hq => ?_⟩
    have hqd : d ≠ q := ne_of_none hd hq
    refine ⟨q, rfl, ⟨_, SqL.of upd_same⟩, fun r hr0 => ?_⟩
    have hrq : q ≠ r := ne_of_none upd_same hr0
    have hrd : d ≠ r := ne_of_none (show upd H q (.lst ((sortI (keysL w)).map V.int)) d = some (.dK (dk w)) by rw [upd_ne hqd]; exact hd) hr0
    have hHr : H r = none := by rw [upd_ne (Ne.symm hrq)] at hr0; exact hr0
    generalize hks : sortI (keysL w) = ks at *
    have hsl : ks.length < 64 := by rw [← hks, len_sortI]; exact hkl
    refine for_list (K := K) (a := q) (xs := ks.map V.int) (fun i σ H2 => ∃ (v : Option V), σ = [v, some (.ref d)] ∧ Same H H2 ∧ H2 q = some (.lst (ks.map V.int)) ∧ H2 r = some (.lst (((ks.take i).filter fun g => decide (wr w g ≠ g)).map V.int)))
      ⟨none, rfl, same_upd (same_new hq) hHr, by rw [upd_ne hrq, upd_same], upd_same⟩ (fun i σ H2 _ ⟨_, _, _, h, _⟩ => SqL.of h) ?_ ?_
    · rintro i y σ H2 hi ⟨v, rfl, s2, hq2, hr2⟩
      obtain ⟨g, hg, rfl⟩ := map_get hi
      have hil := (List.getElem?_eq_some_iff.mp hg).1
      have hgk : g ∈ keysL w := by rw [← mem_sortI, hks]; exact List.mem_of_getElem? hg
      obtain ⟨m, hm⟩ := Option.isSome_iff_exists.mp (look_mem.mpr hgk)
      have hwr : wr w g = m := by unfold wr; rw [hm]; rfl
      have hval : valV (dk w) (Sum.inl g : Key) = some (.int m) := by rw [valV_dk, hm]; rfl
      have gt : DGet H2 d (.int g) (some (.int m)) := by rw [← hval]; exact DGet.k (k := Sum.inl g) (s2 _ _ hd)
      refine tbc_if ⟨_, rfl, _, rfl, d, _, rfl, gt, _, rfl, rfl, _, rfl, ?_⟩
      have nxt : ((ks.take (i + 1)).filter fun g => decide (wr w g ≠ g)).map V.int = ((ks.take i).filter fun g => decide (wr w g ≠ g)).map V.int ++ (if wr w g ≠ g then [V.int g] else []) := by
        rw [take_snoc hg, List.filter_append, List.map_append]
        congr 1
        by_cases hne : wr w g ≠ g <;> simp [hne]
      by_cases hne : wr w g ≠ g
      · rw [show (!decide (V.int m = V.int g)) = true by rw [decide_eq_false (fun z => hne (by rw [hwr]; injection z))]; rfl]
        have hfl : (((ks.take i).filter fun g => decide (wr w g ≠ g)).map V.int).length ≤ i := by
          rw [List.length_map]
          exact Nat.le_trans (List.length_filter_le _ _) (by rw [List.length_take]; omega)
        refine iteT ⟨_, rfl, _, hr2, small1000 (by omega), ?_⟩
        refine ⟨_, rfl, same_upd s2 hHr, by rw [upd_ne hrq]; exact hq2, ?_⟩
        rw [upd_same, nxt, if_pos hne]
      · have hne' : wr w g = g := by simpa using hne
        rw [show (!decide (V.int m = V.int g)) = false by rw [decide_eq_true (by rw [← hwr, hne'])]; rfl]
        refine iteF ⟨_, rfl, s2, hq2, ?_⟩
        rw [nxt, if_neg hne, List.append_nil]
        exact hr2
    · rintro σ H2 ⟨v, rfl, s2, hq2, hr2⟩
      refine k r H2 hHr s2 ?_
      rw [List.length_map, List.take_length] at hr2
      unfold wrongL
      rw [hks]
      exact hr2
abbrev st_law_pairs_from : Stmt := top 15
theorem sc_law_pairs_from : FnScope ["_law_draws_here", "_law_many_here", "_law_cell", "_law_row_here", "_law_drawn", "_law_one", "_law_other"] ["_law_draws_here", "_law_many_here", "_law_cell"] (defScope st_law_pairs_from) := ⟨rfl, rfl, rfl, by decide +kernel, rfl, by decide +kernel, by decide +kernel⟩
theorem ok_law_pairs_from {f : Addr} {fd : FuncData} (F : Fun K "_law_pairs_from" "_law_pairs_from" st_law_pairs_from f fd) (T : Txt mg)  (C_law_guest : Callee P w K mg base "_law_guest" 2 ["_law_k", "_law_cell"] spGuest) : FnOk P w K mg base CX0 3 f fd ["_law_draws_here", "_law_many_here", "_law_cell"] (spPairs K) := by
  refine F.ok sc_law_pairs_from (fun vs H Q E h => ?_) (fun cdv A outer s H vs Q E hr h => ?_)
  · obtain ⟨a, ds, m, c, rfl, _⟩ := h
    rfl
  · obtain ⟨a, ds, m, c, rfl, hS, hds, ⟨m0, m1⟩, hlen, k⟩ := h
    refine ⟨_, pss_cons (ps_set (i := 3) sc_law_pairs_from.nd rfl (Or.inl rfl) (pe_lst pa_nil))
      (pss_cons (ps_for PassesOwn.never rfl (pi_list (pv 0)) (pg_name (i := 4) sc_law_pairs_from.nd rfl (Or.inl rfl))
        (pss_cons (ps_set (i := 5) sc_law_pairs_from.nd rfl (Or.inl rfl) (pe_op op_mod (pv 4) (pv 1)))
        (pss_cons (ps_set (i := 6) sc_law_pairs_from.nd rfl (Or.inl rfl) (pe_op op_mod (pe_op op_add (pe_op op_add (pv 5) pe_int) (pe_op op_mod (pe_op op_fdiv (pv 4) (pv 1)) (pe_op op_sub (pv 1) pe_int))) (pv 1)))
        (pss_one (ps_expr (pe_bm PySem.F.plainAttrs_list PySem.F.slot_list_append PySem.F.type_list_append mt_append (pv 3) (pa_cons (pe_tup (pa_cons (pcall C_law_guest hr rfl (pa_cons (pv 5) (pa_cons (pv 2) pa_nil))) (pa_cons (pcall C_law_guest hr rfl (pa_cons (pv 6) (pa_cons (pv 2) pa_nil))) pa_nil))) pa_nil)))))))
      (pss_one (ps_ret (pv 3)))), ?_⟩
    refine ⟨by show 0 ≤ sizeLine; exact Nat.zero_le _, fun l hl => ?_⟩
    refine ⟨_, rfl, a, rfl, ⟨_, (same_new hl).seq hS⟩, for_list (K := K) (a := a) (xs := ds.map V.int) (fun i σ H2 => ∃ (v u t : Option V) (as : List Addr) (ps : List (Int × Int)), σ = [some (.ref a), some (.int m), some (.int c), some (.ref l), v, u, t] ∧ Same H H2 ∧ H2 l = some (.lst (as.map V.ref)) ∧ Paired (fun a (p : Int × Int) => H2 a = some (.tup [.int p.1, .int p.2])) as ps ∧ Among m c ps ∧ ps.length = i)
      ⟨none, none, none, [], [], rfl, same_new hl, upd_same, .nil, (fun _ z => nomatch z), rfl⟩ (fun i σ H2 _ ⟨_, _, _, _, _, _, h, _⟩ => h.seq hS) ?_ ?_⟩
    · rintro i y σ H2 hi ⟨v, u, t, as, ps, rfl, s2, hl2, hp, ham, hpl⟩
      have hil : i < ds.length := by have := (List.getElem?_eq_some_iff.mp hi).1; simpa using this
      obtain ⟨d, hd, rfl⟩ := map_get hi
      have d0 := hds d (List.mem_of_getElem? hd)
      refine ⟨_, rfl, _, rfl, _, _, rfl, rfl, by show 0 < m; omega, ?_⟩
      refine ⟨_, rfl, _, _, rfl, rfl, _, rfl, _, rfl, _, _, rfl, rfl, ⟨by show 0 < m; omega, by show m < 1073741824; omega⟩, _, rfl, _, _, rfl, rfl, _, _, rfl, rfl, by show 0 < m - 1; omega, _, _, rfl, rfl, _, rfl, _, _, rfl, rfl, by show 0 < m; omega, ?_⟩
      have i0 := Int.emod_nonneg d (show m ≠ 0 by omega)
      have i1 := Int.emod_lt_of_pos d (show 0 < m by omega)
      have e0 := Int.emod_nonneg (d / m) (show m - 1 ≠ 0 by omega)
      have e1 := Int.emod_lt_of_pos (d / m) (show 0 < m - 1 by omega)
      have j0 := Int.emod_nonneg (d % m + 1 + d / m % (m - 1)) (show m ≠ 0 by omega)
      have j1 := Int.emod_lt_of_pos (d % m + 1 + d / m % (m - 1)) (show 0 < m by omega)
      have hne : d % m ≠ (d % m + 1 + d / m % (m - 1)) % m := by
        generalize hx : d % m = x at *
        generalize hy : d / m % (m - 1) = y at *
        by_cases hs : x + 1 + y < m
        · rw [Int.emod_eq_of_lt (by omega) hs]; omega
        · have e : (x + 1 + y) % m = x + 1 + y - m := by
            rw [← Int.sub_emod_right]
            exact Int.emod_eq_of_lt (by omega) (by omega)
          rw [e]; omega
      refine ⟨_, rfl, .inl ⟨rfl, _, SqL.of hl2⟩, _, rfl, _, rfl, _, c, rfl, ⟨i0, by omega⟩, _, rfl, _, rfl, _, c, rfl, ⟨j0, by omega⟩, by show 2 ≤ sizeLine; decide, fun p hp2 => ?_⟩
      have hlp : l ≠ p := ne_of_none hl2 hp2
      have s3 := same_new (o := .tup [.int (gst (d % m) c), .int (gst ((d % m + 1 + d / m % (m - 1)) % m) c)]) hp2
      refine ⟨l, _, _, rfl, rfl, by rw [upd_ne hlp]; exact hl2, ?_, ?_⟩
      · rw [List.length_map, Paired.length hp, hpl]
        exact small1000 (by omega)
      · have hpn : ∀ x ∈ as, x ≠ l := fun x hx e => by
          obtain ⟨n, hn, rfl⟩ := List.getElem_of_mem hx
          obtain ⟨pp, _, q2⟩ := paired_get (i := n) hp (List.getElem?_eq_getElem hn)
          rw [e, hl2] at q2; cases q2
        have s4 : ∀ x, x ≠ l → ∀ o, (upd H2 p (.tup [.int (gst (d % m) c), .int (gst ((d % m + 1 + d / m % (m - 1)) % m) c)])) x = some o → upd (upd H2 p (.tup [.int (gst (d % m) c), .int (gst ((d % m + 1 + d / m % (m - 1)) % m) c)])) l (.lst (as.map V.ref ++ [V.ref p])) x = some o := fun x hx o e => by rw [upd_ne hx]; exact e
        refine ⟨_, _, _, as ++ [p], ps ++ [(gst (d % m) c, gst ((d % m + 1 + d / m % (m - 1)) % m) c)], rfl, same_upd (fun b o e => s3 b o (s2 b o e)) hl, by rw [upd_same, List.map_append]; rfl, ?_, ?_, by rw [List.length_append, hpl]; rfl⟩
        · refine paired_snoc ?_ (s4 p (Ne.symm hlp) _ upd_same)
          have aux : ∀ {xs : List Addr} {qs : List (Int × Int)}, (∀ x ∈ xs, x ≠ l) → Paired (fun a (p : Int × Int) => H2 a = some (.tup [.int p.1, .int p.2])) xs qs → Paired (fun a (q : Int × Int) => upd (upd H2 p (.tup [.int (gst (d % m) c), .int (gst ((d % m + 1 + d / m % (m - 1)) % m) c)])) l (.lst (as.map V.ref ++ [V.ref p])) a = some (.tup [.int q.1, .int q.2])) xs qs := by
            intro xs qs hx hq
            induction hq with
            | nil => exact .nil
            | cons h _ ih => exact .cons (s4 _ (hx _ List.mem_cons_self) _ (s3 _ _ h)) (ih fun x hm => hx x (List.mem_cons_of_mem _ hm))
          exact aux hpn hp
        · refine among_append ham fun p hp => ?_
          rw [List.mem_singleton.mp hp]
          exact ⟨_, _, ⟨i0, i1⟩, ⟨j0, j1⟩, hne, rfl⟩
    · rintro σ H2 ⟨v, u, t, as, ps, rfl, s2, hl2, hp, ham, hpl⟩
      exact ⟨_, rfl, k l H2 ps hl s2 ⟨as, hl2, hp⟩ ham (by rw [hpl, List.length_map])⟩
abbrev st_law_many : Stmt := top 16
theorem sc_law_many : FnScope ["_law_script"] ["_law_script"] (defScope st_law_many) := ⟨rfl, rfl, rfl, by decide +kernel, rfl, by decide +kernel, by decide +kernel⟩
theorem ok_law_many {f : Addr} {fd : FuncData} (F : Fun K "_law_many" "_law_many" st_law_many f fd) (T : Txt mg)  (C_law_cell_at : Callee P w K mg base "_law_cell_at" 1 ["_law_script", "_law_k"] (spCell K)) : FnOk P w K mg base CX0 2 f fd ["_law_script"] (spMany K) := by
  refine F.ok sc_law_many (fun vs H Q E h => ?_) (fun cdv A outer s H vs Q E hr h => ?_)
  · obtain ⟨a, ns, rfl, _⟩ := h
    rfl
  · obtain ⟨a, ns, rfl, hS, k⟩ := h
    refine ⟨_, pss_one (ps_ret (pe_op op_add pe_int (pe_op op_mod (pcall C_law_cell_at hr rfl (pa_cons (pv 0) (pa_cons pe_int pa_nil))) pe_int))), ?_⟩
    exact ⟨_, rfl, a, ns, 0, rfl, hS, Int.le_refl _, _, _, rfl, rfl, by show (0 : Int) < 11; decide, _, _, rfl, rfl, k⟩
abbrev st_law_drawn_row : Stmt := top 17
theorem sc_law_drawn_row : FnScope ["_law_script", "_law_start", "_law_most"] ["_law_script", "_law_start", "_law_most"] (defScope st_law_drawn_row) := ⟨rfl, rfl, rfl, by decide +kernel, rfl, by decide +kernel, by decide +kernel⟩
theorem ok_law_drawn_row {f : Addr} {fd : FuncData} (F : Fun K "_law_drawn_row" "_law_drawn_row" st_law_drawn_row f fd) (T : Txt mg)  (C_law_pairs_from : Callee P w K mg base "_law_pairs_from" 3 ["_law_draws_here", "_law_many_here", "_law_cell"] (spPairs K)) (C_law_draws_from : Callee P w K mg base "_law_draws_from" 3 ["_law_script", "_law_start", "_law_most", "_law_base"] (spFrom K)) (C_law_many : Callee P w K mg base "_law_many" 2 ["_law_script"] (spMany K)) (C_law_cell_at : Callee P w K mg base "_law_cell_at" 1 ["_law_script", "_law_k"] (spCell K)) : FnOk P w K mg base CX0 4 f fd ["_law_script", "_law_start", "_law_most"] (spDrawn K) := by
  refine F.ok sc_law_drawn_row (fun vs H Q E h => ?_) (fun cdv A outer s H vs Q E hr h => ?_)
  · obtain ⟨a, ns, st, m, rfl, _⟩ := h
    rfl
  · obtain ⟨a, ns, st, m, rfl, hS, hst, hm, k⟩ := h
    refine ⟨_, pss_one (ps_ret (pcall C_law_pairs_from hr rfl (pa_cons (pcall C_law_draws_from hr rfl (pa_cons (pv 0) (pa_cons (pv 1) (pa_cons (pv 2) (pa_cons pe_int pa_nil))))) (pa_cons (pcall C_law_many (hr.mono (by decide)) rfl (pa_cons (pv 0) pa_nil)) (pa_cons (pcall C_law_cell_at (hr.mono (by decide)) rfl (pa_cons (pv 0) (pa_cons pe_int pa_nil))) pa_nil))))), ?_⟩
    refine ⟨_, rfl, _, rfl, _, rfl, a, ns, st, m, 132, rfl, hS, hst, hm, ⟨by decide, by decide⟩, fun q H1 ds hq s1 hq1 hds hdl => ?_⟩
    refine ⟨_, rfl, a, ns, rfl, s1.seq hS, _, rfl, a, ns, 1, rfl, s1.seq hS, by decide, ?_⟩
    refine ⟨q, ds, _, _, rfl, SqL.of hq1, fun d hd => (hds d hd).1, manyOf_in ns, by omega, fun l H' ps hl s2 r ham hpl => ?_⟩
    refine k l H' ps (s1.free hl) (s1.trans s2) r ham (by omega)
abbrev st_law_quad : Stmt := top 18
theorem sc_law_quad : FnScope ["_law_a", "_law_b", "_law_c", "_law_d"] ["_law_a", "_law_b", "_law_c", "_law_d"] (defScope st_law_quad) := ⟨rfl, rfl, rfl, by decide +kernel, rfl, by decide +kernel, by decide +kernel⟩
theorem ok_law_quad {f : Addr} {fd : FuncData} (F : Fun K "_law_quad" "_law_quad" st_law_quad f fd) (T : Txt mg)   : FnOk P w K mg base CX0 1 f fd ["_law_a", "_law_b", "_law_c", "_law_d"] spQuad := by
  refine F.ok sc_law_quad (fun vs H Q E h => ?_) (fun cdv A outer s H vs Q E hr h => ?_)
  · obtain ⟨a, b, c, d, rfl, _⟩ := h
    rfl
  · obtain ⟨a, b, c, d, rfl, k⟩ := h
    refine ⟨_, pss_one (ps_ret (pe_lst (pa_cons (pe_tup (pa_cons (pv 0) (pa_cons (pv 3) pa_nil))) (pa_cons (pe_tup (pa_cons (pv 1) (pa_cons (pv 2) pa_nil))) (pa_cons (pe_tup (pa_cons (pv 0) (pa_cons (pv 1) pa_nil))) (pa_cons (pe_tup (pa_cons (pv 2) (pa_cons (pv 3) pa_nil))) (pa_cons (pe_tup (pa_cons (pv 1) (pa_cons (pv 3) pa_nil))) (pa_cons (pe_tup (pa_cons (pv 0) (pa_cons (pv 2) pa_nil))) pa_nil)))))))), ?_⟩
    have two : (2 : Nat) ≤ sizeLine := by decide
    refine ⟨_, rfl, _, rfl, two, fun p1 h1 => ⟨_, rfl, _, rfl, two, fun p2 h2 => ⟨_, rfl, _, rfl, two, fun p3 h3 => ⟨_, rfl, _, rfl, two, fun p4 h4 => ⟨_, rfl, _, rfl, two, fun p5 h5 => ⟨_, rfl, _, rfl, two, fun p6 h6 => ⟨by show 6 ≤ sizeLine; decide, fun l hl => ?_⟩⟩⟩⟩⟩⟩⟩
    have s1 := same_new (o := .tup [.int a, .int d]) h1
    have s2 := same_new (o := .tup [.int b, .int c]) h2
    have s3 := same_new (o := .tup [.int a, .int b]) h3
    have s4 := same_new (o := .tup [.int c, .int d]) h4
    have s5 := same_new (o := .tup [.int b, .int d]) h5
    have s6 := same_new (o := .tup [.int a, .int c]) h6
    have s7 := same_new (o := .lst [.ref p1, .ref p2, .ref p3, .ref p4, .ref p5, .ref p6]) hl
    refine k l _ (((((s1.trans s2).trans s3).trans s4).trans s5).trans s6 |>.free hl) ((((((s1.trans s2).trans s3).trans s4).trans s5).trans s6).trans s7) ⟨[p1, p2, p3, p4, p5, p6], upd_same, ?_⟩
    exact .cons (s7 _ _ (s6 _ _ (s5 _ _ (s4 _ _ (s3 _ _ (s2 _ _ upd_same)))))) (.cons (s7 _ _ (s6 _ _ (s5 _ _ (s4 _ _ (s3 _ _ upd_same))))) (.cons (s7 _ _ (s6 _ _ (s5 _ _ (s4 _ _ upd_same)))) (.cons (s7 _ _ (s6 _ _ (s5 _ _ upd_same))) (.cons (s7 _ _ (s6 _ _ upd_same)) (.cons (s7 _ _ upd_same) .nil)))))
abbrev st_law_four : Stmt := top 19
theorem sc_law_four : FnScope ["_law_first", "_law_many_here", "_law_names"] ["_law_first", "_law_many_here", "_law_names"] (defScope st_law_four) := ⟨rfl, rfl, rfl, by decide +kernel, rfl, by decide +kernel, by decide +kernel⟩
theorem ok_law_four {f : Addr} {fd : FuncData} (F : Fun K "_law_four" "_law_four" st_law_four f fd) (T : Txt mg)  (C_law_guest : Callee P w K mg base "_law_guest" 2 ["_law_k", "_law_cell"] spGuest) : FnOk P w K mg base CX0 3 f fd ["_law_first", "_law_many_here", "_law_names"] spFour := by
  refine F.ok sc_law_four (fun vs H Q E h => ?_) (fun cdv A outer s H vs Q E hr h => ?_)
  · obtain ⟨f, m, n, rfl, _⟩ := h
    rfl
  · obtain ⟨f0, m, n, rfl, hf, ⟨m0, m1⟩, k⟩ := h
    refine ⟨_, pss_one (ps_ret (pe_comp (so := defScope st_law_four) (N := ["_law_first", "_law_many_here", "_law_names"]) (N' := ["_law_k", "_law_first", "_law_many_here", "_law_names"]) (src := [none, some 0, some 1, some 2]) rfl rfl ⟨rfl, by decide +kernel, by decide +kernel, by decide +kernel, by decide +kernel, rfl, by decide +kernel⟩ rfl
        (pi_range1 (by rfl) T.range (pa_cons pe_int pa_nil))
        (fun cl C s2 H2 ex => ⟨pg_name (i := 0) (show (["_law_k", "_law_first", "_law_many_here", "_law_names"] : List Str).Nodup by decide +kernel) rfl (Or.inl rfl), pts_nil, pcall C_law_guest hr rfl (pa_cons (pe_op op_mod (pe_op op_add (pv 1) (pv 0)) (pv 2)) (pa_cons (pv 3) pa_nil))⟩))), ?_⟩
    refine ⟨4, rfl, by decide, by decide, fun l hl => ?_⟩
    refine for_range (n := 4) (fun i σ H2 => ∃ v : Option V, σ = [v, some (.int f0), some (.int m), some (.int n)] ∧ H2 = upd H l (.lst (([gst ((f0 + 0) % m) n, gst ((f0 + 1) % m) n, gst ((f0 + 2) % m) n, gst ((f0 + 3) % m) n].take i).map V.int)))
      ⟨none, rfl, rfl⟩ ?_ ?_
    · rintro i σ H2 hi ⟨v, rfl, rfl⟩
      refine tbc_yes ⟨_, rfl, _, rfl, _, _, rfl, rfl, _, rfl, _, _, rfl, rfl, by show 0 < m; omega, _, rfl, _, n, rfl, ⟨Int.emod_nonneg _ (by omega), by have := Int.emod_lt_of_pos (f0 + (0 + (i : Int))) (show 0 < m by omega); omega⟩, _, upd_same, ?_, ?_⟩
      · rw [List.length_map, List.length_take]
        exact small1000 (by omega)
      · refine ⟨_, rfl, ?_⟩
        rw [upd_upd]
        match i, hi with
        | 0, _ => rfl
        | 1, _ => rfl
        | 2, _ => rfl
        | 3, _ => rfl
    · rintro σ H2 ⟨v, rfl, rfl⟩
      exact k l _ hl (same_new hl) upd_same
abbrev st_law_bent : Stmt := top 20
theorem sc_law_bent : FnScope ["_law_row_here", "_law_cell", "_law_many_here", "_law_names", "_law_place", "_law_spare", "_law_four_here"] ["_law_row_here", "_law_cell", "_law_many_here", "_law_names"] (defScope st_law_bent) := ⟨rfl, rfl, rfl, by decide +kernel, rfl, by decide +kernel, by decide +kernel⟩
theorem ok_law_bent {f : Addr} {fd : FuncData} (F : Fun K "_law_bent" "_law_bent" st_law_bent f fd) (T : Txt mg)  (C_law_pairs_from : Callee P w K mg base "_law_pairs_from" 3 ["_law_draws_here", "_law_many_here", "_law_cell"] (spPairs K)) (C_law_four : Callee P w K mg base "_law_four" 3 ["_law_first", "_law_many_here", "_law_names"] spFour) (C_law_quad : Callee P w K mg base "_law_quad" 1 ["_law_a", "_law_b", "_law_c", "_law_d"] spQuad) : FnOk P w K mg base CX0 4 f fd ["_law_row_here", "_law_cell", "_law_many_here", "_law_names"] spBent := by
  refine F.ok sc_law_bent (fun vs H Q E h => ?_) (fun cdv A outer s H vs Q E hr h => ?_)
  · obtain ⟨l, ps, c, m, n, rfl, _⟩ := h
    rfl
  · obtain ⟨l, ps, c, m, n, rfl, r0, ha, hl0, hc, hm, k⟩ := h
    obtain ⟨xs, hl, rx⟩ := r0.refs
    have hxl := rx.length
    have big : (5000 : Nat) ≤ sizeLine := by decide
    refine ⟨_, pss_cons (ps_set (i := 4) sc_law_bent.nd rfl (Or.inl rfl) (pe_op op_mod (pe_op op_fdiv (pv 1) pe_int) (pe_op op_add (pe_callB call_len_seq (by rfl) T.len PySem.boot_len (pa_cons (pv 0) pa_nil)) pe_int))) (
      pss_cons (ps_set (i := 5) sc_law_bent.nd rfl (Or.inl rfl) (pcall C_law_pairs_from hr rfl (pa_cons (pe_lst (pa_cons (pe_op op_mod (pe_op op_fdiv (pv 1) pe_int) pe_int) pa_nil)) (pa_cons (pv 2) (pa_cons (pv 3) pa_nil))))) (
      pss_cons (ps_if (pt_cmpR op_eq (pe_op op_mod (pv 1) pe_int) pe_int (nomark _)) (pss_one (ps_ret (pe_op op_cat (pe_op op_cat (pe_op op_cat (pe_slice sl_list (pv 0) po_none (po_some (pv 4))) (pv 5)) (pv 5)) (pe_slice sl_list (pv 0) (po_some (pv 4)) po_none)))) pss_nil) (
      pss_cons (ps_if (pt_cmpR op_eq (pe_op op_mod (pv 1) pe_int) pe_int (nomark _)) (pss_cons (ps_set (i := 5) sc_law_bent.nd rfl (Or.inl rfl) (pe_listrev rfl (pe_slice sl_list (pv 0) (po_some (pv 4)) (po_some (pe_op op_add (pv 4) pe_int))) (by rfl) T.list (by rfl) T.reversed)) (pss_one (ps_ret (pe_op op_cat (pe_op op_cat (pe_slice sl_list (pv 0) po_none (po_some (pv 4))) (pv 5)) (pe_slice sl_list (pv 0) (po_some (pe_op op_add (pv 4) pe_int)) po_none))))) pss_nil) (
      pss_cons (ps_if (pt_cmpR op_eq (pe_op op_mod (pv 1) pe_int) pe_int (nomark _)) (pss_one (ps_ret (pe_op op_cat (pe_op op_cat (pe_slice sl_list (pv 0) po_none (po_some (pv 4))) (pv 5)) (pe_slice sl_list (pv 0) (po_some (pe_op op_add (pv 4) pe_int)) po_none)))) pss_nil) (
      pss_cons (ps_if (PW.pt (pw_and (pt_cmpR op_eq (pe_op op_mod (pv 1) pe_int) pe_int (nomark _)) (pw_and1 (pt_cmpR op_gt (pv 2) pe_int (nomark _))))) (pss_cons (ps_set (i := 6) sc_law_bent.nd rfl (Or.inl rfl) (pcall C_law_four hr rfl (pa_cons (pe_op op_fdiv (pv 1) pe_int) (pa_cons (pv 2) (pa_cons (pv 3) pa_nil))))) (pss_one (ps_ret (pe_op op_cat (pe_op op_cat (pe_slice sl_list (pv 0) po_none (po_some (pv 4))) (pcall C_law_quad (hr.mono (by decide)) rfl (pa_cons (pe_ix ix_list (pv 6) pe_int (fun _ _ => rfl)) (pa_cons (pe_ix ix_list (pv 6) pe_int (fun _ _ => rfl)) (pa_cons (pe_ix ix_list (pv 6) pe_int (fun _ _ => rfl)) (pa_cons (pe_ix ix_list (pv 6) pe_int (fun _ _ => rfl)) pa_nil)))))) (pe_slice sl_list (pv 0) (po_some (pv 4)) po_none))))) pss_nil) (
      pss_cons (ps_if (pt_cmpR op_eq (pe_op op_mod (pv 1) pe_int) pe_int (nomark _)) (pss_one (ps_ret (pe_op op_cat (pe_slice sl_list (pv 0) po_none (po_some (pv 4))) (pe_comp (so := defScope st_law_bent) (N := ["_law_row_here", "_law_cell", "_law_many_here", "_law_names", "_law_place", "_law_spare", "_law_four_here"]) (N' := ["_law_pair_here"]) (src := [none]) rfl rfl ⟨rfl, by decide +kernel, by decide +kernel, by decide +kernel, by decide +kernel, rfl, by decide +kernel⟩ rfl (pi_list (pe_slice sl_list (pv 0) (po_some (pv 4)) po_none)) (fun cl C s2 H2 ex => ⟨pg_name (i := 0) (show (["_law_pair_here"] : List Str).Nodup by decide +kernel) rfl (Or.inl rfl), pts_nil, pe_tup (pa_cons (pe_ix (ix_tupK K) (pv 0) pe_int (fun _ _ => rfl)) (pa_cons (pe_ix (ix_tupK K) (pv 0) pe_int (fun _ _ => rfl)) pa_nil))⟩))))) pss_nil) (
      pss_one (ps_ret (pe_callTy call_list_of (by rfl) T.list PyProof.Rows.boot_list (pa_cons (pv 0) pa_nil)))))))))), ?_⟩
    refine ⟨_, rfl, _, _, rfl, rfl, ⟨by decide, by decide⟩, _, rfl, l, _, rfl, .inl (SqL.of hl), _, _, rfl, rfl, _, _, rfl, rfl, by show (0 : Int) < (xs.length : Int) + 1; omega, ?_⟩
    generalize hpl : c / 6 % ((xs.length : Int) + 1) = pl
    refine ⟨_, rfl, _, _, rfl, rfl, ⟨by decide, by decide⟩, _, _, rfl, rfl, by show (0 : Int) < 132; decide, by show 1 ≤ sizeLine; decide, fun d0 hd0 => ⟨_, rfl, _, rfl, d0, [c / 7 % 132], m, n, rfl, SqL.of upd_same, ?_, hm, by show 1 ≤ 1000; decide, fun sp H1 sps hsp0 s1 rsp hsa hsl => ?_⟩⟩
    · intro d hd
      rw [List.mem_singleton.mp hd]; exact Int.emod_nonneg _ (by decide)
    have s01 : Same H H1 := (same_new hd0).trans s1
    have hsl' : sps.length ≤ 1 := by rw [hsl]; exact Nat.le_refl _
    have hsp : H sp = none := (same_new hd0).free hsp0
    clear s1 hsp0 hsl hd0
    have hl1 := s01 _ _ hl
    have rx1 := rx.mono s01
    obtain ⟨ys, hsp1, rsp1⟩ := rsp.refs
    have hyl := rsp1.length
    -- a + b, both rows
    have cat : ∀ {G : Hp} {x y : Addr} {us vs : List V} {qs ws : List (Int × Int)} {Q' : VK}, Same H G → G x = some (.lst us) → Refs G us qs → G y = some (.lst vs) → Refs G vs ws → us.length + vs.length ≤ 4000 → (∀ (p : Addr) (G' : Hp), H p = none → Same G G' → G' p = some (.lst (us ++ vs)) → Refs G' (us ++ vs) (qs ++ ws) → Q' (.ref p) G') → rCat (.ref x) (.ref y) G Q' := fun {G x y us vs qs ws Q'} sg hx ru hy rv hlen kk =>
      ⟨x, y, us, vs, rfl, rfl, hx, hy, by omega, fun p hp => kk p _ (sg.free hp) (same_new hp) upd_same ((ru.app rv).mono (same_new hp))⟩
    -- row[lo:hi]
    have cut : ∀ {G : Hp} {lo hi : Option Int} {Q' : VK}, Same H G → (∀ (p : Addr) (G' : Hp) (us : List V) (qs : List (Int × Int)), H p = none → Same G G' → G' p = some (.lst us) → Refs G' us qs → Among m n qs → qs.length ≤ 100 → Q' (.ref p) G') → rSlL K (.ref l) lo hi G Q' := fun {G lo hi Q'} sg kk => by
      obtain ⟨qs, rq, hq, hql⟩ := (rx.mono sg).cut ha lo hi
      exact ⟨l, xs, rfl, SqL.of (sg _ _ hl), fun p hp => kk p _ _ qs (sg.free hp) (same_new hp) upd_same (rq.mono (same_new hp)) hq (by omega)⟩
    refine ⟨_, rfl, _, _, rfl, rfl, by show (0 : Int) < 6; decide, rfl, _, rfl, ite2 (fun _ => ?_) (fun _ => ?_)⟩
    · refine ⟨_, rfl, _, rfl, _, rfl, cut s01 fun p1 G1 u1 q1 n1 g1 h1 e1 a1 l1 => ⟨_, rfl, cat (s01.trans g1) h1 e1 (g1 _ _ hsp1) (rsp1.mono g1) (by have := e1.length; omega) fun p2 G2 n2 g2 h2 e2 => ⟨_, rfl, cat ((s01.trans g1).trans g2) h2 e2 (g2 _ _ (g1 _ _ hsp1)) ((rsp1.mono g1).mono g2) (by have := e2.length; rw [List.length_append] at this ⊢; have := e1.length; omega) fun p3 G3 n3 g3 h3 e3 => ?_⟩⟩⟩
      refine ⟨_, rfl, _, rfl, _, rfl, noPart <| cut (((s01.trans g1).trans g2).trans g3) fun p4 G4 u4 q4 n4 g4 h4 e4 a4 l4 => cat ((((s01.trans g1).trans g2).trans g3).trans g4) (g4 _ _ h3) (e3.mono g4) h4 e4 (by have := e3.length; have := e4.length; simp only [List.length_append] at *; omega) fun p5 G5 n5 g5 h5 e5 => ?_⟩
      exact k p5 G5 _ n5 (((((s01.trans g1).trans g2).trans g3).trans g4).trans g5) (e5.row h5) (among_append (among_append (among_append a1 hsa) hsa) a4) (by simp only [List.length_append]; omega)
    refine ⟨_, rfl, _, _, rfl, rfl, by show (0 : Int) < 6; decide, rfl, _, rfl, ite2 (fun _ => ?_) (fun _ => ?_)⟩
    · refine ⟨_, rfl, _, rfl, _, rfl, _, rfl, _, _, rfl, rfl, _, rfl, cut s01 fun p1 G1 u1 q1 n1 g1 h1 e1 a1 l1 => ⟨p1, u1, rfl, SqL.of h1, fun p2 hp2 => ?_⟩⟩
      have g2 := same_new (o := .lst u1.reverse) hp2
      have e2 : Refs (upd G1 p2 (.lst u1.reverse)) u1.reverse q1.reverse := (e1.mono g2).rev
      have h2 : upd G1 p2 (.lst u1.reverse) p2 = some (.lst u1.reverse) := upd_same
      generalize upd G1 p2 (.lst u1.reverse) = G2 at g2 e2 h2
      have s2 := (s01.trans g1).trans g2
      refine ⟨_, rfl, _, rfl, _, rfl, cut s2 fun p3 G3 u3 q3 n3 g3 h3 e3 a3 l3 => ⟨_, rfl, cat (s2.trans g3) h3 e3 (g3 _ _ h2) (e2.mono g3) (by have := e2.length; have := e3.length; rw [List.length_reverse] at *; rw [List.length_reverse] at *; omega) fun p4 G4 n4 g4 h4 e4 => ?_⟩⟩
      refine ⟨_, rfl, _, rfl, _, _, rfl, rfl, _, rfl, noPart <| cut ((s2.trans g3).trans g4) fun p5 G5 u5 q5 n5 g5 h5 e5 a5 l5 => cat (((s2.trans g3).trans g4).trans g5) (g5 _ _ h4) (e4.mono g5) h5 e5 (by have := e4.length; have := e5.length; simp only [List.length_append, List.length_reverse] at *; omega) fun p6 G6 n6 g6 h6 e6 => ?_⟩
      exact k p6 G6 _ n6 ((((s2.trans g3).trans g4).trans g5).trans g6) (e6.row h6) (among_append (among_append a3 (among_reverse a1)) a5) (by simp only [List.length_append, List.length_reverse]; omega)
    refine ⟨_, rfl, _, _, rfl, rfl, by show (0 : Int) < 6; decide, rfl, _, rfl, ite2 (fun _ => ?_) (fun _ => ?_)⟩
    · refine ⟨_, rfl, _, rfl, _, rfl, cut s01 fun p1 G1 u1 q1 n1 g1 h1 e1 a1 l1 => ⟨_, rfl, cat (s01.trans g1) h1 e1 (g1 _ _ hsp1) (rsp1.mono g1) (by have := e1.length; omega) fun p2 G2 n2 g2 h2 e2 => ?_⟩⟩
      refine ⟨_, rfl, _, rfl, _, _, rfl, rfl, _, rfl, noPart <| cut ((s01.trans g1).trans g2) fun p4 G4 u4 q4 n4 g4 h4 e4 a4 l4 => cat (((s01.trans g1).trans g2).trans g4) (g4 _ _ h2) (e2.mono g4) h4 e4 (by have := e2.length; have := e4.length; simp only [List.length_append] at *; omega) fun p5 G5 n5 g5 h5 e5 => ?_⟩
      exact k p5 G5 _ n5 ((((s01.trans g1).trans g2).trans g4).trans g5) (e5.row h5) (among_append (among_append a1 hsa) a4) (by simp only [List.length_append]; omega)
    refine ⟨_, rfl, _, _, rfl, rfl, by show (0 : Int) < 6; decide, rfl, _, rfl, ?_⟩
    refine and_ite ?rest (fun rest _ => ⟨_, rfl, _, _, rfl, rfl, _, rfl, ite2 (fun hm3 => ?_) (fun _ => rest)⟩)
    case rest =>
      refine ⟨_, rfl, _, _, rfl, rfl, by show (0 : Int) < 6; decide, rfl, _, rfl, ite2 (fun _ => ?_) (fun _ => ?_)⟩
      · refine ⟨_, rfl, _, rfl, _, rfl, cut s01 fun p1 G1 u1 q1 n1 g1 h1 e1 a1 l1 => ?_⟩
        refine ⟨_, rfl, _, rfl, _, rfl, noPart <| cut (s01.trans g1) fun p2 G2 u2 q2 n2 g2 h2 e2 a2 l2 => ⟨p2, rfl, ⟨_, SqL.of h2⟩, fun q hq => ?_⟩⟩
        have s2 := (s01.trans g1).trans g2
        obtain ⟨as2, rfl, hp2⟩ := id e2
        have hal := Paired.length hp2
        refine for_list (K := K) (a := p2) (xs := as2.map V.ref) (fun i σ G3 => ∃ (v : Option V) (bs : List Addr), σ = [v] ∧ Same G2 G3 ∧ G3 q = some (.lst (bs.map V.ref)) ∧ bs.length = i ∧ Paired (fun a (p : Int × Int) => G3 a = some (.tup [.int p.1, .int p.2])) bs ((q2.take i).map fun p => (p.2, p.1)))
          ⟨none, [], rfl, same_new hq, upd_same, rfl, .nil⟩ (fun i σ G3 _ ⟨_, _, _, h, _⟩ => SqL.of (h _ _ h2)) ?_ ?_
        · rintro i y σ G3 hi ⟨v, bs, rfl, g3, hq3, hbl, hp3⟩
          have hil : i < as2.length := by have := (List.getElem?_eq_some_iff.mp hi).1; simpa using this
          obtain ⟨x, hx, rfl⟩ := map_get hi
          obtain ⟨p, hpi, hpx⟩ := paired_get hp2 hx
          have hx3 : SqT K G3 x [.int p.1, .int p.2] := SqT.of (g3 _ _ hpx)
          refine tbc_yes ⟨_, rfl, x, _, _, _, rfl, rfl, hx3, rfl, _, rfl, x, _, _, _, rfl, rfl, hx3, rfl, by show 2 ≤ sizeLine; decide, fun t ht => ?_⟩
          have hqt : q ≠ t := ne_of_none hq3 ht
          refine ⟨_, by rw [upd_ne hqt]; exact hq3, by rw [List.length_map]; omega, ?_⟩
          have kp : ∀ z, z ≠ q → ∀ o, G3 z = some o → upd (upd G3 t (.tup [.int p.2, .int p.1])) q (.lst (bs.map V.ref ++ [V.ref t])) z = some o := fun z hz o e => by rw [upd_ne hz, upd_ne (ne_of_none e ht)]; exact e
          refine ⟨_, bs ++ [t], rfl, same_upd (same_upd g3 (g3.free ht)) hq, by rw [upd_same, List.map_append]; rfl, by rw [List.length_append, hbl]; rfl, ?_⟩
          rw [take_snoc hpi, List.map_append]
          refine paired_snoc ?_ (by rw [upd_ne (Ne.symm hqt), upd_same])
          have hx : ∀ z ∈ bs, z ≠ q := fun z hz e => by
            obtain ⟨j, hj, rfl⟩ := List.getElem_of_mem hz
            obtain ⟨pp, _, w2⟩ := paired_get (i := j) hp3 (List.getElem?_eq_getElem hj)
            rw [e, hq3] at w2; cases w2
          exact paired_keep hp3 hx fun z hz o e => kp z hz o e
        · rintro σ G3 ⟨v, bs, rfl, g3, hq3, hbl, hp3⟩
          rw [List.length_map, hal, List.take_length] at hp3
          have e3 : Refs G3 (bs.map V.ref) (q2.map fun p => (p.2, p.1)) := ⟨bs, rfl, hp3⟩
          refine cat (s2.trans g3) (g3 _ _ (g2 _ _ h1)) ((e1.mono g2).mono g3) hq3 e3 (by have := e1.length; have := e3.length; rw [List.length_map] at *; rw [List.length_map] at *; omega) fun p5 G5 n5 g5 h5 e5 => ?_
          refine k p5 G5 _ n5 ((s2.trans g3).trans g5) (e5.row h5) (among_append a1 fun p hp => ?_) (by rw [List.length_append, List.length_map]; omega)
          obtain ⟨p0, hp0, rfl⟩ := List.mem_map.mp hp
          obtain ⟨i, j, hi, hj, hij, rfl⟩ := a2 p0 hp0
          exact ⟨j, i, hj, hi, Ne.symm hij, rfl⟩
      · refine ⟨_, rfl, l, _, rfl, .inl (SqL.of hl1), fun p hp => ?_⟩
        exact k p _ ps (s01.free hp) (s01.trans (same_new hp)) ((rx1.mono (same_new hp)).row upd_same) ha (by omega)
    have hm3 := of_decide_eq_true hm3
    refine ⟨_, rfl, _, _, rfl, rfl, ⟨by decide, by decide⟩, _, rfl, _, rfl, c / 11, m, n, rfl, Int.ediv_nonneg hc (by decide), hm, fun f4 G1 hf4 g1 h4 => ?_⟩
    generalize hf : c / 11 = f0 at h4
    have it : ∀ {G : Hp} (_ : Same G1 G) (j : Nat) (z : Int), [gst ((f0 + 0) % m) n, gst ((f0 + 1) % m) n, gst ((f0 + 2) % m) n, gst ((f0 + 3) % m) n][j]? = some z → SqL K G f4 ([gst ((f0 + 0) % m) n, gst ((f0 + 1) % m) n, gst ((f0 + 2) % m) n, gst ((f0 + 3) % m) n].map V.int) ∧ atI ([gst ((f0 + 0) % m) n, gst ((f0 + 1) % m) n, gst ((f0 + 2) % m) n, gst ((f0 + 3) % m) n].map V.int) (j : Int) = some (.int z) := fun sg j z hz => ⟨SqL.of (sg _ _ h4), atI_nat (by rw [List.getElem?_map, hz]; rfl)⟩
    have s1 := s01.trans g1
    refine ⟨_, rfl, _, rfl, _, rfl, cut s1 fun p1 G2 u1 q1 n1 g2 h1 e1 a1 l1 => ?_⟩
    have i0 := it g2 0 _ rfl
    have i1 := it g2 1 _ rfl
    have i2 := it g2 2 _ rfl
    have i3 := it g2 3 _ rfl
    refine ⟨_, rfl, f4, _, _, _, rfl, rfl, i0.1, i0.2, _, rfl, f4, _, _, _, rfl, rfl, i1.1, i1.2, _, rfl, f4, _, _, _, rfl, rfl, i2.1, i2.2, _, rfl, f4, _, _, _, rfl, rfl, i3.1, i3.2, _, _, _, _, rfl, fun qd G3 hqd g3 rq => ?_⟩
    obtain ⟨uq, hq3, eq3⟩ := rq.refs
    have hlq := eq3.length
    refine cat ((s1.trans g2).trans g3) (g3 _ _ h1) (e1.mono g3) hq3 eq3 (by have := e1.length; simp only [List.length_cons, List.length_nil] at hlq; omega) fun p2 G4 n2 g4 h2 e2 => ?_
    refine ⟨_, rfl, _, rfl, _, rfl, noPart <| cut (((s1.trans g2).trans g3).trans g4) fun p4 G5 u4 q4 n4 g5 h4' e4 a4 l4 => cat ((((s1.trans g2).trans g3).trans g4).trans g5) (g5 _ _ h2) (e2.mono g5) h4' e4 (by have := e2.length; have := e4.length; simp only [List.length_append, List.length_cons, List.length_nil] at *; omega) fun p5 G6 n5 g6 h5 e5 => ?_⟩
    refine k p5 G6 _ n5 (((((s1.trans g2).trans g3).trans g4).trans g5).trans g6) (e5.row h5) (among_append (among_append a1 ?_) a4) (by simp only [List.length_append, List.length_cons, List.length_nil]; omega)
    have mm : ∀ x : Int, 0 ≤ x % m ∧ x % m < m := fun x => ⟨Int.emod_nonneg _ (by omega), Int.emod_lt_of_pos _ (by omega)⟩
    have dif : ∀ i j : Int, 0 ≤ i → i < j → j ≤ 3 → (f0 + i) % m ≠ (f0 + j) % m := fun i j h0 h1 h2 e => by
      have e2 := Int.emod_emod_of_dvd (f0 + j - (f0 + i)) (Int.dvd_refl m)
      have : (f0 + j - (f0 + i)) % m = 0 := Int.emod_eq_emod_iff_emod_sub_eq_zero.mp e.symm
      have h3 : f0 + j - (f0 + i) = j - i := by omega
      rw [h3, Int.emod_eq_of_lt (by omega) (by omega)] at this
      omega
    exact among_quad (mm _) (mm _) (mm _) (mm _) (dif 0 1 (by decide) (by decide) (by decide)) (dif 0 2 (by decide) (by decide) (by decide)) (dif 0 3 (by decide) (by decide) (by decide)) (dif 1 2 (by decide) (by decide) (by decide)) (dif 1 3 (by decide) (by decide) (by decide)) (dif 2 3 (by decide) (by decide) (by decide))
abbrev st_law_moves : Stmt := top 21
theorem sc_law_moves : FnScope ["_law_worn"] ["_law_worn"] (defScope st_law_moves) := ⟨rfl, rfl, rfl, by decide +kernel, rfl, by decide +kernel, by decide +kernel⟩
theorem ok_law_moves {f : Addr} {fd : FuncData} (F : Fun K "_law_moves" "_law_moves" st_law_moves f fd) (T : Txt mg)  (C_law_wrong : Callee P w K mg base "_law_wrong" 1 ["_law_worn"] spWrong) : FnOk P w K mg base CX0 2 f fd ["_law_worn"] spMoves := by
  refine F.ok sc_law_moves (fun vs H Q E h => ?_) (fun cdv A outer s H vs Q E hr h => ?_)
  · obtain ⟨d, w, rfl, _⟩ := h
    rfl
  · obtain ⟨d, w, rfl, hd, h64, k⟩ := h
    have hu := hu_of hr
    refine ⟨_, pss_one (ps_ret (pe_comp (so := defScope st_law_moves) (N := ["_law_worn"]) (N' := ["_law_guest_here", "_law_worn"]) (src := [none, some 0]) rfl rfl ⟨rfl, by decide +kernel, by decide +kernel, by decide +kernel, by decide +kernel, rfl, by decide +kernel⟩ rfl
        (pi_list (pcall C_law_wrong hr rfl (pa_cons (pv 0) pa_nil)))
        (fun cl C s2 H2 ex => ⟨pg_name (i := 0) (show (["_law_guest_here", "_law_worn"] : List Str).Nodup by decide +kernel) rfl (Or.inl rfl), pts_nil, pe_tup (pa_cons (pv 0) (pa_cons (pe_dget hu (pv 1) (pv 0) (fun _ _ => rfl)) pa_nil))⟩))), ?_⟩
    refine ⟨_, rfl, d, w, rfl, hd, h64, fun q H7 hq s7 hq7 => ?_⟩
    refine ⟨q, rfl, ⟨_, SqL.of hq7⟩, fun l5 hl5 => ?_⟩
    have hHl : H l5 = none := s7.free hl5
    have hkn := wrong_len w
    generalize hks : wrongL w = ks at hq7 hkn
    have hmv : movesL w = ks.map fun g => (g, wr w g) := by unfold movesL; rw [hks]
    have hkm : ∀ g ∈ ks, g ∈ keysL w := fun g hg => by rw [← hks] at hg; exact wrong_mem hg
    refine for_list (K := K) (a := q) (xs := ks.map V.int) (fun i σ H8 => ∃ (v : Option V) (bs : List Addr), σ = [v, some (.ref d)] ∧ Same H7 H8 ∧ H8 l5 = some (.lst (bs.map V.ref)) ∧ bs.length = i ∧ Paired (fun a (p : Int × Int) => H8 a = some (.tup [.int p.1, .int p.2])) bs ((ks.take i).map fun g => (g, wr w g)))
      ⟨none, [], rfl, same_new hl5, upd_same, rfl, .nil⟩ (fun i σ H8 _ ⟨_, _, _, h, _⟩ => SqL.of (h _ _ hq7)) ?_ ?_
    · rintro i y σ H8 hi ⟨v, bs, rfl, s8, hl8, hbl, hp8⟩
      obtain ⟨g, hg, rfl⟩ := map_get hi
      have hil := (List.getElem?_eq_some_iff.mp hg).1
      obtain ⟨m, hm⟩ := Option.isSome_iff_exists.mp (look_mem.mpr (hkm g (List.mem_of_getElem? hg)))
      have hwr : wr w g = m := by unfold wr; rw [hm]; rfl
      have hval : valV (dk w) (Sum.inl g : Key) = some (.int m) := by rw [valV_dk, hm]; rfl
      have gt : DGet H8 d (.int g) (some (.int m)) := by rw [← hval]; exact DGet.k (k := Sum.inl g) (s8 _ _ (s7 _ _ hd))
      refine tbc_yes ⟨_, rfl, _, rfl, _, rfl, d, _, rfl, gt, by show 2 ≤ sizeLine; decide, fun p hp2 => ?_⟩
      have hlp : l5 ≠ p := ne_of_none hl8 hp2
      refine ⟨_, by rw [upd_ne hlp]; exact hl8, by rw [List.length_map]; exact small1000 (by omega), ?_⟩
      have s9 : ∀ x, x ≠ l5 → ∀ o, H8 x = some o → upd (upd H8 p (.tup [.int g, .int m])) l5 (.lst (bs.map V.ref ++ [V.ref p])) x = some o := fun x hx o e => by rw [upd_ne hx, upd_ne (ne_of_none e hp2)]; exact e
      refine ⟨_, bs ++ [p], rfl, same_upd (same_upd s8 (s8.free hp2)) hl5, by rw [upd_same, List.map_append]; rfl, by rw [List.length_append, hbl]; rfl, ?_⟩
      rw [take_snoc hg, List.map_append]
      refine paired_snoc ?_ (by rw [upd_ne (Ne.symm hlp), upd_same, ← hwr])
      have hx : ∀ x ∈ bs, x ≠ l5 := fun x hx e => by
        obtain ⟨n, hn, rfl⟩ := List.getElem_of_mem hx
        obtain ⟨pp, _, q2⟩ := paired_get (i := n) hp8 (List.getElem?_eq_getElem hn)
        rw [e, hl8] at q2; cases q2
      exact paired_keep hp8 hx fun x hx o e => s9 x hx o e
    · rintro σ H8 ⟨v, bs, rfl, s8, hl8, hbl, hp8⟩
      rw [List.length_map, List.take_length, ← hmv] at hp8
      exact k l5 H8 hHl (s7.trans s8) ⟨bs, hl8, hp8⟩
abbrev st_law : Stmt := top 22
theorem sc_law : FnScope ["_law_script", "_law_row_here", "_law_many_here", "_law_names", "_law_bend", "_law_other", "_law_one", "_law_two", "_law_left", "_law_right", "_law_spare"] ["_law_script"] (defScope st_law) := ⟨rfl, rfl, rfl, by decide +kernel, rfl, by decide +kernel, by decide +kernel⟩
theorem ok_law {f : Addr} {fd : FuncData} (F : Fun K "law" "law" st_law f fd) (T : Txt mg)  (C_law_drawn_row : Callee P w K mg base "_law_drawn_row" 4 ["_law_script", "_law_start", "_law_most"] (spDrawn K)) (C_law_many : Callee P w K mg base "_law_many" 2 ["_law_script"] (spMany K)) (C_law_cell_at : Callee P w K mg base "_law_cell_at" 1 ["_law_script", "_law_k"] (spCell K)) (C_law_size : Callee P w K mg base "_law_size" 1 ["_law_cell"] spSize) (C_law_bent : Callee P w K mg base "_law_bent" 4 ["_law_row_here", "_law_cell", "_law_many_here", "_law_names"] spBent) (C_law_pairs_from : Callee P w K mg base "_law_pairs_from" 3 ["_law_draws_here", "_law_many_here", "_law_cell"] (spPairs K)) (C_law_draws : Callee P w K mg base "_law_draws" 2 ["_law_cell", "_law_many_here", "_law_base"] spDraws) (Cshortest_row : Callee P w K mg base "shortest_row" 3 ["row"] spShort) (C_law_row : Callee P w K mg base "_law_row" 3 ["_law_found"] spRowT) (C_law_paper : Callee P w K mg base "_law_paper" 1 ["_law_row_here", "_law_worn"] spPaper) (C_law_moves : Callee P w K mg base "_law_moves" 2 ["_law_worn"] spMoves) : FnOk P w K mg base CX0 6 f fd ["_law_script"] (spLaw K) := by
  refine F.ok sc_law (fun vs H Q E h => ?_) (fun cdv A outer s H vs Q E hr h => ?_)
  · obtain ⟨a, ns, rfl, _⟩ := h
    rfl
  · obtain ⟨a, ns, rfl, hS, hlen, k⟩ := h
    have hu := hu_of hr
    refine ⟨_, pss_cons (ps_set (i := 1) sc_law.nd rfl (Or.inl rfl) (pcall C_law_drawn_row (hr.mono (by decide)) rfl (pa_cons (pv 0) (pa_cons (pe_int) (pa_cons (pe_int) pa_nil))))) (
      pss_cons (ps_set (i := 2) sc_law.nd rfl (Or.inl rfl) (pcall C_law_many (hr.mono (by decide)) rfl (pa_cons (pv 0) pa_nil))) (
      pss_cons (ps_set (i := 3) sc_law.nd rfl (Or.inl rfl) (pcall C_law_cell_at (hr.mono (by decide)) rfl (pa_cons (pv 0) (pa_cons (pe_int) pa_nil)))) (
      pss_cons (ps_set (i := 4) sc_law.nd rfl (Or.inl rfl) (pcall C_law_size (hr.mono (by decide)) rfl (pa_cons (pcall C_law_cell_at (hr.mono (by decide)) rfl (pa_cons (pv 0) (pa_cons (pe_int) pa_nil))) pa_nil))) (
      pss_cons (ps_set (i := 5) sc_law.nd rfl (Or.inl rfl) (pcall C_law_bent (hr.mono (by decide)) rfl (pa_cons (pv 1) (pa_cons (pv 4) (pa_cons (pv 2) (pa_cons (pv 3) pa_nil)))))) (
      pss_cons (ps_if (pt_cmpR op_eq (pe_op op_mod (pv 4) (pe_int)) (pe_int) (nomark _)) (pss_one (ps_set (i := 5) sc_law.nd rfl (Or.inl rfl) (pcall C_law_pairs_from (hr.mono (by decide)) rfl (pa_cons (pcall C_law_draws (hr.mono (by decide)) rfl (pa_cons (pcall C_law_cell_at (hr.mono (by decide)) rfl (pa_cons (pv 0) (pa_cons (pe_int) pa_nil))) (pa_cons (pe_int) (pa_cons (pe_int) pa_nil)))) (pa_cons (pv 2) (pa_cons (pv 3) pa_nil)))))) (pss_nil)) (
      pss_cons (ps_set (i := 6) sc_law.nd rfl (Or.inl rfl) (pcall Cshortest_row (hr.mono (by decide)) rfl (pa_cons (pe_callTy call_list_of (by rfl) T.list PyProof.Rows.boot_list (pa_cons (pv 1) pa_nil)) pa_nil))) (
      pss_cons (ps_set (i := 7) sc_law.nd rfl (Or.inl rfl) (pcall Cshortest_row (hr.mono (by decide)) rfl (pa_cons (pe_callTy call_list_of (by rfl) T.list PyProof.Rows.boot_list (pa_cons (pv 5) pa_nil)) pa_nil))) (
      pss_cons (ps_if (PW.pt (pw_or (pt_not (pt_val (pcall C_law_row (hr.mono (by decide)) rfl (pa_cons (pv 6) pa_nil)))) (pw_or1 (pt_not (pt_val (pcall C_law_row (hr.mono (by decide)) rfl (pa_cons (pv 7) pa_nil))))))) (pss_one (ps_ret (pe_bl))) (pss_nil)) (
      pss_cons (ps_set (i := 8) sc_law.nd rfl (Or.inl rfl) (pcall C_law_paper (hr.mono (by decide)) rfl (pa_cons (pv 1) (pa_cons (pe_dnewK) pa_nil)))) (
      pss_cons (ps_set (i := 9) sc_law.nd rfl (Or.inl rfl) (pcall C_law_paper (hr.mono (by decide)) rfl (pa_cons (pv 5) (pa_cons (pe_dnewK) pa_nil)))) (
      pss_cons (ps_if (pt_cmpR (op_neD 1 (hun hr (by decide))) (pcall C_law_moves (hr.mono (by decide)) rfl (pa_cons (pv 8) pa_nil)) (pcall C_law_moves (hr.mono (by decide)) rfl (pa_cons (pv 9) pa_nil)) (nomark _)) (pss_one (ps_ret (pe_bl))) (pss_nil)) (
      pss_cons (ps_set (i := 10) sc_law.nd rfl (Or.inl rfl) (pe_lst (pa_cons (pe_op op_sub (pe_callB call_len_seq (by rfl) T.len PySem.boot_len (pa_cons (pv 1) pa_nil)) (pe_callB call_len_seq (by rfl) T.len PySem.boot_len (pa_cons (pv 6) pa_nil))) (pa_cons (pe_op op_sub (pe_callB call_len_seq (by rfl) T.len PySem.boot_len (pa_cons (pv 5) pa_nil)) (pe_callB call_len_seq (by rfl) T.len PySem.boot_len (pa_cons (pv 6) pa_nil))) pa_nil)))) (
      pss_cons (ps_if (PW.pt (pw_or (pt_cmpR op_ne (pe_callB call_len_seq (by rfl) T.len PySem.boot_len (pa_cons (pv 6) pa_nil)) (pe_callB call_len_seq (by rfl) T.len PySem.boot_len (pa_cons (pv 7) pa_nil)) (nomark _)) (pw_or1 (pt_cmpR op_lt (pe_callB (call_minL rfl) (by rfl) T.bmin PyProof.Rows.boot_min (pa_cons (pv 10) pa_nil)) (pe_int) (nomark _))))) (pss_one (ps_ret (pe_bl))) (pss_nil)) (
      pss_one (ps_ret ((pe_and (pe_cmpR op_eq (pe_op op_mod (pe_ix ix_list (pv 10) (pe_int) (fun _ _ => rfl)) (pe_int)) (pe_int) (nomark _)) (pe_one (pe_cmpR op_eq (pe_op op_mod (pe_ix ix_list (pv 10) (pe_int) (fun _ _ => rfl)) (pe_int)) (pe_int) (nomark _)))))))))))))))))))), ?_⟩
    refine ⟨_, rfl, a, ns, 4, 40, rfl, hS, ⟨by decide, by decide⟩, ⟨by decide, by decide⟩, fun l H1 ps hl s1 r1 ham hpl => ?_⟩
    refine ⟨_, rfl, a, ns, rfl, s1.seq hS, ?_⟩
    refine ⟨_, rfl, a, ns, 1, rfl, s1.seq hS, by decide, ?_⟩
    refine ⟨_, rfl, a, ns, 3, rfl, s1.seq hS, by decide, _, rfl, ?_⟩
    refine ⟨_, rfl, _, rfl, _, rfl, _, rfl, l, ps, _, _, _, rfl, r1, ham, by omega, absI_nn _, manyOf_in ns, fun o G qs ho0 sG rO aO lO => ?_⟩
    have rL : RowAt G l ps := r1.mono sG
    have sH : Same H G := s1.trans sG
    have h12 := among_len ham (manyOf_in ns).2
    have m12 := (manyOf_in ns).2
    refine ⟨_, rfl, _, _, rfl, rfl, by show (0 : Int) < 7; decide, rfl, _, rfl, ite2 (fun _ => ?_) (fun _ => ?_)⟩
    all_goals first
      | (refine ⟨_, rfl, a, ns, 2, rfl, sH.seq hS, by decide, _, 24, 132, rfl, ⟨by decide, by decide⟩, ⟨by decide, by decide⟩, fun d0 ds hd0 hds hdl => ⟨_, rfl, _, rfl, d0, ds, _, _, rfl, SqL.of upd_same, fun d hd => (hds d hd).1, manyOf_in ns, by omega, fun o G2 qs ho0 sG2 rO aO lO' => ?_⟩⟩
         have rL : RowAt G2 l ps := (rL.mono (same_new hd0)).mono sG2
         have sH : Same H G2 := (sH.trans (same_new hd0)).trans sG2
         have lO : qs.length ≤ 300 := by omega
         clear sG2)
      | skip
    all_goals
      have h12' := among_len aO (manyOf_in ns).2
      have ne1 := among_ne (by omega) ham
      have ne2 := among_ne (by omega) aO
      have P := prm_worn ps
      have P' := prm_worn qs
      obtain ⟨_, _, _, sh4, _⟩ := P.short
      obtain ⟨_, _, _, th4, _⟩ := P'.short
      have l1 := short_least ne1
      have l2 := short_least ne2
      have ss := fun e => (same_short P P' e).1
      obtain ⟨xs, hx, ex⟩ := rL.refs
      obtain ⟨ys, hy, ey⟩ := rO.refs
      refine ⟨_, rfl, l, _, rfl, .inl (SqL.of hx), fun c1 hc1 => ?_⟩
      have g1 := same_new (o := .lst xs) hc1
      refine ⟨c1, ps, rfl, (ex.mono g1).row upd_same, by omega, by omega, fun o1 H5 ho1 g2 q1 => ?_⟩
      have g3 := g1.trans g2
      refine ⟨_, rfl, o, _, rfl, .inl (SqL.of (g3 _ _ hy)), fun c2 hc2 => ?_⟩
      have g4 := same_new (o := .lst ys) hc2
      refine ⟨c2, qs, rfl, ((ey.mono g3).mono g4).row upd_same, by omega, by omega, fun o2 H6 ho2 g5 q2 => ?_⟩
      have q1 := (q1.mono g4).mono g5
      have g6 := (g3.trans g4).trans g5
      generalize shortW (wornL ps) = z1 at q1 l1 sh4 ss
      generalize shortW (wornL qs) = z2 at q2 l2 th4 ss
      refine ⟨_, rfl, o1, _, rfl, q1, by omega, fun H7 g7 => ⟨_, rfl, iteF ?_⟩⟩
      refine ⟨_, rfl, o2, _, rfl, q2.mono g7, by omega, fun H8 g8 => ⟨_, rfl, iteF ?_⟩⟩
      have g68 := g7.trans g8
      have rL8 := (rL.mono g6).mono g68
      have rO8 := (rO.mono g6).mono g68
      have q18 := q1.mono g68
      have q28 := q2.mono g68
      refine ⟨_, rfl, fun d1 hd1 => ⟨l, d1, ps, [], rfl, rL8.mono (same_new hd1), by omega, upd_same, by decide, ?_⟩⟩
      rw [upd_upd, show paperL [] ps = wornL ps from rfl]
      have e1 := same_new (o := .dK (dk (wornL ps))) hd1
      refine ⟨_, rfl, fun d2 hd2 => ⟨o, d2, qs, [], rfl, (rO8.mono e1).mono (same_new hd2), by omega, upd_same, by decide, ?_⟩⟩
      rw [upd_upd, show paperL [] qs = wornL qs from rfl]
      have e2 := same_new (o := .dK (dk (wornL qs))) hd2
      refine ⟨_, rfl, d1, wornL ps, rfl, e2 _ _ upd_same, by omega, fun m1 H9 hm1 e3 w1 => ?_⟩
      refine ⟨_, rfl, d2, wornL qs, rfl, e3 _ _ upd_same, by omega, fun m2 H10 hm2 e4 w2 => ?_⟩
      refine ⟨m1, m2, _, _, rfl, rfl, rd_row (w1.mono e4), rd_row w2, fun b hb => ⟨_, rfl, ?_⟩⟩
      rw [rowD_iff] at hb
      by_cases em : movesL (wornL ps) = movesL (wornL qs)
      case neg =>
        have eb : b = false := by
          cases b with
          | true => exact absurd (hb.mp rfl) em
          | false => rfl
        rw [eb]
        exact iteT (k _)
      case pos =>
        rw [show (if true = true then !b else b) = false by rw [hb.mpr em]; rfl]
        have sl := ss em
        have ee := ((e1.trans e2).trans e3).trans e4
        obtain ⟨f1, hf1, pf1⟩ := rL8.mono ee
        obtain ⟨f2, hf2, pf2⟩ := rO8.mono ee
        obtain ⟨f3, hf3, pf3⟩ := q18.mono ee
        obtain ⟨f4, hf4, pf4⟩ := q28.mono ee
        have n1 := Paired.length pf1
        have n2 := Paired.length pf2
        have n3 := Paired.length pf3
        have n4 := Paired.length pf4
        refine iteF ⟨_, rfl, l, _, rfl, .inl (SqL.of hf1), _, rfl, o1, _, rfl, .inl (SqL.of hf3), _, _, rfl, rfl, _, rfl, o, _, rfl, .inl (SqL.of hf2), _, rfl, o1, _, rfl, .inl (SqL.of hf3), _, _, rfl, rfl, by show 2 ≤ sizeLine; decide, fun sp hsp => ?_⟩
        have e5 := same_new (o := .lst [V.int (((f1.map V.ref).length : Int) - ((f3.map V.ref).length : Int)), V.int (((f2.map V.ref).length : Int) - ((f3.map V.ref).length : Int))]) hsp
        have hs5 : upd H10 sp (.lst [V.int (((f1.map V.ref).length : Int) - ((f3.map V.ref).length : Int)), V.int (((f2.map V.ref).length : Int) - ((f3.map V.ref).length : Int))]) sp = some (.lst ([((f1.map V.ref).length : Int) - ((f3.map V.ref).length : Int), ((f2.map V.ref).length : Int) - ((f3.map V.ref).length : Int)].map V.int)) := upd_same
        have m1 : (f1.map V.ref).length = ps.length := by rw [List.length_map, n1]
        have m2 : (f2.map V.ref).length = qs.length := by rw [List.length_map, n2]
        have m3 : (f3.map V.ref).length = z1.length := by rw [List.length_map, n3]
        have m4 : (f4.map V.ref).length = z2.length := by rw [List.length_map, n4]
        refine ⟨_, rfl, o1, _, rfl, .inl (SqL.of (e5 _ _ hf3)), _, rfl, o2, _, rfl, .inl (SqL.of (e5 _ _ hf4)), rfl, _, rfl, ?_⟩
        rw [show (!decide (V.int ((f3.map V.ref).length : Int) = V.int ((f4.map V.ref).length : Int))) = false by rw [m3, m4, sl, decide_eq_true rfl]; rfl]
        refine iteF ⟨_, rfl, sp, _, rfl, SqL.of hs5, Nat.succ_pos _, fun M hM1 hM2 => ?_⟩
        have M0 : ¬ M < 0 := by
          rcases List.mem_cons.mp hM1 with z | z
          · omega
          · have := List.mem_singleton.mp z; omega
        refine ⟨_, _, rfl, rfl, _, rfl, ?_⟩
        rw [decide_eq_false M0]
        refine iteF ⟨_, rfl, sp, _, _, _, rfl, rfl, SqL.of hs5, atI_nat (j := 0) rfl, _, _, rfl, rfl, by show (0 : Int) < 2; decide, rfl, _, rfl, ?_⟩
        rw [decide_eq_true (congrArg V.int (show (((f1.map V.ref).length : Int) - ((f3.map V.ref).length : Int)) % 2 = 0 by omega)), if_pos rfl]
        refine ⟨_, rfl, sp, _, _, _, rfl, rfl, SqL.of hs5, atI_nat (j := 1) rfl, _, _, rfl, rfl, by show (0 : Int) < 2; decide, rfl, ?_⟩
        rw [decide_eq_true (congrArg V.int (show (((f2.map V.ref).length : Int) - ((f3.map V.ref).length : Int)) % 2 = 0 by omega))]
        exact k _
end
def FnFact (K : PySem.W.Frag) (x : Str) (st : Stmt) : Prop := ∃ (f : Addr) (fd : FuncData), PySem.W.nsIn K mainGlobals x = some (some (.ref f)) ∧ Fun K x x st f fd
theorem fact_mk {K : PySem.W.Frag} {x : Str} {st : Stmt} {f : Addr} {oc : Value} {od an : Option Addr} {osl : Array (Option Value)} {kV doc pm cdv ct : Value} (a : PySem.W.nsIn K mainGlobals x = some (some (.ref f))) (l : K.lookup f = some ⟨oc, od, .func (PySem.W.fnOf x x (defArgs st) (defBody st) (defScope st) .none kV doc pm an cdv ct), osl⟩)
    (c : PySem.W.codeIn K cdv x = true) (k : PySem.W.keepIn K (.ref f) = true) : FnFact K x st := ⟨f, _, a, fun_mk l c k⟩
def MtFact (K : PySem.W.Frag) (C : Addr) (m q : Str) (st : Stmt) : Prop := ∃ (f : Addr) (fd : FuncData), PySem.W.findIn K (.ref C) m = some (some (.ref f)) ∧ PySem.W.isFn K (.ref f) = true ∧ Fun K m q st f fd
theorem all_mk {l : PySem.W.OpenLaw} {w : World} {K : PySem.W.Frag} {h : Heap} {mg : Str → Option Value} {fa : Addr}  (X : K.In h) (G : h.Ns mainGlobals mg) (hfa : mg "law" = some (.ref fa))  (F_law_size : FnFact K "_law_size" st_law_size) (F_law_guest : FnFact K "_law_guest" st_law_guest) (F_law_pairs_from : FnFact K "_law_pairs_from" st_law_pairs_from) (F_law_draws : FnFact K "_law_draws" st_law_draws) (F_law_draws_from : FnFact K "_law_draws_from" st_law_draws_from) (F_law_cell_at : FnFact K "_law_cell_at" st_law_cell_at) (F_law_many : FnFact K "_law_many" st_law_many) (F_law_drawn_row : FnFact K "_law_drawn_row" st_law_drawn_row) (F_law_four : FnFact K "_law_four" st_law_four) (F_law_quad : FnFact K "_law_quad" st_law_quad) (F_law_bent : FnFact K "_law_bent" st_law_bent) (F_worn_behind : FnFact K "worn_behind" st_worn_behind) (F_ring_from : FnFact K "ring_from" st_ring_from) (F_shortest_row : FnFact K "shortest_row" st_shortest_row) (F_law_whole : FnFact K "_law_whole" st_law_whole) (F_law_pair : FnFact K "_law_pair" st_law_pair) (F_law_row : FnFact K "_law_row" st_law_row) (F_law_paper : FnFact K "_law_paper" st_law_paper) (F_law_wrong : FnFact K "_law_wrong" st_law_wrong) (F_law_moves : FnFact K "_law_moves" st_law_moves) (F_law : FnFact K "law" st_law) (z_len : PySem.W.nsIn K mainGlobals "len" = some none) (z_range : PySem.W.nsIn K mainGlobals "range" = some none) (z_isinstance : PySem.W.nsIn K mainGlobals "isinstance" = some none) (z_tuple : PySem.W.nsIn K mainGlobals "tuple" = some none) (z_list : PySem.W.nsIn K mainGlobals "list" = some none) (z_int : PySem.W.nsIn K mainGlobals "int" = some none) (z_bool : PySem.W.nsIn K mainGlobals "bool" = some none) (z_all : PySem.W.nsIn K mainGlobals "all" = some none) (z_any : PySem.W.nsIn K mainGlobals "any" = some none) (z_sorted : PySem.W.nsIn K mainGlobals "sorted" = some none) (z_reversed : PySem.W.nsIn K mainGlobals "reversed" = some none) (z_set : PySem.W.nsIn K mainGlobals "set" = some none) (z_min : PySem.W.nsIn K mainGlobals "min" = some none) (z_max : PySem.W.nsIn K mainGlobals "max" = some none) (z_dict : PySem.W.nsIn K mainGlobals "dict" = some none) (z_zip : PySem.W.nsIn K mainGlobals "zip" = some none) (z_enumerate : PySem.W.nsIn K mainGlobals "enumerate" = some none) :
    ∃ fd : FuncData, (∀ (s : Shared) (v : Value), BindsTo s fd ⟨[v], []⟩ [("_law_script", v)]) ∧ ∀ base : Heap, K.In base → base.Ns mainGlobals mg → FnOk l.prog w K mg base CX0 6 fa fd ["_law_script"] (spLaw K) := by
  have T : Txt mg := ⟨PySem.W.mg_none_of X G z_len, PySem.W.mg_none_of X G z_range, PySem.W.mg_none_of X G z_isinstance, PySem.W.mg_none_of X G z_tuple, PySem.W.mg_none_of X G z_list, PySem.W.mg_none_of X G z_int, PySem.W.mg_none_of X G z_bool, PySem.W.mg_none_of X G z_all, PySem.W.mg_none_of X G z_any, PySem.W.mg_none_of X G z_sorted, PySem.W.mg_none_of X G z_reversed, PySem.W.mg_none_of X G z_set, PySem.W.mg_none_of X G z_min, PySem.W.mg_none_of X G z_max, PySem.W.mg_none_of X G z_dict, PySem.W.mg_none_of X G z_zip, PySem.W.mg_none_of X G z_enumerate⟩
  obtain ⟨f_law_size, fd_law_size, a_law_size, G_law_size⟩ := F_law_size
  obtain ⟨f_law_guest, fd_law_guest, a_law_guest, G_law_guest⟩ := F_law_guest
  obtain ⟨f_law_pairs_from, fd_law_pairs_from, a_law_pairs_from, G_law_pairs_from⟩ := F_law_pairs_from
  obtain ⟨f_law_draws, fd_law_draws, a_law_draws, G_law_draws⟩ := F_law_draws
  obtain ⟨f_law_draws_from, fd_law_draws_from, a_law_draws_from, G_law_draws_from⟩ := F_law_draws_from
  obtain ⟨f_law_cell_at, fd_law_cell_at, a_law_cell_at, G_law_cell_at⟩ := F_law_cell_at
  obtain ⟨f_law_many, fd_law_many, a_law_many, G_law_many⟩ := F_law_many
  obtain ⟨f_law_drawn_row, fd_law_drawn_row, a_law_drawn_row, G_law_drawn_row⟩ := F_law_drawn_row
  obtain ⟨f_law_four, fd_law_four, a_law_four, G_law_four⟩ := F_law_four
  obtain ⟨f_law_quad, fd_law_quad, a_law_quad, G_law_quad⟩ := F_law_quad
  obtain ⟨f_law_bent, fd_law_bent, a_law_bent, G_law_bent⟩ := F_law_bent
  obtain ⟨f_worn_behind, fd_worn_behind, a_worn_behind, G_worn_behind⟩ := F_worn_behind
  obtain ⟨f_ring_from, fd_ring_from, a_ring_from, G_ring_from⟩ := F_ring_from
  obtain ⟨f_shortest_row, fd_shortest_row, a_shortest_row, G_shortest_row⟩ := F_shortest_row
  obtain ⟨f_law_whole, fd_law_whole, a_law_whole, G_law_whole⟩ := F_law_whole
  obtain ⟨f_law_pair, fd_law_pair, a_law_pair, G_law_pair⟩ := F_law_pair
  obtain ⟨f_law_row, fd_law_row, a_law_row, G_law_row⟩ := F_law_row
  obtain ⟨f_law_paper, fd_law_paper, a_law_paper, G_law_paper⟩ := F_law_paper
  obtain ⟨f_law_wrong, fd_law_wrong, a_law_wrong, G_law_wrong⟩ := F_law_wrong
  obtain ⟨f_law_moves, fd_law_moves, a_law_moves, G_law_moves⟩ := F_law_moves
  obtain ⟨f_law, fd_law, a_law, G_law⟩ := F_law
  have e := hfa.symm.trans (PySem.W.mg_of X G a_law)
  cases e
  refine ⟨fd_law, ?_, fun base _ _ => ?_⟩
  · obtain ⟨_, _, _, _, _, _, _, _, _, rfl, _, _⟩ := G_law.ex
    exact fun s v => .of_eq rfl
  · have C_law_size : Callee l.prog w K mg base "_law_size" 1 ["_law_cell"] spSize := ⟨f_law_size, fd_law_size, ok_law_size G_law_size T  , PySem.W.mg_of X G a_law_size, G_law_size.kp, (G_law_size.binds (ps := ["_law_cell"]) fun _ _ _ _ _ _ us hl => match us, hl with | [_], _ => rfl)⟩
    have C_law_guest : Callee l.prog w K mg base "_law_guest" 2 ["_law_k", "_law_cell"] spGuest := ⟨f_law_guest, fd_law_guest, ok_law_guest G_law_guest T  C_law_size, PySem.W.mg_of X G a_law_guest, G_law_guest.kp, (G_law_guest.binds (ps := ["_law_k", "_law_cell"]) fun _ _ _ _ _ _ us hl => match us, hl with | [_, _], _ => rfl)⟩
    have C_law_pairs_from : Callee l.prog w K mg base "_law_pairs_from" 3 ["_law_draws_here", "_law_many_here", "_law_cell"] (spPairs K) := ⟨f_law_pairs_from, fd_law_pairs_from, ok_law_pairs_from G_law_pairs_from T  C_law_guest, PySem.W.mg_of X G a_law_pairs_from, G_law_pairs_from.kp, (G_law_pairs_from.binds (ps := ["_law_draws_here", "_law_many_here", "_law_cell"]) fun _ _ _ _ _ _ us hl => match us, hl with | [_, _, _], _ => rfl)⟩
    have C_law_draws : Callee l.prog w K mg base "_law_draws" 2 ["_law_cell", "_law_many_here", "_law_base"] spDraws := ⟨f_law_draws, fd_law_draws, ok_law_draws G_law_draws T  C_law_size, PySem.W.mg_of X G a_law_draws, G_law_draws.kp, (G_law_draws.binds (ps := ["_law_cell", "_law_many_here", "_law_base"]) fun _ _ _ _ _ _ us hl => match us, hl with | [_, _, _], _ => rfl)⟩
    have C_law_draws_from : Callee l.prog w K mg base "_law_draws_from" 3 ["_law_script", "_law_start", "_law_most", "_law_base"] (spFrom K) := ⟨f_law_draws_from, fd_law_draws_from, ok_law_draws_from G_law_draws_from T  C_law_draws, PySem.W.mg_of X G a_law_draws_from, G_law_draws_from.kp, (G_law_draws_from.binds (ps := ["_law_script", "_law_start", "_law_most", "_law_base"]) fun _ _ _ _ _ _ us hl => match us, hl with | [_, _, _, _], _ => rfl)⟩
    have C_law_cell_at : Callee l.prog w K mg base "_law_cell_at" 1 ["_law_script", "_law_k"] (spCell K) := ⟨f_law_cell_at, fd_law_cell_at, ok_law_cell_at G_law_cell_at T  , PySem.W.mg_of X G a_law_cell_at, G_law_cell_at.kp, (G_law_cell_at.binds (ps := ["_law_script", "_law_k"]) fun _ _ _ _ _ _ us hl => match us, hl with | [_, _], _ => rfl)⟩
    have C_law_many : Callee l.prog w K mg base "_law_many" 2 ["_law_script"] (spMany K) := ⟨f_law_many, fd_law_many, ok_law_many G_law_many T  C_law_cell_at, PySem.W.mg_of X G a_law_many, G_law_many.kp, (G_law_many.binds (ps := ["_law_script"]) fun _ _ _ _ _ _ us hl => match us, hl with | [_], _ => rfl)⟩
    have C_law_drawn_row : Callee l.prog w K mg base "_law_drawn_row" 4 ["_law_script", "_law_start", "_law_most"] (spDrawn K) := ⟨f_law_drawn_row, fd_law_drawn_row, ok_law_drawn_row G_law_drawn_row T  C_law_pairs_from C_law_draws_from C_law_many C_law_cell_at, PySem.W.mg_of X G a_law_drawn_row, G_law_drawn_row.kp, (G_law_drawn_row.binds (ps := ["_law_script", "_law_start", "_law_most"]) fun _ _ _ _ _ _ us hl => match us, hl with | [_, _, _], _ => rfl)⟩
    have C_law_four : Callee l.prog w K mg base "_law_four" 3 ["_law_first", "_law_many_here", "_law_names"] spFour := ⟨f_law_four, fd_law_four, ok_law_four G_law_four T  C_law_guest, PySem.W.mg_of X G a_law_four, G_law_four.kp, (G_law_four.binds (ps := ["_law_first", "_law_many_here", "_law_names"]) fun _ _ _ _ _ _ us hl => match us, hl with | [_, _, _], _ => rfl)⟩
    have C_law_quad : Callee l.prog w K mg base "_law_quad" 1 ["_law_a", "_law_b", "_law_c", "_law_d"] spQuad := ⟨f_law_quad, fd_law_quad, ok_law_quad G_law_quad T  , PySem.W.mg_of X G a_law_quad, G_law_quad.kp, (G_law_quad.binds (ps := ["_law_a", "_law_b", "_law_c", "_law_d"]) fun _ _ _ _ _ _ us hl => match us, hl with | [_, _, _, _], _ => rfl)⟩
    have C_law_bent : Callee l.prog w K mg base "_law_bent" 4 ["_law_row_here", "_law_cell", "_law_many_here", "_law_names"] spBent := ⟨f_law_bent, fd_law_bent, ok_law_bent G_law_bent T  C_law_pairs_from C_law_four C_law_quad, PySem.W.mg_of X G a_law_bent, G_law_bent.kp, (G_law_bent.binds (ps := ["_law_row_here", "_law_cell", "_law_many_here", "_law_names"]) fun _ _ _ _ _ _ us hl => match us, hl with | [_, _, _, _], _ => rfl)⟩
    have Cworn_behind : Callee l.prog w K mg base "worn_behind" 1 ["row"] spWorn := ⟨f_worn_behind, fd_worn_behind, ok_worn_behind G_worn_behind T  , PySem.W.mg_of X G a_worn_behind, G_worn_behind.kp, (G_worn_behind.binds (ps := ["row"]) fun _ _ _ _ _ _ us hl => match us, hl with | [_], _ => rfl)⟩
    have Cring_from : Callee l.prog w K mg base "ring_from" 2 ["worn", "first"] spRingF := ⟨f_ring_from, fd_ring_from, ok_ring_from G_ring_from T  , PySem.W.mg_of X G a_ring_from, G_ring_from.kp, (G_ring_from.binds (ps := ["worn", "first"]) fun _ _ _ _ _ _ us hl => match us, hl with | [_, _], _ => rfl)⟩
    have Cshortest_row : Callee l.prog w K mg base "shortest_row" 3 ["row"] spShort := ⟨f_shortest_row, fd_shortest_row, ok_shortest_row G_shortest_row T  Cworn_behind Cring_from, PySem.W.mg_of X G a_shortest_row, G_shortest_row.kp, (G_shortest_row.binds (ps := ["row"]) fun _ _ _ _ _ _ us hl => match us, hl with | [_], _ => rfl)⟩
    have C_law_whole : Callee l.prog w K mg base "_law_whole" 1 ["_law_found"] spWhole := ⟨f_law_whole, fd_law_whole, ok_law_whole G_law_whole T  , PySem.W.mg_of X G a_law_whole, G_law_whole.kp, (G_law_whole.binds (ps := ["_law_found"]) fun _ _ _ _ _ _ us hl => match us, hl with | [_], _ => rfl)⟩
    have C_law_pair : Callee l.prog w K mg base "_law_pair" 2 ["_law_found"] spPairT := ⟨f_law_pair, fd_law_pair, ok_law_pair G_law_pair T  C_law_whole, PySem.W.mg_of X G a_law_pair, G_law_pair.kp, (G_law_pair.binds (ps := ["_law_found"]) fun _ _ _ _ _ _ us hl => match us, hl with | [_], _ => rfl)⟩
    have C_law_row : Callee l.prog w K mg base "_law_row" 3 ["_law_found"] spRowT := ⟨f_law_row, fd_law_row, ok_law_row G_law_row T  C_law_pair, PySem.W.mg_of X G a_law_row, G_law_row.kp, (G_law_row.binds (ps := ["_law_found"]) fun _ _ _ _ _ _ us hl => match us, hl with | [_], _ => rfl)⟩
    have C_law_paper : Callee l.prog w K mg base "_law_paper" 1 ["_law_row_here", "_law_worn"] spPaper := ⟨f_law_paper, fd_law_paper, ok_law_paper G_law_paper T  , PySem.W.mg_of X G a_law_paper, G_law_paper.kp, (G_law_paper.binds (ps := ["_law_row_here", "_law_worn"]) fun _ _ _ _ _ _ us hl => match us, hl with | [_, _], _ => rfl)⟩
    have C_law_wrong : Callee l.prog w K mg base "_law_wrong" 1 ["_law_worn"] spWrong := ⟨f_law_wrong, fd_law_wrong, ok_law_wrong G_law_wrong T  , PySem.W.mg_of X G a_law_wrong, G_law_wrong.kp, (G_law_wrong.binds (ps := ["_law_worn"]) fun _ _ _ _ _ _ us hl => match us, hl with | [_], _ => rfl)⟩
    have C_law_moves : Callee l.prog w K mg base "_law_moves" 2 ["_law_worn"] spMoves := ⟨f_law_moves, fd_law_moves, ok_law_moves G_law_moves T  C_law_wrong, PySem.W.mg_of X G a_law_moves, G_law_moves.kp, (G_law_moves.binds (ps := ["_law_worn"]) fun _ _ _ _ _ _ us hl => match us, hl with | [_], _ => rfl)⟩
    exact ok_law G_law T  C_law_drawn_row C_law_many C_law_cell_at C_law_size C_law_bent C_law_pairs_from C_law_draws Cshortest_row C_law_row C_law_paper C_law_moves
theorem walk {l : PySem.W.OpenLaw} {q : Program} {loose : List Str} {XP : (Str → Option Value) → Heap → Prop} {YP : World → Heap → Prop} {d : DefRec} {K : Params → PySem.W.Frag} (hn : l.most = some 63) (hdf : d.params.defaults = [])
    (hY : ∀ (w : World) (h : Heap), YP w h → (K w.params).In h)
    (F : ∀ (w : World) (mg : Str → Option Value) (fa : Addr) (h : Heap), (K w.params).In h → h.Ns mainGlobals mg → mg d.name = some (.ref fa) →
      ∃ fd : FuncData, (∀ (s : Shared) (u : Value), BindsTo s fd ⟨[u], []⟩ [("_law_script", u)]) ∧ ∀ base : Heap, (K w.params).In base → base.Ns mainGlobals mg → FnOk l.prog w (K w.params) mg base CX0 6 fa fd ["_law_script"] (spLaw (K w.params))) :
    PySem.W.WalkO q loose XP YP l.row.toRowW d [] (fun f vs => PySem.call f vs) :=
  L2.walk_of (n := 63) (k := 6) (x := "_law_script") (CX := fun _ => CX0) (sp := fun w => spLaw (K w.params)) hn (by decide) hdf ⟨rfl, by decide, by decide⟩ hY F (fun _ _ a ns hl _ hS => ⟨a, ns, rfl, hS, hl, fun _ => rfl⟩) fun _ _ _ _ _ z => z
end Wk05
def PySem.W.Fast.tw3159686889541621871 : Nat := 0
def PySem.W.Fast.tw17840507855767551669 : Nat := 0
def PySem.W.Fast.tw4760121472850957802 : Nat := 0
def PySem.W.Fast.tw12461916421371685817 : Nat := 0
def PySem.W.Fast.tw7106591217196242860 : Nat := 0
def PySem.W.Fast.tw1965501281640455940 : Nat := 0
def PySem.W.Fast.tw16349706784242656814 : Nat := 0
def PySem.W.Fast.tw4696570937481646311 : Nat := 0
def PySem.W.Fast.tw9367365226373951716 : Nat := 0
def PySem.W.Fast.tw12460732836346713838 : Nat := 0
def PySem.W.Fast.tw6640430578822550527 : Nat := 0
def PySem.W.Fast.tw5231347336091225428 : Nat := 0
open PySem PySem.W PyProof.Rows
set_option maxRecDepth 100000 in
set_option maxHeartbeats 0 in
theorem PySem.Challenge.cw_lastwaltz_k05_whole_no_row_is_shorter_holds : PySem.Challenge.rw_lastwaltz_k05_whole_no_row_is_shorter.Holds := by
  w_on; o_law; k_head; (case hw => w_witness2)
  k_fill
  refine Wk05.walk (l := PySem.Challenge.rw_lastwaltz_k05_whole_no_row_is_shorter) rfl rfl (fun w h Y => PySem.W.kIn_of Y) ?F
  case F =>
    intro w mg fa h KX G hmg
    refine' Wk05.all_mk KX G hmg  ?F_law_size ?F_law_guest ?F_law_pairs_from ?F_law_draws ?F_law_draws_from ?F_law_cell_at ?F_law_many ?F_law_drawn_row ?F_law_four ?F_law_quad ?F_law_bent ?F_worn_behind ?F_ring_from ?F_shortest_row ?F_law_whole ?F_law_pair ?F_law_row ?F_law_paper ?F_law_wrong ?F_law_moves ?F_law ?z_len ?z_range ?z_isinstance ?z_tuple ?z_list ?z_int ?z_bool ?z_all ?z_any ?z_sorted ?z_reversed ?z_set ?z_min ?z_max ?z_dict ?z_zip ?z_enumerate
    (case F_law_size => (refine' Wk05.fact_mk ?a ?l ?c ?k; (case a => k_is); (case l => k_is); (case c => k_is); (case k => k_is)))
    (case F_law_guest => (refine' Wk05.fact_mk ?a ?l ?c ?k; (case a => k_is); (case l => k_is); (case c => k_is); (case k => k_is)))
    (case F_law_pairs_from => (refine' Wk05.fact_mk ?a ?l ?c ?k; (case a => k_is); (case l => k_is); (case c => k_is); (case k => k_is)))
    (case F_law_draws => (refine' Wk05.fact_mk ?a ?l ?c ?k; (case a => k_is); (case l => k_is); (case c => k_is); (case k => k_is)))
    (case F_law_draws_from => (refine' Wk05.fact_mk ?a ?l ?c ?k; (case a => k_is); (case l => k_is); (case c => k_is); (case k => k_is)))
    (case F_law_cell_at => (refine' Wk05.fact_mk ?a ?l ?c ?k; (case a => k_is); (case l => k_is); (case c => k_is); (case k => k_is)))
    (case F_law_many => (refine' Wk05.fact_mk ?a ?l ?c ?k; (case a => k_is); (case l => k_is); (case c => k_is); (case k => k_is)))
    (case F_law_drawn_row => (refine' Wk05.fact_mk ?a ?l ?c ?k; (case a => k_is); (case l => k_is); (case c => k_is); (case k => k_is)))
    (case F_law_four => (refine' Wk05.fact_mk ?a ?l ?c ?k; (case a => k_is); (case l => k_is); (case c => k_is); (case k => k_is)))
    (case F_law_quad => (refine' Wk05.fact_mk ?a ?l ?c ?k; (case a => k_is); (case l => k_is); (case c => k_is); (case k => k_is)))
    (case F_law_bent => (refine' Wk05.fact_mk ?a ?l ?c ?k; (case a => k_is); (case l => k_is); (case c => k_is); (case k => k_is)))
    (case F_worn_behind => (refine' Wk05.fact_mk ?a ?l ?c ?k; (case a => k_is); (case l => k_is); (case c => k_is); (case k => k_is)))
    (case F_ring_from => (refine' Wk05.fact_mk ?a ?l ?c ?k; (case a => k_is); (case l => k_is); (case c => k_is); (case k => k_is)))
    (case F_shortest_row => (refine' Wk05.fact_mk ?a ?l ?c ?k; (case a => k_is); (case l => k_is); (case c => k_is); (case k => k_is)))
    (case F_law_whole => (refine' Wk05.fact_mk ?a ?l ?c ?k; (case a => k_is); (case l => k_is); (case c => k_is); (case k => k_is)))
    (case F_law_pair => (refine' Wk05.fact_mk ?a ?l ?c ?k; (case a => k_is); (case l => k_is); (case c => k_is); (case k => k_is)))
    (case F_law_row => (refine' Wk05.fact_mk ?a ?l ?c ?k; (case a => k_is); (case l => k_is); (case c => k_is); (case k => k_is)))
    (case F_law_paper => (refine' Wk05.fact_mk ?a ?l ?c ?k; (case a => k_is); (case l => k_is); (case c => k_is); (case k => k_is)))
    (case F_law_wrong => (refine' Wk05.fact_mk ?a ?l ?c ?k; (case a => k_is); (case l => k_is); (case c => k_is); (case k => k_is)))
    (case F_law_moves => (refine' Wk05.fact_mk ?a ?l ?c ?k; (case a => k_is); (case l => k_is); (case c => k_is); (case k => k_is)))
    (case F_law => (refine' Wk05.fact_mk ?a ?l ?c ?k; (case a => k_is); (case l => k_is); (case c => k_is); (case k => k_is)))
    (case z_len => k_is)
    (case z_range => k_is)
    (case z_isinstance => k_is)
    (case z_tuple => k_is)
    (case z_list => k_is)
    (case z_int => k_is)
    (case z_bool => k_is)
    (case z_all => k_is)
    (case z_any => k_is)
    (case z_sorted => k_is)
    (case z_reversed => k_is)
    (case z_set => k_is)
    (case z_min => k_is)
    (case z_max => k_is)
    (case z_dict => k_is)
    (case z_zip => k_is)
    (case z_enumerate => k_is)
