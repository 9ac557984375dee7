import PyProof.Rows.All
import Wide.All
import OpenK.AllK
import Wide.FinOn
import Lean
import PyProof.EqAt
import PyProof.EqKinds
import PyProof.TupleCall
import PySem.Challenge.RW_oneroom_k25_meant_and_cost
set_option Elab.async false
set_option linter.all false
set_option maxRecDepth 100000
/-! THE HAND LAYER, for ints, bools, texts, own classes, LISTS and tuples (index, slices, in, append, pop ..), calls, loops. Paste it whole ahead of your own text; what your proof does not reach may be deleted. -/
namespace L2
open PySem PySem.Spec PyProof.Rows

/-- a key: an int or a str -/
abbrev Key := Sum Int Str
def keyIs : Key → Value → Bool
  | .inl k, v => Value.isInt k v
  | .inr x, v => Value.isStrOf x v
def keyH (w : World) : Key → Int
  | .inl k => hashInt k
  | .inr x => hashStr w x
theorem keyIs_shape : ∀ {k : Key} {v : Value}, keyIs k v = true → (∃ i t, k = Sum.inl i ∧ v = Value.int i t) ∨ (∃ x t, k = Sum.inr x ∧ v = Value.str x t)
  | .inl i, v, h => by
    obtain ⟨t, e⟩ := Value.isInt_shape (k := i) (v := v) h
    exact .inl ⟨i, t, rfl, e⟩
  | .inr x, v, h => by
    obtain ⟨t, e⟩ := Value.isStrOf_shape (x := x) (v := v) h
    exact .inr ⟨x, t, rfl, e⟩
theorem keyIs_int (i : Int) (t : Tok) : keyIs (.inl i) (.int i t) = true := by simp [keyIs, Value.isInt]
theorem keyIs_str (x : Str) (t : Tok) : keyIs (.inr x) (.str x t) = true := by simp [keyIs, Value.isStrOf]
theorem key_ll (a b : Int) : decide ((Sum.inl a : Key) = Sum.inl b) = (a == b) := by
  by_cases e : a = b
  · subst e; simp
  · have h : ¬ (Sum.inl a : Key) = Sum.inl b := fun q => e (Sum.inl.inj q)
    rw [decide_eq_false h]
    exact (beq_eq_false_iff_ne.mpr e).symm
theorem key_rr (a b : Str) : decide ((Sum.inr a : Key) = Sum.inr b) = decide (a = b) := by
  by_cases e : a = b
  · subst e; simp
  · have h : ¬ (Sum.inr a : Key) = Sum.inr b := fun q => e (Sum.inr.inj q)
    rw [decide_eq_false h, decide_eq_false e]
theorem key_lr (a : Int) (b : Str) : decide ((Sum.inl a : Key) = Sum.inr b) = false := decide_eq_false (fun q => nomatch q)
theorem key_rl (a : Str) (b : Int) : decide ((Sum.inr a : Key) = Sum.inl b) = false := decide_eq_false (fun q => nomatch q)

def mixKind (prog : Program) (w : World) : PySem.KeyKind prog w Key where
  is := keyIs
  hash := keyH w
  inj := fun v a b ha hb => by
    rcases keyIs_shape ha with ⟨i, t, rfl, rfl⟩ | ⟨x, t, rfl, rfl⟩
    · rcases keyIs_shape hb with ⟨j, u, rfl, e⟩ | ⟨y, u, rfl, e⟩
      · injection e with e1 _; rw [e1]
      · exact nomatch e
    · rcases keyIs_shape hb with ⟨j, u, rfl, e⟩ | ⟨y, u, rfl, e⟩
      · exact nomatch e
      · injection e with e1 _; rw [e1]
  byValue := fun k v h => by
    rcases keyIs_shape h with ⟨i, t, rfl, rfl⟩ | ⟨x, t, rfl, rfl⟩ <;> rfl
  pyHash := fun hv h => by
    rcases keyIs_shape hv with ⟨i, t, rfl, rfl⟩ | ⟨x, t, rfl, rfl⟩
    · exact wpAny_pyHash_int h
    · exact wpAny_pyHash_str h
  eqBool := fun hu hv h => by
    rcases keyIs_shape hu with ⟨i, t, rfl, rfl⟩ | ⟨x, t, rfl, rfl⟩
    · rcases keyIs_shape hv with ⟨j, u, rfl, rfl⟩ | ⟨y, u, rfl, rfl⟩
      · rw [key_ll] at h; exact wpAny_eqBool_int h
      · rw [key_lr] at h; exact SeqAt.EqAt.int_str i t y u _ _ _ _ h
    · rcases keyIs_shape hv with ⟨j, u, rfl, rfl⟩ | ⟨y, u, rfl, rfl⟩
      · rw [key_rl] at h; exact SeqAt.EqAt.str_int x t j u _ _ _ _ h
      · rw [key_rr] at h; exact wpAny_eqBool_str h
  «strs» := fun k x t v h => by
    rcases keyIs_shape h with ⟨i, u, rfl, e⟩ | ⟨y, u, rfl, e⟩
    · exact nomatch e
    · injection e with e1 _
      subst e1
      cases v <;> rfl

theorem mixKind_is (prog : Program) (w : World) (k : Key) (v : Value) : (mixKind prog w).is k v = keyIs k v := rfl
theorem mixKind_int (prog : Program) (w : World) (i : Int) (t : Tok) : (mixKind prog w).is (.inl i) (.int i t) = true := keyIs_int i t
theorem mixKind_str (prog : Program) (w : World) (x : Str) (t : Tok) : (mixKind prog w).is (.inr x) (.str x t) = true := keyIs_str x t
end L2

namespace L2
open PySem PySem.Spec PyProof.Rows

/-- a value, without the heap -/
inductive V where
  | non | bl (b : Bool) | int (i : Int) | str (x : Str) | byt (b : Array UInt8) | flt (b : UInt64) | ref (a : Addr) | ty (n : String)
  deriving DecidableEq

def RelV : V → Value → Prop
  | .non, u => u = Value.none
  | .bl b, u => u = Value.bool b
  | .int i, u => ∃ t, u = Value.int i t
  | .str x, u => ∃ t, u = Value.str x t
  | .byt b, u => ∃ t, u = Value.bytes b t
  | .flt b, u => ∃ t, u = Value.float b t
  | .ref a, u => u = Value.ref a
  | .ty n, u => u = Value.type n

theorem RelV.fn {x y : V} {u : Value} (a : RelV x u) (b : RelV y u) : x = y := by
  cases x <;> simp only [RelV] at a <;> (first | subst a | (obtain ⟨_, rfl⟩ := a)) <;> cases y <;> simp only [RelV] at b <;> first | rfl | (cases b; done) | (cases b; rfl) | (obtain ⟨_, b⟩ := b; cases b; done) | (obtain ⟨_, b⟩ := b; cases b; rfl)
abbrev Vals : List V → List Value → Prop := Paired RelV
theorem Vals.length {xs : List V} {us : List Value} (r : Vals xs us) : xs.length = us.length := Paired.length r
theorem Vals.get : ∀ {xs : List V} {us : List Value} {i : Nat} {x : V}, Vals xs us → xs[i]? = some x → ∃ u, us[i]? = some u ∧ RelV x u
  | _, _, _, _, .nil, e => by simp at e
  | _, _, 0, _, .cons r _, e => by simp at e; subst e; exact ⟨_, rfl, r⟩
  | _, _, i + 1, x, .cons _ t, e => by
    obtain ⟨u, h1, h2⟩ := Vals.get (i := i) (x := x) t (by simpa using e)
    exact ⟨u, by simpa using h1, h2⟩
theorem Vals.set {x : V} {u : Value} (r : RelV x u) : ∀ {xs : List V} {us : List Value} (i : Nat), Vals xs us → Vals (xs.set i x) (us.set i u)
  | _, _, _, .nil => .nil
  | _, _, 0, .cons _ t => .cons r t
  | _, _, i + 1, .cons q t => .cons q (Vals.set r i t)
theorem Vals.append : ∀ {xs ys : List V} {us ws : List Value}, Vals xs us → Vals ys ws → Vals (xs ++ ys) (us ++ ws)
  | _, _, _, _, .nil, s => s
  | _, _, _, _, .cons r t, s => .cons r (Vals.append t s)
theorem Vals.take : ∀ {xs : List V} {us : List Value} (n : Nat), Vals xs us → Vals (xs.take n) (us.take n)
  | _, _, 0, _ => .nil
  | _, _, _ + 1, .nil => .nil
  | _, _, n + 1, .cons r t => .cons r (Vals.take n t)
theorem Vals.drop : ∀ {xs : List V} {us : List Value} (n : Nat), Vals xs us → Vals (xs.drop n) (us.drop n)
  | _, _, 0, r => r
  | _, _, _ + 1, .nil => .nil
  | _, _, n + 1, .cons _ t => Vals.drop n t
theorem Vals.none_of : ∀ {xs : List V} {us : List Value} {i : Nat}, Vals xs us → xs[i]? = none → us[i]? = none := fun {xs us i} r e => by
  have h1 := r.length
  have h2 : xs.length ≤ i := List.getElem?_eq_none_iff.mp e
  exact List.getElem?_eq_none_iff.mpr (by omega)

def RelO : Option V → Option Value → Prop
  | some v, some u => RelV v u
  | none, none => True
  | _, _ => False
def KV {κ : Type} : List (κ × V) → List (κ × Value) → Prop := Paired fun (p : κ × V) (q : κ × Value) => p.1 = q.1 ∧ RelV p.2 q.2

/-- a key of a dict (00_mix): an int or a text -/
def kV : Key → V
  | .inl i => .int i
  | .inr x => .str x

/-- what stands at a tracked address -/
inductive HO where
  /-- a list -/
  | lst (xs : List V)
  /-- a tuple (never changes) -/
  | tup (xs : List V)
  /-- a dict whose keys are ints and texts; one whose keys are tuples of ints and texts (the empty one is both) -/
  | dK (kvs : List (Key × V)) | dT (kvs : List (List Key × V))
  /-- a set of ints: its members, its size -/
  | set (S : Int → Bool) (n : Nat)
  /-- an instance of the class at C, its dict at dx, its attributes -/
  | ins (C dx : Addr) (fs : List (Str × V))
  /-- the dict of the instance at x -/
  | own (x : Addr)
  /-- the dict of an exception -/
  | xd (fs : List (Str × V))
  /-- a bound method, f of x -/
  | met (f x : Addr)
  /-- a range object lo, lo + 1, .. below hi -/
  | rng (lo hi : Int)
  /-- a thing that is known to the object (the script; a dict while a loop walks it): read, never written while it is so -/
  | frz (o : Obj) (u : HO)
  /-- a code object's table -/
  | tbl (qs : List (Pos × Str))
  | cel (v : Option V)
  /-- any other thing, by what is true of its one object (a def of one's own: SetO a S n := HO.ext fun h => ..) -/
  | ext (φ : Heap → Prop)

abbrev Hp := Addr → Option HO
def upd (H : Hp) (a : Addr) (o : HO) : Hp := fun b => if b = a then some o else H b
theorem upd_same {H : Hp} {a : Addr} {o : HO} : upd H a o a = some o := by unfold upd; rw [if_pos rfl]
theorem upd_ne {H : Hp} {a b : Addr} {o : HO} (h : b ≠ a) : upd H a o b = H b := by unfold upd; rw [if_neg h]
theorem upd_upd {H : Hp} {a : Addr} {o u : HO} : upd (upd H a o) a u = upd H a u := by
  funext b; unfold upd; split <;> rfl
/-- two objects of different content stand apart -/
theorem ne_of {H : Hp} {a b : Addr} {o u : HO} (h : H a = some o) (h' : H b = some u) (d : o ≠ u) : a ≠ b := by
  intro e; subst e; rw [h] at h'; exact d (Option.some.inj h')
theorem ne_of_none {H : Hp} {a b : Addr} {o : HO} (h : H a = some o) (h' : H b = none) : a ≠ b := by
  intro e; subst e; rw [h] at h'; cases h'

section
variable (P : Program) (w : World)
def ObjOk (H : Hp) (h : Heap) (a : Addr) : HO → Prop
  | .lst xs => xs.length ≤ sizeLine ∧ ∃ (its : List Value) (n : Nat), Vals xs its ∧ h.get? a = some { cls := .type "list", data := .seq its.toArray n }
  | .tup xs => xs.length ≤ sizeLine ∧ ∃ its : List Value, Vals xs its ∧ IsTup h a its.toArray
  | .dK kvs => kvs.length ≤ sizeLine ∧ (a == sysModules) = false ∧ ∃ vs, KV kvs vs ∧ h.DictOf (mixKind P w) a vs
  | .dT kvs => kvs.length ≤ sizeLine ∧ (a == sysModules) = false ∧ ∃ xs : List (List Key × Addr × Value),
      Paired (fun (p : List Key × V) (q : List Key × Addr × Value) => p.1 = q.1 ∧ H q.2.1 = some (.tup (p.1.map kV)) ∧ RelV p.2 q.2.2) kvs xs ∧
      ∃ o es ep, h.get? a = some o ∧ o.ExactDict ∧ o.data = .dict es ep ∧ es.toList = xs.map (entryOfKey (tupleKind (mixKind P w))) ∧ (xs.map (·.1)).Nodup
  | .set S n => h.SetOf (intKind P w) a S n
  | .ins C dx fs => H dx = some (.own a) ∧ fs.length ≤ 1000 ∧ dx ≠ a ∧ h.get? a = some (PySem.W.instObj C dx) ∧
      ∃ mA, h.Ns1 dx mA ∧ (∀ f, RelO (fs.lookup f) (mA f)) ∧ PySem.Within mA (fs.map (·.1))
  | .own _ => ∃ o, h.get? a = some o
  | .xd fs => ∃ mA, h.Ns1 a mA ∧ ∀ f, RelO (fs.lookup f) (mA f)
  | .rng lo hi => ∃ t u v, h.get? a = some { cls := .type "range", data := .fields #[.int lo t, .int hi u, .int 1 v] }
  | .frz o u => h.get? a = some o ∧ ObjOk H h a u
  | .tbl qs => ∃ ps : Array Value, h.get? a = some { cls := .none, data := .fields ps } ∧ TriplesOk ps.toList ∧ ∀ pos q, (pos, q) ∈ qs →
      codeAmong pos ps.toList = none ∨ ∃ c o u vs t, codeAmong pos ps.toList = some (.ref c) ∧ H c = some (.frz o u) ∧ o.data = .fields vs ∧ vs[1]? = some (.str q t)
  | .cel v => ∃ u, h.IsCell a u ∧ ∀ x, v = some x → ∃ y, u = some y ∧ RelV x y
  | .met f x => h.get? a = some (PySem.W.methodObj (.ref f) (.ref x))
  | .ext φ => φ h ∧ (∃ o, h.get? a = some o) ∧ ∀ h1 h2 : Heap, φ h1 → (∀ o, h1.get? a = some o → h2.get? a = some o) → φ h2
/-- the abstract heap is held -/
def HOk (H : Hp) (h : Heap) : Prop := ∀ a o, H a = some o → ObjOk P w H h a o
end

section
variable {P : Program} {w : World} {H H' : Hp} {h h' : Heap} {a : Addr} {o : HO}
def Rely : HO → Prop
  | .tup _ => True
  | .frz _ _ => True
  | _ => False
def Fix : HO → Prop
  | .tup _ => True
  | .frz _ _ => True
  | .tbl _ => True
  | .cel _ => True
  | _ => False
theorem ObjOk.lt (x : ObjOk P w H h a o) : a < h.objs.size := by
  cases o with
  | lst xs => obtain ⟨_, _, _, _, e⟩ := x; exact Heap.lt_size e
  | tup xs => obtain ⟨_, _, _, p⟩ := x; exact p.lt
  | dK kvs => obtain ⟨_, _, _, _, o, _, _, e, _⟩ := x; exact Heap.lt_size e
  | dT kvs => obtain ⟨_, _, _, _, o, _, _, e, _⟩ := x; exact Heap.lt_size e
  | set S n => obtain ⟨o, _, _, _, e, _⟩ := x; exact Heap.lt_size e
  | ins C dx fs => obtain ⟨_, _, _, e, _⟩ := x; exact Heap.lt_size e
  | own y => obtain ⟨_, e⟩ := x; exact Heap.lt_size e
  | xd fs => obtain ⟨_, ⟨_, _, _, e, _⟩, _⟩ := x; exact Heap.lt_size e
  | rng lo hi => obtain ⟨_, _, _, e⟩ := x; exact Heap.lt_size e
  | frz ob u => obtain ⟨e, _⟩ := x; exact Heap.lt_size e
  | tbl qs => obtain ⟨_, e, _⟩ := x; exact Heap.lt_size e
  | cel v => obtain ⟨_, ⟨_, e, _⟩, _⟩ := x; exact Heap.lt_size e
  | met f y => exact Heap.lt_size (show h.get? a = some _ from x)
  | ext φ => obtain ⟨_, ⟨_, e⟩, _⟩ := x; exact Heap.lt_size e
theorem Paired.mapP {α β : Type} {F G : α → β → Prop} : ∀ {l₁ : List α} {l₂ : List β}, Paired F l₁ l₂ → (∀ a b, F a b → G a b) → Paired G l₁ l₂
  | _, _, .nil, _ => .nil
  | _, _, .cons r t, f => .cons (f _ _ r) (Paired.mapP t f)
theorem Paired.imp' {α β : Type} {F G : α → β → Prop} (f : ∀ a b, F a b → G a b) {l₁ : List α} {l₂ : List β} (r : Paired F l₁ l₂) : Paired G l₁ l₂ := Paired.mapP r f
/-- what an object's description leans on: its own object, its own dict, the tuples -/
theorem ObjOk.stay (x : ObjOk P w H h a o) (k : ∀ b u, (b = a ∨ H b = some (.own a)) → h.get? b = some u → h'.get? b = some u)
    (ho : ∀ b, H b = some (.own a) → H' b = some (.own a)) (ht : ∀ b u, H b = some u → Rely u → H' b = some u) : ObjOk P w H' h' a o := by
  induction o with
  | lst xs => obtain ⟨z, its, n, r, e⟩ := x; exact ⟨z, its, n, r, k _ _ (.inl rfl) e⟩
  | tup xs => obtain ⟨z, its, r, ob, e, c⟩ := x; exact ⟨z, its, r, ob, k _ _ (.inl rfl) e, c⟩
  | dK kvs => obtain ⟨z, y, vs, r, ob, es, ep, e, c⟩ := x; exact ⟨z, y, vs, r, ob, es, ep, k _ _ (.inl rfl) e, c⟩
  | dT kvs =>
    obtain ⟨z, y, xs, r, ob, es, ep, e, c⟩ := x
    exact ⟨z, y, xs, Paired.mapP r fun p q z => ⟨z.1, ht _ _ z.2.1 trivial, z.2.2⟩, ob, es, ep, k _ _ (.inl rfl) e, c⟩
  | set S n => obtain ⟨ob, es, ep, t, e, c⟩ := x; exact ⟨ob, es, ep, t, k _ _ (.inl rfl) e, c⟩
  | ins C dx fs =>
    obtain ⟨d, z, ne, e, mA, ⟨od, es, ep, e2, c⟩, r⟩ := x
    exact ⟨ho _ d, z, ne, k _ _ (.inl rfl) e, mA, ⟨od, es, ep, k _ _ (.inr d) e2, c⟩, r⟩
  | own y => obtain ⟨ob, e⟩ := x; exact ⟨ob, k _ _ (.inl rfl) e⟩
  | xd fs => obtain ⟨mA, ⟨od, es, ep, e, c⟩, r⟩ := x; exact ⟨mA, ⟨od, es, ep, k _ _ (.inl rfl) e, c⟩, r⟩
  | rng lo hi => obtain ⟨t, u, v, e⟩ := x; exact ⟨t, u, v, k _ _ (.inl rfl) e⟩
  | frz ob u ih => obtain ⟨e, q⟩ := x; exact ⟨k _ _ (.inl rfl) e, ih q⟩
  | tbl qs =>
    obtain ⟨ps, e, tr, r⟩ := x
    refine ⟨ps, k _ _ (.inl rfl) e, tr, fun pos q m => ?_⟩
    rcases r pos q m with z | ⟨c, ob, u, vs, t, z1, z2, z3⟩
    · exact .inl z
    · exact .inr ⟨c, ob, u, vs, t, z1, ht _ _ z2 trivial, z3⟩
  | cel v => obtain ⟨u, ⟨ob, e, d⟩, r⟩ := x; exact ⟨u, ⟨ob, k _ _ (.inl rfl) e, d⟩, r⟩
  | met f y =>
    have e : h.get? a = some (PySem.W.methodObj (.ref f) (.ref y)) := x
    show h'.get? a = some (PySem.W.methodObj (.ref f) (.ref y))
    exact k a _ (.inl rfl) e
  | ext φ => obtain ⟨p, ⟨o, e⟩, st⟩ := x; exact ⟨st _ _ p fun o q => k _ _ (.inl rfl) q, ⟨o, k _ _ (.inl rfl) e⟩, st⟩
theorem HOk.lt (x : HOk P w H h) (e : H a = some o) : a < h.objs.size := (x a o e).lt
theorem HOk.fresh (x : HOk P w H h) (e : h.objs.size ≤ a) : H a = none := by
  cases q : H a with
  | none => rfl
  | some u => exact absurd (Nat.lt_of_lt_of_le (x.lt q) e) (Nat.lt_irrefl _)
/-- every object of the heap is kept -/
theorem HOk.kept (x : HOk P w H h) (k : ∀ b u, h.get? b = some u → h'.get? b = some u) : HOk P w H h' := fun a o e =>
  (x a o e).stay (fun b u _ q => k b u q) (fun _ q => q) fun _ _ q _ => q
/-- a new object is laid and tracked -/
theorem HOk.laid (x : HOk P w H h) (k : ∀ b u, h.get? b = some u → h'.get? b = some u) (hp : h.objs.size ≤ a) (new : ObjOk P w (upd H a o) h' a o) : HOk P w (upd H a o) h' := fun b u e => by
  have hn := x.fresh hp
  by_cases hb : b = a
  · subst hb; rw [upd_same] at e; cases e; exact new
  · rw [upd_ne hb] at e
    exact (x b u e).stay (fun c v _ q => k c v q) (fun c q => by rw [upd_ne (ne_of_none q hn)]; exact q) fun c xs q _ => by rw [upd_ne (ne_of_none q hn)]; exact q
end

/-- what may be read as u: it is u, or a known u -/
def Rd (H : Hp) (a : Addr) (u : HO) : Prop := H a = some u ∨ ∃ o, H a = some (.frz o u)
theorem Rd.of {H : Hp} {a : Addr} {u : HO} (h : H a = some u) : Rd H a u := .inl h
theorem Rd.ok {P : Program} {w : World} {H : Hp} {h : Heap} {a : Addr} {u : HO} (r : Rd H a u) (x : HOk P w H h) : ObjOk P w H h a u := by
  rcases r with r | ⟨o, r⟩
  · exact x a u r
  · obtain ⟨_, q⟩ := x a _ r
    exact q
/-- what may be written -/
def Mut : Option HO → Prop
  | some (.lst _) => True
  | some (.dK _) => True
  | some (.dT _) => True
  | some (.set _ _) => True
  | some (.ins _ _ _) => True
  | some (.ext _) => True
  | _ => False
section
variable {P : Program} {w : World} {H : Hp} {h h' : Heap} {x e : Addr} {o' : HO}
/-- the object at e is changed: x itself, or the dict of the instance x -/
theorem HOk.write (ok : HOk P w H h) (mu : Mut (H x)) (he : e = x ∨ H e = some (.own x)) (k : ∀ b u, b ≠ e → h.get? b = some u → h'.get? b = some u) (heo : ∃ u, h'.get? e = some u)
    (new : ObjOk P w (upd H x o') h' x o') : HOk P w (upd H x o') h' := fun b u q => by
  have nown : ∀ c y, H c = some (.own y) → c ≠ x := fun c y r z => by subst z; rw [r] at mu; exact mu
  have ntup : ∀ c u, H c = some u → Rely u → c ≠ x := fun c u r hf z => by
    subst z; rw [r] at mu
    cases u <;> first | exact mu | exact hf
  by_cases hb : b = x
  · subst hb; rw [upd_same] at q; cases q; exact new
  · rw [upd_ne hb] at q
    by_cases hbe : b = e
    · have q' : H b = some (.own x) := by
        rcases he with z | z
        · exact absurd (hbe.trans z) hb
        · rw [hbe]; exact z
      rw [q] at q'; cases q'
      obtain ⟨v, hv⟩ := heo
      exact ⟨v, by rw [hbe]; exact hv⟩
    · refine (ok b u q).stay (fun c v hc r => k c v ?_ r) (fun c r => by rw [upd_ne (nown c b r)]; exact r) fun c xs r hf => by rw [upd_ne (ntup c xs r hf)]; exact r
      rcases hc with rfl | hc
      · exact hbe
      · rintro rfl
        rcases he with z | z
        · exact nown c b hc z
        · rw [hc] at z; cases z; exact hb rfl
end

/-! ### kept unless tracked; of the frames at fs (the callers') the slots may change (an exception that passes writes there); of the records at ex (iterators) nothing is said -/
structure Un (fs ex : List Addr) (H H' : Hp) (h h' : Heap) : Prop where
  keep : ∀ b o, h.get? b = some o → H b = none → b ∉ fs → b ∉ ex → h'.get? b = some o
  slot : ∀ b o, h.get? b = some o → H b = none → b ∈ fs → b ∉ ex → ∃ sl, h'.get? b = some { o with slots := sl }
  free : ∀ b o, h.get? b = some o → H b = none → b ∉ ex → H' b = none
  there : ∀ b o, h.get? b = some o → b ∉ ex → ∃ o', h'.get? b = some o'
  fix : ∀ b u, H b = some u → Fix u → H' b = some u
section
variable {fs fs' ex ex' : List Addr} {H H1 H2 : Hp} {h h1 h2 h' : Heap} {a x e : Addr} {o : HO}
theorem Un.any (u : Un fs ex H H1 h h1) {b : Addr} {ob : Obj} (q : h.get? b = some ob) (n : H b = none) (hx : b ∉ ex) : ∃ sl, h1.get? b = some { ob with slots := sl } := by
  by_cases hb : b ∈ fs
  · exact u.slot b ob q n hb hx
  · exact ⟨ob.slots, u.keep b ob q n hb hx⟩
theorem Un.trans (a : Un fs ex H H1 h h1) (b : Un fs ex H1 H2 h1 h2) : Un fs ex H H2 h h2 where
  keep := fun c ob q n hc hx => b.keep c ob (a.keep c ob q n hc hx) (a.free c ob q n hx) hc hx
  slot := fun c ob q n hc hx => by
    obtain ⟨sl, e1⟩ := a.slot c ob q n hc hx
    obtain ⟨sl', e2⟩ := b.slot c _ e1 (a.free c ob q n hx) hc hx
    exact ⟨sl', e2⟩
  free := fun c ob q n hx => by
    obtain ⟨o', e1⟩ := a.there c ob q hx
    exact b.free c o' e1 (a.free c ob q n hx) hx
  there := fun c ob q hx => by
    obtain ⟨o', e1⟩ := a.there c ob q hx
    exact b.there c o' e1 hx
  fix := fun c u q f => b.fix c u (a.fix c u q f) f
theorem Un.kept (k : ∀ b u, h.get? b = some u → h'.get? b = some u) : Un fs ex H H h h' :=
  ⟨fun b ob q _ _ _ => k b ob q, fun b ob q _ _ _ => ⟨ob.slots, k b ob q⟩, fun _ _ _ n _ => n, fun b ob q _ => ⟨ob, k b ob q⟩, fun _ _ q _ => q⟩
theorem Un.refl : Un fs ex H H h h := Un.kept fun _ _ q => q
theorem Un.laid (k : ∀ b u, h.get? b = some u → h'.get? b = some u) (hp : h.objs.size ≤ a) (hn : H a = none) : Un fs ex H (upd H a o) h h' where
  keep := fun b u q _ _ _ => k b u q
  slot := fun b u q _ _ _ => ⟨u.slots, k b u q⟩
  free := fun b u q n _ => by rw [upd_ne (Nat.ne_of_lt (Nat.lt_of_lt_of_le (Heap.lt_size q) hp))]; exact n
  there := fun b u q _ => ⟨u, k b u q⟩
  fix := fun b u q _ => by rw [upd_ne (ne_of_none q hn)]; exact q
theorem Un.write (mu : Mut (H x)) (he : e = x ∨ H e = some (.own x)) (k : ∀ b u, b ≠ e → h.get? b = some u → h'.get? b = some u) (heo : ∃ u, h'.get? e = some u) : Un fs ex H (upd H x o) h h' := by
  have hx : ∀ b, H b = none → b ≠ x := fun b n z => by subst z; rw [n] at mu; exact mu
  have hb : ∀ b, H b = none → b ≠ e := fun b n z => by
    subst z
    rcases he with r | r
    · exact hx b n r
    · rw [n] at r; cases r
  have hm : ∀ b u, H b = some u → ¬ Mut (some u) → b ≠ x := fun b u q nm z => by subst z; rw [q] at mu; exact nm mu
  refine ⟨fun b u q n _ _ => k b u (hb b n) q, fun b u q n _ _ => ⟨u.slots, k b u (hb b n) q⟩, fun b u q n _ => by rw [upd_ne (hx b n)]; exact n, fun b u q _ => ?_,
    fun b u q hf => by rw [upd_ne (hm b _ q fun z => by cases u <;> first | exact z | exact hf)]; exact q⟩
  by_cases hbe : b = e
  · subst hbe; exact heo
  · exact ⟨u, k b u hbe q⟩
theorem Un.mono (u : Un fs ex H H1 h h1) (hs : ∀ b ∈ fs, b ∈ fs') (hx : ∀ b ∈ ex, b ∈ ex') : Un fs' ex' H H1 h h1 :=
  ⟨fun b ob q n hb he => u.keep b ob q n (fun z => hb (hs b z)) fun z => he (hx b z), fun _ _ q n _ he => u.any q n fun z => he (hx _ z), fun b ob q n he => u.free b ob q n fun z => he (hx b z), fun b ob q he => u.there b ob q fun z => he (hx b z), u.fix⟩
end

/-! ### the heap without what is tracked -/
def trk (h : Heap) (H : Hp) : List Addr := (List.range h.objs.size).filter fun a => (H a).isSome
def hidT (h : Heap) (H : Hp) : Heap := PySem.W.hideAll h (trk h H)
theorem hidT_size (h : Heap) (H : Hp) : (hidT h H).objs.size = h.objs.size := PySem.W.hideAll_size _ _
theorem hidT_get {h : Heap} {H : Hp} {b : Addr} {o : Obj} (e : h.get? b = some o) (n : H b = none) : (hidT h H).get? b = some o :=
  PySem.W.hideAll_get _ e fun hm => by
    have q : (H b).isSome = true := (List.mem_filter.mp hm).2
    rw [n] at q; simp at q
theorem of_hidT {h : Heap} {H : Hp} {b : Addr} {o : Obj} (e : (hidT h H).get? b = some o) : h.get? b = some o ∧ H b = none := by
  have e' : h.get? b = some o := PySem.W.of_hideAll (trk h H) e
  refine ⟨e', ?_⟩
  cases q : H b with
  | none => rfl
  | some x =>
    have hm : b ∈ trk h H := List.mem_filter.mpr ⟨List.mem_range.mpr (Heap.lt_size e'), by simp [q]⟩
    have z : (hidT h H).get? b = none := PySem.W.hideAll_none (trk h H) hm
    rw [z] at e; cases e

/-! ### OpenK's ledger, filled with every new object but one -/
def allNews (g h : Heap) (L : Addr) : List (Addr × Obj) := (List.range h.objs.size).filterMap fun a => if a = L ∨ (g.get? a).isSome = true then none else (h.get? a).map fun o => (a, o)
theorem mem_allNews {g h : Heap} {L a : Addr} {o : Obj} (h1 : a ≠ L) (h2 : g.get? a = none) (h3 : h.get? a = some o) : (a, o) ∈ allNews g h L :=
  List.mem_filterMap.mpr ⟨a, List.mem_range.mpr (Heap.lt_size h3), by simp [h1, h2, h3]⟩
theorem of_mem_allNews {g h : Heap} {L : Addr} {p : Addr × Obj} (hp : p ∈ allNews g h L) : p.1 ≠ L ∧ g.get? p.1 = none ∧ h.get? p.1 = some p.2 := by
  obtain ⟨b, _, e⟩ := List.mem_filterMap.mp hp
  split at e
  · cases e
  · rename_i hn
    cases q : h.get? b with
    | none => rw [q] at e; simp at e
    | some u =>
      rw [q] at e
      simp only [Option.map_some, Option.some.injEq] at e
      subst e
      refine ⟨fun z => hn (.inl z), ?_, q⟩
      show g.get? b = none
      cases r : g.get? b with
      | none => rfl
      | some v => exact (hn (.inr (by simp [r]))).elim
def rest (g h : Heap) (L d : Addr) : List (Addr × Obj) := (allNews g h L).filter fun p => decide (p.1 ≠ d)
theorem rest_ne {g h : Heap} {L d : Addr} : ∀ p ∈ rest g h L d, p.1 ≠ d := fun p hp => of_decide_eq_true (List.mem_filter.mp hp).2
theorem mem_rest {g h : Heap} {L d a : Addr} {o : Obj} (h1 : a ≠ L) (h2 : g.get? a = none) (h3 : h.get? a = some o) (h4 : a ≠ d) : (a, o) ∈ rest g h L d :=
  List.mem_filter.mpr ⟨mem_allNews h1 h2 h3, decide_eq_true h4⟩
theorem news_all {g h : Heap} {L : Addr} : News g L h (allNews g h L) := fun p hp => let ⟨a, b, c⟩ := of_mem_allNews hp; ⟨c, a, b⟩
theorem news_at {g h : Heap} {L d : Addr} {o : Obj} (h1 : d ≠ L) (h2 : g.get? d = none) (h3 : h.get? d = some o) : News g L h ((d, o) :: rest g h L d) := fun p hp => by
  rcases List.mem_cons.mp hp with rfl | hp
  · exact ⟨h3, h1, h2⟩
  · exact news_all p (List.mem_filter.mp hp).1
/-- behind a rule that changed d alone: all else but the frame is kept -/
theorem kept_of_news {g h h' : Heap} {L d : Addr} {m : Str → Option Value} (k : ∀ b o, g.get? b = some o → h.get? b = some o) (F : Fr g L h' m) (N : News g L h' (rest g h L d)) :
    ∀ b o, b ≠ L → b ≠ d → h.get? b = some o → h'.get? b = some o := fun b o h1 h2 e => by
  cases q : g.get? b with
  | some u =>
    have := k b u q
    rw [e] at this; cases this
    exact F.keep b _ q
  | none => exact (N (b, o) (mem_rest h1 q e h2)).1
end L2

namespace L2
open PySem PySem.Spec PyProof.Rows

/-- the module's facts, over the base: the heap at the law's entry without what is tracked there -/
structure Mod (K : PySem.W.Frag) (mg : Str → Option Value) (base : Heap) : Prop where
  kin : K.In base
  glob : base.Ns mainGlobals mg
  blt : ∃ mb, base.Ns builtinsNs mb ∧ ∀ x : Str, x ≠ "__name__" → mb x = bootBuiltins x
  nolimit : base.NoLimit
  bm : ∃ b o, mg "__builtins__" = some (.ref b) ∧ b ≠ builtinsNs ∧ base.get? b = some o ∧ o.cls = .type "module" ∧ o.dict = some builtinsNs ∧ o.data = .plain

/-- the context: a def's body (or a comprehension's block) running. base: fixed through the whole law; s₀, H₀: the entry; outer: the frames whose slots others may change (a def's callers); stack: all frames that run;
   ex: iterators that were made ahead of the entry and are walked here (a comprehension's); fn: the names whose cells were made at the entry (a def: all; a comprehension's block: its own); calm: not within an except suite; pn: pins that every state bears; xe: what is wanted of an exception that leaves the code -/
structure Cx where
  prog : Program
  w : World
  K : PySem.W.Frag
  mg : Str → Option Value
  base : Heap
  A : Around
  N : List Str
  s₀ : Shared
  H₀ : Hp
  env : Env
  outer : List Env
  stack : List Env
  ex : List Addr
  fn : Str → Bool
  calm : Bool
  pn : List (Addr × Obj)
  xe : Value → Shared → Prop
  cp : Str → Bool
/-- the callers' frames -/
def frs (l : List Env) : List Addr := l.filterMap (·.frame)
abbrev Cx.fs (X : Cx) : List Addr := frs X.outer

def Vis (sc : Scope) (x : Str) : Prop := sc.names.lookup x = some .local ∨ sc.names.lookup x = some .cell ∨ sc.names.lookup x = some .free
def Loc (sc : Scope) (x : Str) : Prop := sc.names.lookup x = some .local ∨ sc.names.lookup x = some .cell
def Look (env : Env) (h : Heap) (m : Str → Option Value) (x : Str) (u : Value) : Prop :=
  (env.kindOf x = some .local ∧ m x = some u) ∨ ((env.kindOf x = some .cell ∨ env.kindOf x = some .free) ∧ ∃ c, env.cells.lookup x = some c ∧ h.IsCell c (some u))

structure Cx.Ok (X : Cx) : Prop where
  mod : Mod X.K X.mg X.base
  kind : X.env.scope.kind = .function
  glob : X.env.globals = mainGlobals
  blt : X.env.builtins = builtinsNs
  above : X.s₀.heap.objs.size ≤ X.env.locals
  inj : ∀ x y c, X.env.cells.lookup x = some c → X.env.cells.lookup y = some c → x = y
  has : ∀ x, (X.env.kindOf x = some .cell ∨ X.env.kindOf x = some .free) → ∃ c, X.env.cells.lookup x = some c
  cab : ∀ x c, X.fn x = true → X.env.cells.lookup x = some c → X.s₀.heap.objs.size ≤ c
  hd : X.calm = true → X.A.handled = none
  frames : X.A.frames = some X.stack
  stk : X.stack = X.outer ∨ (X.stack = X.env :: X.outer ∧ X.env.frame = some X.env.locals)
  exf : ∀ b ∈ X.ex, b ≠ X.env.locals ∧ ∀ x c, X.env.cells.lookup x = some c → c ≠ b
  bs : ∀ b o, X.base.get? b = some o → X.s₀.heap.get? b = some o ∧ X.H₀ b = none
  bsz : X.base.objs.size ≤ X.s₀.heap.objs.size
  noex : ∀ b o, X.base.get? b = some o → b ∉ X.ex
  exfs : ∀ b ∈ X.ex, b ∉ X.fs
  funs : X.s₀.heap.FunFrames X.base X.outer
  frf : ∀ b ∈ X.fs, X.H₀ b = none
  cab2 : ∀ x c, X.cp x = true → X.env.cells.lookup x = some c → X.s₀.heap.objs.size ≤ c
  hz : ∀ b, X.s₀.heap.objs.size ≤ b → X.H₀ b = none

structure Inv (X : Cx) (pins : List (Addr × Obj)) (σ : List (Option V)) (H : Hp) (s : Shared) : Prop where
  ok : X.Ok
  os : s.os = X.s₀.os
  bare : AllBare s.gens
  base : Un X.fs X.ex X.H₀ H X.s₀.heap s.heap
  loc : ∃ m, s.heap.Ns X.env.locals m ∧ ∀ (i : Nat) (x : Str) (v : V), X.N[i]? = some x → σ[i]? = some (some v) → Vis X.env.scope x → ∃ u, RelV v u ∧ Look X.env s.heap m x u
  cell : ∀ x c, X.env.cells.lookup x = some c → ∃ v, s.heap.IsCell c v
  free : H X.env.locals = none
  freeC : ∀ x c, X.env.cells.lookup x = some c → H c = none ∨ (X.fn x = false ∧ ∃ o, H c = some (.cel o) ∧ (o = none → ∀ (i : Nat) v, X.N[i]? = some x → (X.env.kindOf x = some .cell ∨ X.env.kindOf x = some .free) → σ[i]? ≠ some (some v)))
  pin : ∀ p ∈ X.pn ++ pins, s.heap.get? p.1 = some p.2 ∧ H p.1 = none ∧ p.1 ≠ X.env.locals ∧ p.1 ∉ X.fs ∧ ∀ v, p.2.data ≠ .cell v
  hok : HOk X.prog X.w H s.heap
  len : σ.length = X.N.length

section
variable {X : Cx} {pins : List (Addr × Obj)} {σ : List (Option V)} {H H' : Hp} {s : Shared} {h' : Heap}

theorem Cx.Ok.nofr (ok : X.Ok) {b : Addr} {o : Obj} (e : X.base.get? b = some o) : b ∉ X.fs := fun hb => by
  have := (ok.funs.mem hb).1
  rw [e] at this; cases this
theorem Inv.bs (I : Inv X pins σ H s) : ∀ b o, X.base.get? b = some o → s.heap.get? b = some o ∧ H b = none := fun b o e =>
  ⟨I.base.keep b o (I.ok.bs b o e).1 (I.ok.bs b o e).2 (I.ok.nofr e) (I.ok.noex b o e), I.base.free b o (I.ok.bs b o e).1 (I.ok.bs b o e).2 (I.ok.noex b o e)⟩
theorem Inv.bk (I : Inv X pins σ H s) : ∀ b o, X.base.get? b = some o → s.heap.get? b = some o := fun b o e => (I.bs b o e).1
theorem Inv.mod (I : Inv X pins σ H s) : Mod X.K X.mg X.base := I.ok.mod
theorem Inv.kIn (I : Inv X pins σ H s) : X.K.In s.heap := I.ok.mod.kin.keeps I.bk
theorem Inv.nolimit (I : Inv X pins σ H s) : s.heap.NoLimit := I.ok.mod.nolimit.keeps I.bk
/-- the frame over the base: for OpenK's rules (K.In X.base is I.mod.kin) -/
theorem Inv.fr (I : Inv X pins σ H s) : ∃ m, Fr X.base X.env.locals s.heap m :=
  let ⟨m, hn, _⟩ := I.loc
  ⟨m, hn, I.bk, Nat.le_trans I.ok.bsz I.ok.above⟩
theorem Inv.lt (I : Inv X pins σ H s) : X.env.locals < s.heap.objs.size := let ⟨_, hn, _⟩ := I.loc; hn.lt
theorem Inv.sz (I : Inv X pins σ H s) : X.s₀.heap.objs.size ≤ s.heap.objs.size := Nat.le_trans I.ok.above (Nat.le_of_lt I.lt)
theorem Inv.nofs (I : Inv X pins σ H s) {a : Addr} (h : s.heap.objs.size ≤ a) : a ∉ X.fs := fun hb => by
  obtain ⟨_, o, ho, _⟩ := I.ok.funs.mem hb
  exact absurd (Nat.lt_of_lt_of_le (Heap.lt_size ho) (Nat.le_trans I.sz h)) (Nat.lt_irrefl _)
theorem Inv.cne (I : Inv X pins σ H s) : ∀ x c, X.env.cells.lookup x = some c → c ≠ X.env.locals := fun x c e z => by
  obtain ⟨v, o, ho, hd⟩ := I.cell x c e
  obtain ⟨m, ⟨o', es, ep, ho', hd', _⟩, _⟩ := I.loc
  rw [z, ho'] at ho; cases ho; rw [hd'] at hd; cases hd
theorem Inv.funs (I : Inv X pins σ H s) : s.heap.FunFrames X.base X.outer := by
  have all : ∀ (l : List Env), (∀ b ∈ frs l, b ∈ X.fs) → X.s₀.heap.FunFrames X.base l → s.heap.FunFrames X.base l := by
    intro l
    induction l with
    | nil => intro _ _; trivial
    | cons env r ih =>
      intro hs hl
      obtain ⟨hk, ⟨L, o, hf, hn, ho, hd⟩, hr⟩ := hl
      have hL : L ∈ X.fs := hs L (by unfold frs; rw [List.filterMap_cons, hf]; exact List.mem_cons_self)
      obtain ⟨sl, e⟩ := I.base.slot L o ho (I.ok.frf L hL) hL fun z => I.ok.exfs L z hL
      exact ⟨hk, ⟨L, _, hf, hn, e, hd⟩, ih (fun b hb => hs b (by unfold frs; rw [List.filterMap_cons, hf]; exact List.mem_cons_of_mem _ hb)) hr⟩
  exact all X.outer (fun _ hb => hb) I.ok.funs

/-- the frames that run, for a call -/
theorem Inv.stack (I : Inv X pins σ H s) : s.heap.FunFrames X.base X.stack := by
  rcases I.ok.stk with e | ⟨e, hf⟩
  · rw [e]; exact I.funs
  · rw [e]
    obtain ⟨m, hn, _⟩ := I.loc
    refine .cons (by rw [I.ok.kind]; decide) hf hn ?_ I.funs
    exact Heap.get?_none_of_le (Nat.le_trans I.ok.bsz I.ok.above)
theorem Inv.stkSub (I : Inv X pins σ H s) : ∀ b ∈ frs X.stack, b ∈ X.env.locals :: X.fs := fun b hb => by
  rcases I.ok.stk with e | ⟨e, hf⟩
  · rw [e] at hb; exact List.mem_cons_of_mem _ hb
  · rw [e] at hb
    unfold frs at hb
    rw [List.filterMap_cons, hf] at hb
    exact hb
theorem Inv.stkFree (I : Inv X pins σ H s) : ∀ b ∈ frs X.stack, H b = none := fun b hb => by
  rcases List.mem_cons.mp (I.stkSub b hb) with e | hb
  · rw [e]; exact I.free
  · obtain ⟨_, o, ho, _⟩ := I.ok.funs.mem hb
    exact I.base.free b o ho (I.ok.frf b hb) fun z => I.ok.exfs b z hb

/-- THE STEP: the untracked objects but the frame and the records at ch are kept (the callers' frames up to slots), the frame's map is kept, the new abstract heap is held -/
theorem Inv.step {g' : Array GenState} {t' : Nat} {d' : Drawn} {ch : List Addr} (I : Inv X pins σ H s)
    (hch : ∀ b ∈ ch, (b ∈ X.ex ∨ X.s₀.heap.objs.size ≤ b) ∧ b ≠ X.env.locals ∧ (∀ x c, X.env.cells.lookup x = some c → c ≠ b) ∧ ∀ p ∈ X.pn ++ pins, p.1 ≠ b)
    (keep : ∀ b o, b ≠ X.env.locals → b ∉ X.fs → b ∉ ch → s.heap.get? b = some o → H b = none → h'.get? b = some o)
    (slot : ∀ b o, b ≠ X.env.locals → b ∈ X.fs → b ∉ ch → s.heap.get? b = some o → H b = none → ∃ sl, h'.get? b = some { o with slots := sl }) (free : ∀ b o, b ∉ ch → s.heap.get? b = some o → H b = none → H' b = none)
    (there : ∀ b o, b ∉ ch → s.heap.get? b = some o → ∃ o', h'.get? b = some o')
    (fix : ∀ b u, H b = some u → Fix u → H' b = some u)
    (ns : ∀ m, s.heap.Ns X.env.locals m → h'.Ns X.env.locals m) (hok : HOk X.prog X.w H' h') (hg : AllBare g') :
    Inv X pins σ H' { s with heap := h', gens := g', drawn := d', toks := t' } := by
  have neL : ∀ b o, X.s₀.heap.get? b = some o → b ≠ X.env.locals := fun b o e => Nat.ne_of_lt (Nat.lt_of_lt_of_le (Heap.lt_size e) I.ok.above)
  have neC : ∀ b o, X.s₀.heap.get? b = some o → b ∉ X.ex → b ∉ ch := fun b o e hx hb => by
    rcases (hch b hb).1 with z | z
    · exact hx z
    · exact absurd (Nat.lt_of_lt_of_le (Heap.lt_size e) z) (Nat.lt_irrefl _)
  have cellK : ∀ x c, X.env.cells.lookup x = some c → H c = none → ∀ v, s.heap.IsCell c v → h'.IsCell c v := fun x c e hn v ⟨o, ho, hd⟩ => by
    have nch : c ∉ ch := fun z => (hch c z).2.2.1 x c e rfl
    by_cases hc : c ∈ X.fs
    · obtain ⟨sl, q⟩ := slot c o (I.cne x c e) hc nch ho hn
      exact ⟨_, q, hd⟩
    · exact ⟨o, keep c o (I.cne x c e) hc nch ho hn, hd⟩
  refine ⟨I.ok, I.os, hg, ⟨fun b o e n hb hx => ?_, fun b o e n hb hx => ?_, fun b o e n hx => ?_, fun b o e hx => ?_, fun b u e f => fix b u (I.base.fix b u e f) f⟩, ?_, fun x c e => ?_, ?_, fun x c e => ?_, fun p hp => ?_, hok, I.len⟩
  · exact keep b o (neL b o e) hb (neC b o e hx) (I.base.keep b o e n hb hx) (I.base.free b o e n hx)
  · obtain ⟨sl, e1⟩ := I.base.slot b o e n hb hx
    obtain ⟨sl', e2⟩ := slot b _ (neL b o e) hb (neC b o e hx) e1 (I.base.free b o e n hx)
    exact ⟨sl', e2⟩
  · obtain ⟨o', e1⟩ := I.base.there b o e hx
    exact free b o' (neC b o e hx) e1 (I.base.free b o e n hx)
  · obtain ⟨o', e1⟩ := I.base.there b o e hx
    exact there b o' (neC b o e hx) e1
  · obtain ⟨m, hn, hl⟩ := I.loc
    refine ⟨m, ns m hn, fun i x v e1 e2 e3 => ?_⟩
    obtain ⟨u, r, l⟩ := hl i x v e1 e2 e3
    rcases l with l | ⟨k, c, e, z⟩
    · exact ⟨u, r, .inl l⟩
    · rcases I.freeC x c e with hn' | ⟨_, o, ho, hno⟩
      · exact ⟨u, r, .inr ⟨k, c, e, cellK x c e hn' _ z⟩⟩
      · cases o with
        | none => exact absurd e2 (hno rfl i v e1 k)
        | some v' =>
          obtain ⟨y, hy, hr⟩ := I.hok c _ ho
          obtain ⟨y', hy', hr'⟩ := hok c _ (fix c _ ho trivial)
          obtain ⟨y2, rfl, r2⟩ := hr v' rfl
          obtain ⟨y3, rfl, r3⟩ := hr' v' rfl
          have : v = v' := RelV.fn r (by
            obtain ⟨o1, q1, q2⟩ := z
            obtain ⟨o2, q3, q4⟩ := hy
            rw [q1] at q3; cases q3
            rw [q2] at q4; cases q4
            exact r2)
          subst this
          exact ⟨y3, r3, .inr ⟨k, c, e, hy'⟩⟩
  · rcases I.freeC x c e with hn' | ⟨_, o, ho, _⟩
    · obtain ⟨v, z⟩ := I.cell x c e
      exact ⟨v, cellK x c e hn' v z⟩
    · obtain ⟨y', hy', _⟩ := hok c _ (fix c _ ho trivial)
      exact ⟨y', hy'⟩
  · obtain ⟨m, ⟨o, _, _, ho, _⟩, _⟩ := I.loc
    exact free _ o (fun z => (hch _ z).2.1 rfl) ho I.free
  · rcases I.freeC x c e with hn' | ⟨hf, o, ho, hno⟩
    · obtain ⟨v, o, ho, hd⟩ := I.cell x c e
      exact .inl (free c o (fun z => (hch c z).2.2.1 x c e rfl) ho hn')
    · exact .inr ⟨hf, o, fix c _ ho trivial, hno⟩
  · obtain ⟨e, n, ne, nf, d⟩ := I.pin p hp
    have nch : p.1 ∉ ch := fun z => (hch p.1 z).2.2.2 p hp rfl
    exact ⟨keep p.1 p.2 ne nf nch e n, free p.1 p.2 nch e n, ne, nf, d⟩
/-- .. where the frame's own object is kept too -/
theorem Inv.un {t' : Nat} (I : Inv X pins σ H s) (u : Un X.fs [] H H' s.heap h') (hok : HOk X.prog X.w H' h') : Inv X pins σ H' { s with heap := h', toks := t' } := by
  obtain ⟨m, ⟨o, es, ep, ho, r⟩, _⟩ := id I.loc
  obtain ⟨sl, hL⟩ := u.any ho I.free (by simp)
  exact I.step (g' := s.gens) (d' := s.drawn) (ch := []) (fun _ z => nomatch z) (fun b o _ hb _ e n => u.keep b o e n hb (by simp)) (fun b o _ hb _ e n => u.slot b o e n hb (by simp)) (fun b o _ e n => u.free b o e n (by simp)) (fun b o _ e => u.there b o e (by simp)) u.fix (fun m' hm => by
    obtain ⟨o', es', ep', ho', r'⟩ := hm
    rw [ho] at ho'; cases ho'
    exact ⟨_, es', ep', hL, r'⟩) hok I.bare
/-- behind a call (or a comprehension's block): the slots of this frame may have changed too, the records at ch may have turned -/
theorem Inv.call {g' : Array GenState} {t' : Nat} {d' : Drawn} {ch : List Addr} (I : Inv X pins σ H s) (u : Un (frs X.stack) ch H H' s.heap h') (hok : HOk X.prog X.w H' h') (hg : AllBare g')
    (hch : ∀ b ∈ ch, (b ∈ X.ex ∨ X.s₀.heap.objs.size ≤ b) ∧ b ≠ X.env.locals ∧ (∀ x c, X.env.cells.lookup x = some c → c ≠ b) ∧ ∀ p ∈ X.pn ++ pins, p.1 ≠ b) :
    Inv X pins σ H' { s with heap := h', gens := g', drawn := d', toks := t' } := by
  obtain ⟨m, ⟨o, es, ep, ho, r⟩, _⟩ := id I.loc
  obtain ⟨sl, hL⟩ := u.any ho I.free fun z => (hch _ z).2.1 rfl
  exact I.step (ch := ch) hch (fun b o hL hb hc e n => u.keep b o e n (fun z => (List.mem_cons.mp (I.stkSub b z)).elim hL hb) hc) (fun b o _ _ hc e n => u.any e n hc) (fun b o hc e n => u.free b o e n hc) (fun b o hc e => u.there b o e hc) u.fix (fun m' hm => by
    obtain ⟨o', es', ep', ho', r'⟩ := hm
    rw [ho] at ho'; cases ho'
    exact ⟨_, es', ep', hL, r'⟩) hok hg
/-- an untracked record of ours (an iterator) has turned -/
theorem Inv.turned {t' : Nat} {it : Addr} (I : Inv X pins σ H s) (k : ∀ b o, b ≠ it → s.heap.get? b = some o → h'.get? b = some o) (hn : H it = none) (hL : it ≠ X.env.locals)
    (h1 : it ∈ X.ex ∨ X.s₀.heap.objs.size ≤ it) (h2 : ∀ x c, X.env.cells.lookup x = some c → c ≠ it) (h3 : ∀ p ∈ X.pn ++ pins, p.1 ≠ it) : Inv X pins σ H { s with heap := h', toks := t' } := by
  have nit : ∀ b u, H b = some u → b ≠ it := fun b u e z => by rw [z, hn] at e; cases e
  refine I.step (g' := s.gens) (d' := s.drawn) (ch := [it]) (fun b hb => ?_) (fun b o _ _ hc e _ => k b o (fun z => hc (by simp [z])) e) (fun b o _ _ hc e _ => ⟨o.slots, k b o (fun z => hc (by simp [z])) e⟩) (fun _ _ _ _ n => n)
    (fun b o hc e => ⟨o, k b o (fun z => hc (by simp [z])) e⟩) (fun _ _ e _ => e) (fun m hm => ?_) (fun b u e => ?_) I.bare
  · have e : b = it := by simpa using hb
    subst e
    exact ⟨h1, hL, h2, h3⟩
  · obtain ⟨o, es, ep, ho, r⟩ := hm
    exact ⟨o, es, ep, k _ o (Ne.symm hL) ho, r⟩
  · refine (I.hok b u e).stay (fun c v hc q => k c v ?_ q) (fun _ q => q) fun _ _ q _ => q
    rcases hc with z | z
    · rw [z]; exact nit b u e
    · exact nit c _ z
theorem Inv.tok (I : Inv X pins σ H s) (t : Nat) : Inv X pins σ H { s with toks := t } := I.un (h' := s.heap) (t' := t) Un.refl I.hok
/-- all objects kept -/
theorem Inv.kept {t' : Nat} (I : Inv X pins σ H s) (k : ∀ b u, s.heap.get? b = some u → h'.get? b = some u) : Inv X pins σ H { s with heap := h', toks := t' } := I.un (Un.kept k) (I.hok.kept k)
/-- a new object laid and tracked -/
theorem Inv.laid {a : Addr} {o : HO} {t' : Nat} (I : Inv X pins σ H s) (k : ∀ b u, s.heap.get? b = some u → h'.get? b = some u) (hp : s.heap.objs.size ≤ a) (new : ObjOk X.prog X.w (upd H a o) h' a o) :
    Inv X pins σ (upd H a o) { s with heap := h', toks := t' } := I.un (Un.laid k hp (I.hok.fresh hp)) (I.hok.laid k hp new)
/-- an object written -/
theorem Inv.write {x e : Addr} {o : HO} {t' : Nat} (I : Inv X pins σ H s) (mu : Mut (H x)) (he : e = x ∨ H e = some (.own x)) (k : ∀ b u, b ≠ e → s.heap.get? b = some u → h'.get? b = some u) (heo : ∃ u, h'.get? e = some u)
    (new : ObjOk X.prog X.w (upd H x o) h' x o) : Inv X pins σ (upd H x o) { s with heap := h', toks := t' } := I.un (Un.write mu he k heo) (I.hok.write mu he k heo new)
/-- forgetting slots, pins -/
theorem Inv.weak {σ' : List (Option V)} (I : Inv X pins σ H s) (hl : σ'.length = σ.length) (w : ∀ (i : Nat) v, σ'[i]? = some (some v) → σ[i]? = some (some v)) : Inv X pins σ' H s :=
  ⟨I.ok, I.os, I.bare, I.base, let ⟨m, hn, hl'⟩ := I.loc; ⟨m, hn, fun i x v e1 e2 e3 => hl' i x v e1 (w i v e2) e3⟩, I.cell, I.free, fun x c e => (I.freeC x c e).imp id fun ⟨hf, o, ho, hno⟩ => ⟨hf, o, ho, fun z i v e1 k e2 => hno z i v e1 k (w i v e2)⟩, I.pin, I.hok, hl.trans I.len⟩
theorem Inv.pins_of {pins' : List (Addr × Obj)} (I : Inv X pins σ H s) (h : ∀ p ∈ pins', s.heap.get? p.1 = some p.2 ∧ H p.1 = none ∧ p.1 ≠ X.env.locals ∧ p.1 ∉ X.fs ∧ ∀ v, p.2.data ≠ .cell v) : Inv X pins' σ H s :=
  ⟨I.ok, I.os, I.bare, I.base, I.loc, I.cell, I.free, I.freeC, fun p hp => (List.mem_append.mp hp).elim (fun z => I.pin p (List.mem_append_left _ z)) (h p), I.hok, I.len⟩

theorem nodup_ix {N : List Str} (hN : N.Nodup) {i j : Nat} {x : Str} (a : N[i]? = some x) (b : N[j]? = some x) : i = j := by
  obtain ⟨h1, e1⟩ := List.getElem?_eq_some_iff.mp a
  obtain ⟨h2, e2⟩ := List.getElem?_eq_some_iff.mp b
  exact (List.getElem_inj hN).mp (e1.trans e2.symm)

/-- a name is stored; what changed -/
theorem store_ok2 {M : Model} {A : Around} {E : Value → Shared → Prop} {i : Nat} {x : Str} {v : V} {u : Value} {Q : Unit → Shared → Prop} (I : Inv X pins σ H s) (hN : X.N.Nodup) (hi : X.N[i]? = some x) (hx : Loc X.env.scope x) (r : RelV v u)
    (h : ∀ s', Inv X pins (σ.set i (some v)) H s' → (∃ a, Heap.SameBut a s.heap s'.heap ∧ (a = X.env.locals ∨ X.env.cells.lookup x = some a)) → Q () s') (hf : X.fn x = true ∨ X.env.scope.names.lookup x = some .local := by first | exact .inl rfl | exact .inr rfl | assumption) : wpAny M A (storeName X.env x u) Q E s := by
  obtain ⟨m, hn, hl⟩ := id I.loc
  have hcls : (X.env.scope.kind == .class || (X.env.scope.kind == .module && X.env.locals != X.env.globals)) = false := by rw [I.ok.kind]; rfl
  have hiσ : i < σ.length := by rw [I.len]; exact (List.getElem?_eq_some_iff.mp hi).1
  have cne := I.cne
  have tracked : ∀ {a : Addr} {h' : Heap}, (∃ o, s.heap.get? a = some o ∧ H a = none) → Heap.SameBut a s.heap h' → HOk X.prog X.w H h' := fun {a h'} ha hs b ob e => by
    obtain ⟨_, _, hfree⟩ := ha
    refine (I.hok b ob e).stay (fun c w' hc q => (hs.2 c ?_).trans q) (fun _ q => q) fun _ _ q _ => q
    rintro rfl
    rcases hc with rfl | hc
    · rw [hfree] at e; cases e
    · rw [hfree] at hc; cases hc
  rcases hx with hk | hk
  · refine wpAny_storeName_local hk hn (fun h' hn' hs => ?_) hcls
    obtain ⟨oL, _, _, hoL, _⟩ := id hn
    refine h _ ⟨I.ok, I.os, I.bare, ⟨fun b o e n hb hx => ?_, fun b o e n hb hx => ?_, I.base.free, fun b o e hx => ?_, I.base.fix⟩, ⟨_, hn', fun j y v' e1 e2 e3 => ?_⟩, fun y c e => ?_, I.free, fun y c e => ?_, fun p hp => ?_, tracked ⟨oL, hoL, I.free⟩ hs, by simpa using I.len⟩ ⟨_, hs, .inl rfl⟩
    · exact (hs.2 b (Nat.ne_of_lt (Nat.lt_of_lt_of_le (Heap.lt_size e) I.ok.above))).trans (I.base.keep b o e n hb hx)
    · obtain ⟨sl, e1⟩ := I.base.slot b o e n hb hx
      exact ⟨sl, (hs.2 b (Nat.ne_of_lt (Nat.lt_of_lt_of_le (Heap.lt_size e) I.ok.above))).trans e1⟩
    · obtain ⟨o', e1⟩ := I.base.there b o e hx
      exact ⟨o', (hs.2 b (Nat.ne_of_lt (Nat.lt_of_lt_of_le (Heap.lt_size e) I.ok.above))).trans e1⟩
    · by_cases hj : j = i
      · subst hj
        rw [hi] at e1; cases e1
        rw [List.getElem?_set_self hiσ] at e2
        cases e2
        exact ⟨u, r, .inl ⟨hk, by simp⟩⟩
      · rw [List.getElem?_set_ne (Ne.symm hj)] at e2
        obtain ⟨u', r', q⟩ := hl j y v' e1 e2 e3
        refine ⟨u', r', ?_⟩
        rcases q with ⟨k, e⟩ | ⟨k, c, e, z⟩
        · refine .inl ⟨k, ?_⟩
          have : y ≠ x := fun e => hj (nodup_ix hN e1 (e ▸ hi))
          simp [this, e]
        · exact .inr ⟨k, c, e, z.sameBut hs (cne y c e)⟩
    · obtain ⟨w', z⟩ := I.cell y c e
      exact ⟨w', z.sameBut hs (cne y c e)⟩
    · refine (I.freeC y c e).imp id fun ⟨hf', o', ho', hno⟩ => ⟨hf', o', ho', fun z j v' e1 k e2 => ?_⟩
      by_cases hj : j = i
      · subst hj
        rw [hi] at e1; cases e1
        have hk' : X.env.kindOf x = some .local := hk
        rw [hk'] at k
        rcases k with k | k <;> cases k
      · rw [List.getElem?_set_ne (Ne.symm hj)] at e2
        exact hno z j v' e1 k e2
    · obtain ⟨e, n, ne, nf, d⟩ := I.pin p hp
      exact ⟨(hs.2 p.1 ne).trans e, n, ne, nf, d⟩
  · have hfn : X.fn x = true := by
      rcases hf with z | z
      · exact z
      · rw [z] at hk; cases hk
    obtain ⟨c, hc⟩ := I.ok.has x (.inl hk)
    have hHc : H c = none := by
      rcases I.freeC x c hc with z | ⟨z, _⟩
      · exact z
      · rw [hfn] at z; cases z
    obtain ⟨w', z⟩ := I.cell x c hc
    refine wpAny_storeName_cell I.ok.kind hk hc z (fun h' hc' hs => ?_)
    obtain ⟨oc, hoc, hocd⟩ := id z
    refine h { s with heap := h' } ⟨I.ok, I.os, I.bare, ⟨fun b o e n hb hx => ?_, fun b o e n hb hx => ?_, I.base.free, fun b o e hx => ?_, I.base.fix⟩, ⟨m, hn.sameBut hs (Ne.symm (cne x c hc)), fun j y v' e1 e2 e3 => ?_⟩, fun y c' e => ?_, I.free, fun y c' e => ?_, fun p hp => ?_, tracked ⟨oc, hoc, hHc⟩ hs, by simpa using I.len⟩ ⟨c, hs, .inr hc⟩
    · exact (hs.2 b (Nat.ne_of_lt (Nat.lt_of_lt_of_le (Heap.lt_size e) (I.ok.cab x c hfn hc)))).trans (I.base.keep b o e n hb hx)
    · obtain ⟨sl, e1⟩ := I.base.slot b o e n hb hx
      exact ⟨sl, (hs.2 b (Nat.ne_of_lt (Nat.lt_of_lt_of_le (Heap.lt_size e) (I.ok.cab x c hfn hc)))).trans e1⟩
    · obtain ⟨o', e1⟩ := I.base.there b o e hx
      exact ⟨o', (hs.2 b (Nat.ne_of_lt (Nat.lt_of_lt_of_le (Heap.lt_size e) (I.ok.cab x c hfn hc)))).trans e1⟩
    · by_cases hj : j = i
      · subst hj
        rw [hi] at e1; cases e1
        rw [List.getElem?_set_self hiσ] at e2
        cases e2
        exact ⟨u, r, .inr ⟨.inl hk, c, hc, hc'⟩⟩
      · rw [List.getElem?_set_ne (Ne.symm hj)] at e2
        obtain ⟨u', r', q⟩ := hl j y v' e1 e2 e3
        refine ⟨u', r', ?_⟩
        rcases q with q | ⟨k, c', e, z'⟩
        · exact .inl q
        · refine .inr ⟨k, c', e, z'.sameBut hs ?_⟩
          rintro rfl
          exact hj (nodup_ix hN e1 (I.ok.inj _ _ _ e hc ▸ hi))
    · by_cases hcc : c' = c
      · subst hcc; exact ⟨_, hc'⟩
      · obtain ⟨w2, z2⟩ := I.cell y c' e
        exact ⟨w2, z2.sameBut hs hcc⟩
    · refine (I.freeC y c' e).imp id fun ⟨hf', o', ho', hno⟩ => ⟨hf', o', ho', fun z j v' e1 k e2 => ?_⟩
      by_cases hj : j = i
      · subst hj
        rw [hi] at e1; cases e1
        rw [hfn] at hf'; cases hf'
      · rw [List.getElem?_set_ne (Ne.symm hj)] at e2
        exact hno z j v' e1 k e2
    · obtain ⟨e, n, ne, nf, d⟩ := I.pin p hp
      refine ⟨(hs.2 p.1 ?_).trans e, n, ne, nf, d⟩
      intro q
      rw [q, hoc] at e
      have q' : oc = p.2 := Option.some.inj e
      exact d w' (by rw [← q']; exact hocd)
theorem store_ok {M : Model} {A : Around} {E : Value → Shared → Prop} {i : Nat} {x : Str} {v : V} {u : Value} {Q : Unit → Shared → Prop} (I : Inv X pins σ H s) (hN : X.N.Nodup) (hi : X.N[i]? = some x) (hx : Loc X.env.scope x) (r : RelV v u)
    (h : ∀ s', Inv X pins (σ.set i (some v)) H s' → Q () s') (hf : X.fn x = true ∨ X.env.scope.names.lookup x = some .local := by first | exact .inl rfl | exact .inr rfl | assumption) : wpAny M A (storeName X.env x u) Q E s :=
  store_ok2 I hN hi hx r (fun s' I' _ => h s' I') hf
/-- behind a call or a block, the state as it is -/
theorem Inv.call' {s' : Shared} {ch : List Addr} (I : Inv X pins σ H s) (ho : s'.os = s.os) (u : Un (frs X.stack) ch H H' s.heap s'.heap) (hok : HOk X.prog X.w H' s'.heap) (hg : AllBare s'.gens)
    (hch : ∀ b ∈ ch, (b ∈ X.ex ∨ X.s₀.heap.objs.size ≤ b) ∧ b ≠ X.env.locals ∧ (∀ x c, X.env.cells.lookup x = some c → c ≠ b) ∧ ∀ p ∈ X.pn ++ pins, p.1 ≠ b) : Inv X pins σ H' s' := by
  obtain ⟨h', g', d', t', o'⟩ := s'
  have e : o' = s.os := ho
  subst e
  exact I.call (g' := g') (t' := t') (d' := d') u hok hg hch
end

/-! ### the judgements -/
/-- an exception: its class, its own dict's address (where it has one), the abstract heap behind it -/
abbrev XK := Value → Option Addr → Hp → Prop
abbrev St := List (Option V)
abbrev VK := V → Hp → Prop
/-- an expression's reading; a test's; an argument list's -/
abbrev TE := St → Hp → VK → Prop
abbrev TT := St → Hp → (Bool → Hp → Prop) → Prop
abbrev TA := St → Hp → (List V → Hp → Prop) → Prop
/-- what is wanted behind a statement -/
structure Ends where
  nx : St → Hp → Prop
  rt : VK
  bk : St → Hp → Prop := fun _ _ => False
  ct : St → Hp → Prop := fun _ _ => False
abbrev TS := Ends → St → Hp → Prop

def EP (X : Cx) (pins : List (Addr × Obj)) (σ : St) (Q : VK) (u : Value) (s' : Shared) : Prop := ∃ v H', Inv X pins σ H' s' ∧ RelV v u ∧ Q v H'
def TP (X : Cx) (pins : List (Addr × Obj)) (σ : St) (Q : Bool → Hp → Prop) (b : Bool) (s' : Shared) : Prop := ∃ H', Inv X pins σ H' s' ∧ Q b H'
def AP (X : Cx) (pins : List (Addr × Obj)) (σ : St) (Q : List V → Hp → Prop) (us : List Value) (s' : Shared) : Prop := ∃ vs H', Inv X pins σ H' s' ∧ Vals vs us ∧ Q vs H'
def SP (X : Cx) (pins : List (Addr × Obj)) (D : Ends) (f : Flow) (s' : Shared) : Prop :=
  match f with
  | .next => ∃ σ' H', Inv X pins σ' H' s' ∧ D.nx σ' H'
  | .brk => ∃ σ' H', Inv X pins σ' H' s' ∧ D.bk σ' H'
  | .cont => ∃ σ' H', Inv X pins σ' H' s' ∧ D.ct σ' H'
  | .ret u => ∃ v σ' H', Inv X pins σ' H' s' ∧ RelV v u ∧ D.rt v H'

def PE (X : Cx) (e : Expr) (t : TE) : Prop :=
  ∀ (pins : List (Addr × Obj)) (s : Shared) (σ : St) (H : Hp) (Q : VK), Inv X pins σ H s → t σ H Q → wpAny (model X.prog X.w) X.A (eval e X.env) (EP X pins σ Q) X.xe s
def PT (X : Cx) (e : Expr) (t : TT) : Prop :=
  ∀ (pins : List (Addr × Obj)) (s : Shared) (σ : St) (H : Hp) (Q : Bool → Hp → Prop), Inv X pins σ H s → t σ H Q → wpAny (model X.prog X.w) X.A (isTrue e X.env (eval e X.env)) (TP X pins σ Q) X.xe s
/-- a test whatever its 'whole' is (and, or) -/
def PW (X : Cx) (e : Expr) (t : TT) : Prop :=
  ∀ (whole : Sem Value) (pins : List (Addr × Obj)) (s : Shared) (σ : St) (H : Hp) (Q : Bool → Hp → Prop), Inv X pins σ H s → t σ H Q → wpAny (model X.prog X.w) X.A (isTrue e X.env whole) (TP X pins σ Q) X.xe s
theorem PW.pt {X : Cx} {e : Expr} {t : TT} (h : PW X e t) : PT X e t := h _
/-- an argument list (no star), from the left -/
def PA (X : Cx) (es : List Expr) (t : TA) : Prop :=
  ∀ (pos : Pos) (pins : List (Addr × Obj)) (s : Shared) (σ : St) (H : Hp) (Q : List V → Hp → Prop), Inv X pins σ H s → t σ H Q → wpAny (model X.prog X.w) X.A (spliced (backTo pos (starEach es X.env))) (AP X pins σ Q) X.xe s
def PS (X : Cx) (st : Stmt) (t : TS) : Prop :=
  ∀ (pins : List (Addr × Obj)) (s : Shared) (σ : St) (H : Hp) (D : Ends), Inv X pins σ H s → t D σ H → wpAny (model X.prog X.w) X.A (exec st X.env) (SP X pins D) X.xe s
def PSs (X : Cx) (st : List Stmt) (t : TS) : Prop :=
  ∀ (pins : List (Addr × Obj)) (s : Shared) (σ : St) (H : Hp) (D : Ends), Inv X pins σ H s → t D σ H → wpAny (model X.prog X.w) X.A (execs st X.env) (SP X pins D) X.xe s
/-- weaken the end -/
theorem thn {α : Type} {t : Sem α} {Q Q' : α → Shared → Prop} {M : Model} {A : Around} {E : Value → Shared → Prop} {s : Shared} (h : wpAny M A t Q E s) (hQ : ∀ a s, Q a s → Q' a s) : wpAny M A t Q' E s := wpAny_mono h hQ fun _ _ x => x
end L2

namespace L2
open PySem PySem.Spec PyProof.Rows
section
variable {X : Cx}

/-- two expressions in a row -/
theorem bin {a b : Expr} {ta tb : TE} (ha : PE X a ta) (hb : PE X b tb) {pins : List (Addr × Obj)} {s : Shared} {σ : St} {H : Hp} {R : V → V → Hp → Prop} (I : Inv X pins σ H s) (h : ta σ H fun x H1 => tb σ H1 fun y H2 => R x y H2)
    {α : Type} {Q : α → Shared → Prop} {f : Value → Value → Sem α}
    (hf : ∀ v u s2 x y H2, Inv X pins σ H2 s2 → RelV x v → RelV y u → R x y H2 → wpAny (model X.prog X.w) X.A (f v u) Q X.xe s2) :
    wpAny (model X.prog X.w) X.A (eval a X.env) (fun v s₁ => wpAny (model X.prog X.w) X.A (eval b X.env) (fun u s₂ => wpAny (model X.prog X.w) X.A (f v u) Q X.xe s₂) X.xe s₁) X.xe s := by
  refine thn (ha pins s σ H _ I h) fun v s1 ⟨x, H1, I1, r1, q1⟩ => ?_
  refine thn (hb pins s1 σ H1 _ I1 q1) fun u s2 ⟨y, H2, I2, r2, q2⟩ => ?_
  exact hf v u s2 x y H2 I2 r1 r2 q2

/-! ### names and constants -/
def tVar (i : Nat) : TE := fun σ H Q => ∃ v, σ[i]? = some (some v) ∧ Q v H
def tC (v : V) : TE := fun _ H Q => Q v H
theorem pe_var {i : Nat} {x : Str} {pos : Pos} (hN : X.N[i]? = some x) (hv : Vis X.env.scope x) (hd : (x == ("__debug__" : Str)) = false := by decide) (hcd : (x == ("__classdict__" : Str)) = false := by decide) : PE X (.Name x pos) (tVar i) := by
  intro pins s σ H Q I h
  obtain ⟨v, e, h⟩ := h
  obtain ⟨m, hn, hl⟩ := I.loc
  obtain ⟨u, r, l⟩ := hl i x v hN e hv
  have fin : EP X pins σ Q u s := ⟨v, H, I, r, h⟩
  rcases l with ⟨hk, hm⟩ | ⟨hk, c, hc, hcell⟩
  · exact wpAny_Name (wpAny_loadName_local I.ok.kind hk hn hm fin) hd
  · rcases hk with hk | hk
    · exact wpAny_Name (wpAny_loadName_cell I.ok.kind hk hc hcell fin) hd
    · exact wpAny_Name (wpAny_loadName_free I.ok.kind hk hc hcell fin hcd) hd
theorem pe_int {i j pos} : PE X (.Constant (.int i) j pos) (tC (.int i)) := fun _ _ _ H _ I h => wpAny_Constant_int ⟨.int i, H, I.tok _, ⟨_, rfl⟩, h⟩
theorem pe_bl {b j pos} : PE X (.Constant (.bool b) j pos) (tC (.bl b)) := fun _ _ _ H _ I h => Constant_bool ⟨.bl b, H, I, rfl, h⟩
theorem pe_non {j pos} : PE X (.Constant .none j pos) (tC .non) := fun _ _ _ H _ I h => Constant_none ⟨.non, H, I, rfl, h⟩
theorem pe_str {x j pos} : PE X (.Constant (.str x) j pos) (tC (.str x)) := fun _ _ _ H _ I h => Calls.Constant_str ⟨.str x, H, I.tok _, ⟨_, rfl⟩, h⟩

/-- a global name of the def -/
def Gl (X : Cx) (x : Str) : Prop := X.env.kindOf x = some .globalImplicit
theorem ld_glob {E : Value → Shared → Prop} {pins : List (Addr × Obj)} {s : Shared} {σ : St} {H : Hp} {x : Str} {u : Value} {pos : Pos} {Q : Value → Shared → Prop} (I : Inv X pins σ H s) (hg : Gl X x) (hm : X.mg x = some u) (h : Q u s)
    (hd : (x == ("__debug__" : Str)) = false := by decide) : wpAny (model X.prog X.w) X.A (eval (.Name x pos) X.env) Q E s :=
  Calls.Name_function_global I.ok.kind hg (Calls.loadGlobal_global (by rw [I.ok.glob]; exact I.mod.glob.keeps I.bk) hm h) hd
theorem ld_blt {E : Value → Shared → Prop} {pins : List (Addr × Obj)} {s : Shared} {σ : St} {H : Hp} {x : Str} {u : Value} {pos : Pos} {Q : Value → Shared → Prop} (I : Inv X pins σ H s) (hg : Gl X x) (hm : X.mg x = none) (hv : bootBuiltins x = some u) (h : Q u s)
    (hn : x ≠ "__name__" := by decide) (hd : (x == ("__debug__" : Str)) = false := by decide) : wpAny (model X.prog X.w) X.A (eval (.Name x pos) X.env) Q E s := by
  obtain ⟨mb, h1, h2⟩ := I.mod.blt
  exact Calls.Name_function_global I.ok.kind hg (Calls.loadGlobal_builtin (by rw [I.ok.glob]; exact I.mod.glob.keeps I.bk) hm (by rw [I.ok.blt]; exact h1.keeps I.bk) ((h2 x hn).trans hv) h) hd
/-- a module's constant, a class, a function, as a value -/
theorem pe_glob {x : Str} {v : V} {u : Value} {pos : Pos} (hg : Gl X x) (hm : X.mg x = some u) (r : RelV v u) (hd : (x == ("__debug__" : Str)) = false := by decide) : PE X (.Name x pos) (tC v) :=
  fun _ _ _ H _ I h => ld_glob I hg hm ⟨v, H, I, r, h⟩ hd
theorem pe_bltn {x : Str} {v : V} {u : Value} {pos : Pos} (hg : Gl X x) (hm : X.mg x = none) (hv : bootBuiltins x = some u) (r : RelV v u) (hn : x ≠ "__name__" := by decide) (hd : (x == ("__debug__" : Str)) = false := by decide) : PE X (.Name x pos) (tC v) :=
  fun _ _ _ H _ I h => ld_blt I hg hm hv ⟨v, H, I, r, h⟩ hn hd

/-! ### arithmetic -/
/-- two ints -/
def t2I (ta tb : TE) (k : Int → Int → Hp → Prop) : St → Hp → Prop := fun σ H => ta σ H fun x H1 => tb σ H1 fun y H2 => ∃ i j, x = .int i ∧ y = .int j ∧ k i j H2
def tAdd (ta tb : TE) : TE := fun σ H Q => t2I ta tb (fun i j H2 => Q (.int (i + j)) H2) σ H
def tSub (ta tb : TE) : TE := fun σ H Q => t2I ta tb (fun i j H2 => Q (.int (i - j)) H2) σ H
/-- the left factor below 2^64 -/
def tMul (ta tb : TE) : TE := fun σ H Q => t2I ta tb (fun i j H2 => (-(2 ^ 64) < i ∧ i < 2 ^ 64) ∧ Q (.int (i * j)) H2) σ H
variable {a b : Expr} {ta tb : TE} {pos : Pos}
theorem pe_add (ha : PE X a ta) (hb : PE X b tb) : PE X (.BinOp a .Add b pos) (tAdd ta tb) := by
  intro pins s σ H Q I h
  refine wpAny_BinOp (bin ha hb I h fun v u s2 x y H2 I2 rx ry q => ?_)
  obtain ⟨i, j, rfl, rfl, q⟩ := q
  obtain ⟨t, rfl⟩ := rx
  obtain ⟨t', rfl⟩ := ry
  exact add_int ⟨.int _, H2, I2.tok _, ⟨_, rfl⟩, q⟩
theorem pe_sub (ha : PE X a ta) (hb : PE X b tb) : PE X (.BinOp a .Sub b pos) (tSub ta tb) := by
  intro pins s σ H Q I h
  refine wpAny_BinOp (bin ha hb I h fun v u s2 x y H2 I2 rx ry q => ?_)
  obtain ⟨i, j, rfl, rfl, q⟩ := q
  obtain ⟨t, rfl⟩ := rx
  obtain ⟨t', rfl⟩ := ry
  exact sub_int ⟨.int _, H2, I2.tok _, ⟨_, rfl⟩, q⟩
theorem pe_mul (ha : PE X a ta) (hb : PE X b tb) : PE X (.BinOp a .Mult b pos) (tMul ta tb) := by
  intro pins s σ H Q I h
  refine wpAny_BinOp (bin ha hb I h fun v u s2 x y H2 I2 rx ry q => ?_)
  obtain ⟨i, j, rfl, rfl, ⟨q1, q2⟩, q⟩ := q
  obtain ⟨t, rfl⟩ := rx
  obtain ⟨t', rfl⟩ := ry
  exact mul_int ⟨.int _, H2, I2.tok _, ⟨_, rfl⟩, q⟩ (.of_left (intBits_le_64 q1 q2))

/-! ### comparisons -/
def PC (X : Cx) (op : CmpOp) (a b : Expr) (t : TE) : Prop :=
  ∀ (pins : List (Addr × Obj)) (s : Shared) (σ : St) (H : Hp) (Q : VK), Inv X pins σ H s → t σ H Q →
    wpAny (model X.prog X.w) X.A (eval a X.env) (fun v s₁ => wpAny (model X.prog X.w) X.A (eval b X.env) (fun u s₂ => wpAny (model X.prog X.w) X.A (compareOp op v u) (EP X pins σ Q) X.xe s₂) X.xe s₁) X.xe s
theorem nobehind (b : Expr) {op : CmpOp} (h : op ≠ .In) (h2 : op ≠ .NotIn) : behindInMarks op b = false := by
  have e1 : (op == CmpOp.In) = false := by cases op <;> first | rfl | exact absurd rfl h
  have e2 : (op == CmpOp.NotIn) = false := by cases op <;> first | rfl | exact absurd rfl h2
  cases b <;> simp [behindInMarks, e1, e2]
def tCmp (p : Int → Int → Bool) (ta tb : TE) : TE := fun σ H Q => t2I ta tb (fun i j H2 => Q (.bl (p i j)) H2) σ H
abbrev tLt : TE → TE → TE := tCmp fun i j => decide (i < j)
abbrev tLe : TE → TE → TE := tCmp fun i j => decide (i ≤ j)
abbrev tGt : TE → TE → TE := tCmp fun i j => decide (j < i)
abbrev tGe : TE → TE → TE := tCmp fun i j => decide (j ≤ i)
abbrev tEqI : TE → TE → TE := tCmp fun i j => decide (i = j)
abbrev tNeI : TE → TE → TE := tCmp fun i j => !decide (i = j)
/-- a comparison of two ints, by its rule -/
theorem pc_int {op : CmpOp} {p : Int → Int → Bool} (ha : PE X a ta) (hb : PE X b tb)
    (rule : ∀ (i j : Int) (t u : Tok) (Q : Value → Shared → Prop) (s : Shared), Q (.bool (p i j)) s → wpAny (model X.prog X.w) X.A (compareOp op (.int i t) (.int j u)) Q X.xe s) : PC X op a b (tCmp p ta tb) := by
  intro pins s σ H Q I h
  refine bin ha hb I h fun v u s2 x y H2 I2 rx ry q => ?_
  obtain ⟨i, j, rfl, rfl, q⟩ := q
  obtain ⟨t, rfl⟩ := rx
  obtain ⟨t', rfl⟩ := ry
  exact rule i j t t' _ s2 ⟨.bl _, H2, I2, rfl, q⟩
theorem pc_lt (ha : PE X a ta) (hb : PE X b tb) : PC X .Lt a b (tLt ta tb) := pc_int ha hb fun _ _ _ _ _ _ h => lt_int h
theorem pc_le (ha : PE X a ta) (hb : PE X b tb) : PC X .LtE a b (tLe ta tb) := pc_int ha hb fun _ _ _ _ _ _ h => le_int h
theorem pc_gt (ha : PE X a ta) (hb : PE X b tb) : PC X .Gt a b (tGt ta tb) := pc_int ha hb fun _ _ _ _ _ _ h => gt_int h
theorem pc_ge (ha : PE X a ta) (hb : PE X b tb) : PC X .GtE a b (tGe ta tb) := pc_int ha hb fun _ _ _ _ _ _ h => ge_int h
theorem pc_eqI (ha : PE X a ta) (hb : PE X b tb) : PC X .Eq a b (tEqI ta tb) := pc_int ha hb fun _ _ _ _ _ _ h => eq_int (by rw [Bool.beq_eq_decide_eq]; exact h)
theorem pc_neI (ha : PE X a ta) (hb : PE X b tb) : PC X .NotEq a b (tNeI ta tb) := pc_int ha hb fun _ _ _ _ _ _ h => ne_int (by rw [bne, Bool.beq_eq_decide_eq]; exact h)
/-- is None -/
def tIsN (ta : TE) : TE := fun σ H Q => ta σ H fun x H1 => Q (.bl (decide (x = .non))) H1
def tNotN (ta : TE) : TE := fun σ H Q => ta σ H fun x H1 => Q (.bl (!decide (x = .non))) H1
theorem RelV.none_iff {x : V} {v : Value} (r : RelV x v) : (v == Value.none) = decide (x = .non) := by
  cases x with
  | non => cases r; rfl
  | bl _ => cases r; rfl
  | int _ => obtain ⟨t, rfl⟩ := r; rfl
  | str _ => obtain ⟨t, rfl⟩ := r; rfl
  | byt _ => obtain ⟨t, rfl⟩ := r; rfl
  | flt _ => obtain ⟨t, rfl⟩ := r; rfl
  | ref _ => cases r; rfl
  | ty _ => cases r; rfl
theorem pc_isN {j pos'} (ha : PE X a ta) : PC X .Is a (.Constant .none j pos') (tIsN ta) := by
  intro pins s σ H Q I h
  refine thn (ha pins s σ H _ I h) fun v s1 ⟨x, H1, I1, r1, q1⟩ => ?_
  exact Constant_none (is_none_gen ⟨.bl _, H1, I1, by rw [r1.none_iff]; rfl, q1⟩)
theorem pc_notN {j pos'} (ha : PE X a ta) : PC X .IsNot a (.Constant .none j pos') (tNotN ta) := by
  intro pins s σ H Q I h
  refine thn (ha pins s σ H _ I h) fun v s1 ⟨x, H1, I1, r1, q1⟩ => ?_
  exact Constant_none (isnot_none_gen ⟨.bl _, H1, I1, by rw [r1.none_iff]; rfl, q1⟩)
/-- a comparison as a value, as a test -/
def tB (t : TE) : TT := fun σ H Q => t σ H fun x H1 => ∃ c, x = .bl c ∧ Q c H1
theorem pe_cmp {op : CmpOp} {t : TE} (h : PC X op a b t) (h1 : behindInMarks op b = false := by first | exact nobehind _ (by decide) (by decide) | rfl) : PE X (.Compare a [op] [b] pos) t := fun pins s σ H Q I hw => wpAny_Compare1 (h pins s σ H Q I hw) h1
theorem pt_cmp {op : CmpOp} {t : TE} (h : PC X op a b t) (h1 : behindInMarks op b = false := by first | exact nobehind _ (by decide) (by decide) | rfl) : PT X (.Compare a [op] [b] pos) (tB t) := by
  intro pins s σ H Q I hw
  refine wpAny_isTrue_Compare1 (thn (h pins s σ H _ I hw) fun v s1 h1 => thn h1 fun u s2 h2 => thn h2 fun c s3 ⟨x, H1, I1, r1, q1⟩ => ?_) h1
  obtain ⟨d, rfl, q⟩ := q1
  cases r1
  exact wpAny_truthy_bool ⟨H1, I1, q⟩
/-- an expression whose value is a bool, as a test -/
theorem pt_val {e : Expr} {t : TE} (h : PE X e t) (he : ∀ whole, isTrue e X.env whole = (do let v ← whole; standAt e.pos; holding [v] (truthy v)) := by intro _; rfl) : PT X e (tB t) := by
  intro pins s σ H Q I hw
  refine isTrue_plain (thn (h pins s σ H _ I hw) fun v s1 ⟨x, H1, I1, r1, q1⟩ => ?_) (he _)
  obtain ⟨d, rfl, q⟩ := q1
  cases r1
  exact wpAny_truthy_bool ⟨H1, I1, q⟩

/-! ### and, or, not -/
variable {tA tB' : TT} {rest : List Expr}
def tAnd (t u : TT) : TT := fun σ H Q => t σ H fun c H1 => if c = true then u σ H1 Q else Q false H1
def tOr (t u : TT) : TT := fun σ H Q => t σ H fun c H1 => if c = true then Q true H1 else u σ H1 Q
def tNot (t : TT) : TT := fun σ H Q => t σ H fun c H1 => Q (!c) H1
theorem pw_and1 (ha : PT X a tA) : PW X (.BoolOp .And [a] pos) tA := by
  intro wh pins s σ H Q I h
  refine isTrue_and (thn (ha pins s σ H Q I h) fun c s1 e => ?_)
  cases c with
  | true => exact isTrue_and_nil e
  | false => exact e
theorem pw_or1 (ha : PT X a tA) : PW X (.BoolOp .Or [a] pos) tA := by
  intro wh pins s σ H Q I h
  refine isTrue_or (thn (ha pins s σ H Q I h) fun c s1 e => ?_)
  cases c with
  | false => exact isTrue_or_nil e
  | true => exact e
theorem pw_and (ha : PT X a tA) (hb : PW X (.BoolOp .And (b :: rest) pos) tB') : PW X (.BoolOp .And (a :: b :: rest) pos) (tAnd tA tB') := by
  intro wh pins s σ H Q I h
  refine isTrue_and (thn (ha pins s σ H _ I h) fun c s1 ⟨H1, I1, q1⟩ => ?_)
  cases c with
  | true => exact hb wh pins s1 σ H1 Q I1 q1
  | false => exact ⟨H1, I1, q1⟩
theorem pw_or (ha : PT X a tA) (hb : PW X (.BoolOp .Or (b :: rest) pos) tB') : PW X (.BoolOp .Or (a :: b :: rest) pos) (tOr tA tB') := by
  intro wh pins s σ H Q I h
  refine isTrue_or (thn (ha pins s σ H _ I h) fun c s1 ⟨H1, I1, q1⟩ => ?_)
  cases c with
  | true => exact ⟨H1, I1, q1⟩
  | false => exact hb wh pins s1 σ H1 Q I1 q1
theorem pt_not (ha : PT X a tA) : PT X (.UnaryOp .Not a pos) (tNot tA) := by
  intro pins s σ H Q I h
  exact isTrue_not (ha pins s σ H (fun c H1 => Q (!c) H1) I h)
/-- .. as values (bools) -/
def tAndV (ta tb : TE) : TE := fun σ H Q => ta σ H fun x H1 => ∃ c, x = .bl c ∧ if c = true then tb σ H1 Q else Q (.bl false) H1
def tOrV (ta tb : TE) : TE := fun σ H Q => ta σ H fun x H1 => ∃ c, x = .bl c ∧ if c = true then Q (.bl true) H1 else tb σ H1 Q
def tNotV (ta : TE) : TE := fun σ H Q => ta σ H fun x H1 => ∃ c, x = .bl c ∧ Q (.bl (!c)) H1
theorem pe_one {op} {t : TE} (h : PE X a t) : PE X (.BoolOp op [a] pos) t := fun pins s σ H Q I hw => BoolOp_one (h pins s σ H Q I hw)
theorem pe_and (ha : PE X a ta) (hb : PE X (.BoolOp .And (b :: rest) pos) tb) : PE X (.BoolOp .And (a :: b :: rest) pos) (tAndV ta tb) := by
  intro pins s σ H Q I h
  refine BoolOp_and (thn (ha pins s σ H _ I h) fun v s1 ⟨x, H1, I1, r1, q1⟩ => ?_)
  obtain ⟨c, rfl, q1⟩ := q1
  cases r1
  refine wpAny_truthy_bool ?_
  cases c with
  | true => exact hb pins s1 σ H1 Q I1 q1
  | false => exact ⟨.bl false, H1, I1, rfl, q1⟩
theorem pe_or (ha : PE X a ta) (hb : PE X (.BoolOp .Or (b :: rest) pos) tb) : PE X (.BoolOp .Or (a :: b :: rest) pos) (tOrV ta tb) := by
  intro pins s σ H Q I h
  refine BoolOp_or (thn (ha pins s σ H _ I h) fun v s1 ⟨x, H1, I1, r1, q1⟩ => ?_)
  obtain ⟨c, rfl, q1⟩ := q1
  cases r1
  refine wpAny_truthy_bool ?_
  cases c with
  | false => exact hb pins s1 σ H1 Q I1 q1
  | true => exact ⟨.bl true, H1, I1, rfl, q1⟩
theorem pe_not (ha : PE X a ta) : PE X (.UnaryOp .Not a pos) (tNotV ta) := by
  intro pins s σ H Q I h
  refine UnaryOp_ (thn (ha pins s σ H _ I h) fun v s1 ⟨x, H1, I1, r1, q1⟩ => ?_)
  obtain ⟨c, rfl, q1⟩ := q1
  cases r1
  exact not_of (wpAny_truthy_bool ⟨.bl (!c), H1, I1, rfl, q1⟩)
/-- a if t else b -/
def tIf (t : TT) (ta tb : TE) : TE := fun σ H Q => t σ H fun c H1 => if c = true then ta σ H1 Q else tb σ H1 Q
theorem pe_ifExp {c : Expr} (hc : PT X c tA) (ha : PE X a ta) (hb : PE X b tb) : PE X (.IfExp c a b pos) (tIf tA ta tb) := by
  intro pins s σ H Q I h
  refine wpAny_IfExp (thn (hc pins s σ H _ I h) fun d s1 ⟨H1, I1, q1⟩ => ?_)
  cases d with
  | true => exact ha pins s1 σ H1 Q I1 q1
  | false => exact hb pins s1 σ H1 Q I1 q1
end
end L2

namespace L2
open PySem PySem.Spec PyProof.Rows

/-! ### a list, a tuple that is read: tracked, frozen, or an object of the module -/
def SqL (K : PySem.W.Frag) (H : Hp) (a : Addr) (xs : List V) : Prop :=
  Rd H a (.lst xs) ∨
    ∃ (o : Obj) (its : Array Value) (n : Nat), K.lookup a = some o ∧ o.cls = .type "list" ∧ o.dict = none ∧ o.data = .seq its n ∧ its.size ≤ sizeLine ∧ Vals xs its.toList
def SqT (K : PySem.W.Frag) (H : Hp) (a : Addr) (xs : List V) : Prop :=
  Rd H a (.tup xs) ∨
    ∃ (o : Obj) (its : Array Value) (n : Nat), K.lookup a = some o ∧ o.cls = .type "tuple" ∧ o.data = .seq its n ∧ its.size ≤ sizeLine ∧ Vals xs its.toList
def absV : Value → Option V
  | .none => some .non
  | .bool b => some (.bl b)
  | .int i _ => some (.int i)
  | .str x _ => some (.str x)
  | .bytes b _ => some (.byt b)
  | .float b _ => some (.flt b)
  | .ref a => some (.ref a)
  | .type n => some (.ty n)
  | _ => none
theorem RelV.abs {x : V} {u : Value} (r : RelV x u) : absV u = some x := by
  cases x with
  | non => cases r; rfl
  | bl _ => cases r; rfl
  | int _ => obtain ⟨t, rfl⟩ := r; rfl
  | str _ => obtain ⟨t, rfl⟩ := r; rfl
  | byt _ => obtain ⟨t, rfl⟩ := r; rfl
  | flt _ => obtain ⟨t, rfl⟩ := r; rfl
  | ref _ => cases r; rfl
  | ty _ => cases r; rfl
theorem RelV.inj {x y : V} {u : Value} (r : RelV x u) (q : RelV y u) : x = y := Option.some.inj (r.abs.symm.trans q.abs)
theorem Vals.inj : ∀ {xs ys : List V} {us : List Value}, Vals xs us → Vals ys us → xs = ys
  | _, _, _, .nil, .nil => rfl
  | _, _, _, .cons r t, .cons r' t' => by rw [r.inj r', Vals.inj t t']
section
variable {X : Cx} {pins : List (Addr × Obj)} {σ : St} {H : Hp} {s : Shared} {a : Addr} {xs ys : List V}
theorem SqL.of {K : PySem.W.Frag} (h : H a = some (.lst xs)) : SqL K H a xs := .inl (.inl h)
theorem SqT.of {K : PySem.W.Frag} (h : H a = some (.tup xs)) : SqT K H a xs := .inl (.inl h)
theorem Inv.list (I : Inv X pins σ H s) (h : SqL X.K H a xs) : ∃ its : List Value, Vals xs its ∧ PlainL s.heap a its.toArray ∧ xs.length ≤ sizeLine := by
  rcases h with h | ⟨o, its, n, hk, hc, hd, hs, hz, r⟩
  · obtain ⟨z, its, n, r, e⟩ := h.ok I.hok
    exact ⟨its, r, ⟨_, n, e, rfl, rfl, rfl⟩, z⟩
  · refine ⟨its.toList, r, ⟨o, n, I.kIn a o hk, hc, hd, by simpa using hs⟩, ?_⟩
    have e := r.length
    simp only [Array.length_toList] at e
    omega
theorem Inv.tuple (I : Inv X pins σ H s) (h : SqT X.K H a xs) : ∃ its : List Value, Vals xs its ∧ IsTup s.heap a its.toArray ∧ xs.length ≤ sizeLine := by
  rcases h with h | ⟨o, its, n, hk, hc, hs, hz, r⟩
  · obtain ⟨z, its, r, p⟩ := h.ok I.hok
    exact ⟨its, r, p, z⟩
  · refine ⟨its.toList, r, ⟨o, I.kIn a o hk, hc, n, by simpa using hs⟩, ?_⟩
    have e := r.length
    simp only [Array.length_toList] at e
    omega
theorem Inv.list_inj (I : Inv X pins σ H s) (h : SqL X.K H a xs) (h' : SqL X.K H a ys) : xs = ys := by
  obtain ⟨its, r, ⟨o, n, e, _, _, d⟩, _⟩ := I.list h
  obtain ⟨its', r', ⟨o', n', e', _, _, d'⟩, _⟩ := I.list h'
  rw [e] at e'; cases e'
  rw [d] at d'
  injection d' with d1 _
  have : its = its' := by simpa using congrArg Array.toList d1
  subst this
  exact r.inj r'
theorem Inv.tuple_inj (I : Inv X pins σ H s) (h : SqT X.K H a xs) (h' : SqT X.K H a ys) : xs = ys := by
  obtain ⟨its, r, ⟨o, e, _, n, d⟩, _⟩ := I.tuple h
  obtain ⟨its', r', ⟨o', e', _, n', d'⟩, _⟩ := I.tuple h'
  rw [e] at e'; cases e'
  rw [d] at d'
  injection d' with d1 _
  have : its = its' := by simpa using congrArg Array.toList d1
  subst this
  exact r.inj r'
end

/-! ### another wish about exceptions -/
abbrev Cx.wish (X : Cx) (E : Value → Shared → Prop) : Cx := { X with xe := E }
/-- no exception leaves -/
abbrev Cx.nox (X : Cx) : Cx := X.wish fun _ _ => False
theorem Cx.Ok.wish {X : Cx} (ok : X.Ok) (E : Value → Shared → Prop) : (X.wish E).Ok :=
  ⟨ok.mod, ok.kind, ok.glob, ok.blt, ok.above, ok.inj, ok.has, ok.cab, ok.hd, ok.frames, ok.stk, ok.exf, ok.bs, ok.bsz, ok.noex, ok.exfs, ok.funs, ok.frf, ok.cab2, ok.hz⟩
theorem Cx.Ok.unwish {X : Cx} {E : Value → Shared → Prop} (ok : (X.wish E).Ok) : X.Ok :=
  ⟨ok.mod, ok.kind, ok.glob, ok.blt, ok.above, ok.inj, ok.has, ok.cab, ok.hd, ok.frames, ok.stk, ok.exf, ok.bs, ok.bsz, ok.noex, ok.exfs, ok.funs, ok.frf, ok.cab2, ok.hz⟩
section
variable {X : Cx} {pins : List (Addr × Obj)} {σ : St} {H : Hp} {s : Shared} {E : Value → Shared → Prop}
theorem Inv.wish (I : Inv X pins σ H s) (E : Value → Shared → Prop) : Inv (X.wish E) pins σ H s := ⟨I.ok.wish E, I.os, I.bare, I.base, I.loc, I.cell, I.free, I.freeC, I.pin, I.hok, I.len⟩
theorem Inv.unwish (I : Inv (X.wish E) pins σ H s) : Inv X pins σ H s := ⟨I.ok.unwish, I.os, I.bare, I.base, I.loc, I.cell, I.free, I.freeC, I.pin, I.hok, I.len⟩
theorem SP.unwish {D : Ends} {f : Flow} {s' : Shared} (h : SP (X.wish E) pins D f s') : SP X pins D f s' := by
  cases f with
  | next => obtain ⟨σ', H', I, q⟩ := h; exact ⟨σ', H', I.unwish, q⟩
  | brk => obtain ⟨σ', H', I, q⟩ := h; exact ⟨σ', H', I.unwish, q⟩
  | cont => obtain ⟨σ', H', I, q⟩ := h; exact ⟨σ', H', I.unwish, q⟩
  | ret u => obtain ⟨v, σ', H', I, r, q⟩ := h; exact ⟨v, σ', H', I.unwish, r, q⟩
theorem PE.nox {e : Expr} {t : TE} (h : PE X.nox e t) : PE X e t := fun pins s σ H Q I hw =>
  wpAny_mono (h pins s σ H Q (I.wish _) hw) (fun _ _ ⟨v, H', I', r, q⟩ => ⟨v, H', I'.unwish, r, q⟩) fun _ _ z => False.elim z
theorem PT.nox {e : Expr} {t : TT} (h : PT X.nox e t) : PT X e t := fun pins s σ H Q I hw =>
  wpAny_mono (h pins s σ H Q (I.wish _) hw) (fun _ _ ⟨H', I', q⟩ => ⟨H', I'.unwish, q⟩) fun _ _ z => False.elim z
theorem PSs.nox {st : List Stmt} {t : TS} (h : PSs X.nox st t) : PSs X st t := fun pins s σ H D I hw =>
  wpAny_mono (h pins s σ H D (I.wish _) hw) (fun _ _ q => q.unwish) fun _ _ z => False.elim z
end

/-! ### blocks and small statements -/
section
variable {X : Cx} {st : Stmt} {rest : List Stmt} {t u : TS} {e : Expr} {te : TE} {pos : Pos}
def tNext : TS := fun D σ H => D.nx σ H
def tSeq (t u : TS) : TS := fun D σ H => t { D with nx := u D } σ H
theorem pss_nil : PSs X [] tNext := fun _ _ σ H _ I h => wpAny_execs_nil ⟨σ, H, I, h⟩
theorem pss_cons (h1 : PS X st t) (h2 : PSs X rest u) : PSs X (st :: rest) (tSeq t u) := by
  intro pins s σ H D I h
  refine wpAny_execs_cons (thn (h1 pins s σ H { D with nx := u D } I h) fun f s1 q => ?_)
  cases f with
  | next =>
    obtain ⟨σ', H', I', q⟩ := q
    exact h2 pins s1 σ' H' D I' q
  | ret v => exact q
  | brk => exact q
  | cont => exact q
theorem pss_one (h1 : PS X st t) : PSs X [st] t := by
  intro pins s σ H D I h
  refine wpAny_execs_cons (thn (h1 pins s σ H D I h) fun f s1 q => ?_)
  cases f with
  | next => exact wpAny_execs_nil q
  | ret v => exact q
  | brk => exact q
  | cont => exact q
def tBreak : TS := fun D σ H => D.bk σ H
def tCont : TS := fun D σ H => D.ct σ H
theorem ps_pass : PS X (.Pass pos) tNext := fun _ _ σ H _ I h => wpAny_Pass ⟨σ, H, I, h⟩
theorem ps_break : PS X (.Break pos) tBreak := fun _ _ σ H _ I h => wpAny_Break ⟨σ, H, I, h⟩
theorem ps_continue : PS X (.Continue pos) tCont := fun _ _ σ H _ I h => wpAny_Continue ⟨σ, H, I, h⟩
/-- in a def's body nothing is shown -/
theorem Inv.quiet {pins : List (Addr × Obj)} {σ : St} {H : Hp} {s : Shared} (I : Inv X pins σ H s) : interactive X.env = false := by simp [interactive, I.ok.kind]
/-- a docstring -/
theorem ps_doc {x j pos pos'} : PS X (.Expr (.Constant (.str x) j pos) pos') tNext := fun _ s σ H _ I h => wpAny_Expr (Calls.Constant_str (show SP X _ _ .next { s with toks := s.toks + 1 } from ⟨σ, H, I.tok _, h⟩)) I.quiet
/-- an expression whose value is dropped -/
def tDrop (te : TE) : TS := fun D σ H => te σ H fun _ H1 => D.nx σ H1
theorem ps_expr (he : PE X e te) (hs : swapsWith e none pos.line X.env = pure false := by rfl) : PS X (.Expr e pos) (tDrop te) := by
  intro pins s σ H D I h
  exact wpAny_Expr_any (thn (he pins s σ H _ I h) fun v s1 ⟨x, H1, I1, r1, q1⟩ => ⟨σ, H1, I1, q1⟩) I.quiet hs
def tRet (te : TE) : TS := fun D σ H => te σ H D.rt
theorem ps_ret (he : PE X e te) : PS X (.Return (some e) pos) (tRet te) := by
  intro pins s σ H D I h
  exact wpAny_Return_some (thn (he pins s σ H _ I h) fun v s1 ⟨x, H1, I1, r1, q1⟩ => ⟨x, σ, H1, I1, r1, q1⟩)
def tRetN : TS := fun D _ H => D.rt .non H
theorem ps_retN : PS X (.Return none pos) tRetN := fun _ _ σ H _ I h => wpAny_Return_none ⟨.non, σ, H, I, rfl, h⟩
def tIfS (c : TT) (t u : TS) : TS := fun D σ H => c σ H fun b H1 => if b = true then t D σ H1 else u D σ H1
theorem ps_if {c : Expr} {a b : List Stmt} {tc : TT} (hc : PT X c tc) (ha : PSs X a t) (hb : PSs X b u) : PS X (.If c a b pos) (tIfS tc t u) := by
  intro pins s σ H D I h
  refine wpAny_If (thn (hc pins s σ H _ I h) fun d s1 ⟨H1, I1, q1⟩ => ?_)
  cases d with
  | true => exact ha pins s1 σ H1 D I1 q1
  | false => exact hb pins s1 σ H1 D I1 q1
/-- code that the proof never comes to -/
def tNever : TS := fun _ _ _ => False
theorem ps_never : PS X st tNever := fun _ _ _ _ _ _ h => h.elim
theorem pss_never {sts : List Stmt} : PSs X sts tNever := fun _ _ _ _ _ _ h => h.elim
end

/-! ### targets -/
abbrev TG := V → St → Hp → (St → Hp → Prop) → Prop
abbrev TGs := List V → St → Hp → (St → Hp → Prop) → Prop
def PG (X : Cx) (target : Expr) (t : TG) : Prop :=
  ∀ (pins : List (Addr × Obj)) (s : Shared) (σ : St) (H : Hp) (v : V) (u : Value) (Q : St → Hp → Prop), Inv X pins σ H s → RelV v u → t v σ H Q →
    wpAny (model X.prog X.w) X.A (assign target X.env u) (fun _ s' => ∃ σ' H', Inv X pins σ' H' s' ∧ Q σ' H') X.xe s
/-- several targets, one after another -/
def PGs (X : Cx) (ts : List Expr) (t : TGs) : Prop :=
  ∀ (pins : List (Addr × Obj)) (s : Shared) (σ : St) (H : Hp) (vs : List V) (us : List Value) (Q : St → Hp → Prop), Inv X pins σ H s → Vals vs us → t vs σ H Q →
    wpAny (model X.prog X.w) X.A (assignInOrder ((assignEach ts X.env).map (·.2)) us) (fun _ s' => ∃ σ' H', Inv X pins σ' H' s' ∧ Q σ' H') X.xe s
/-- o[i] = v, by values -/
abbrev TSet := V → V → V → Hp → (Hp → Prop) → Prop
def PSet (X : Cx) (t : TSet) : Prop :=
  ∀ (pins : List (Addr × Obj)) (s : Shared) (σ : St) (H : Hp) (o i v : V) (ov iv u : Value) (Q : Hp → Prop), Inv X pins σ H s → RelV o ov → RelV i iv → RelV v u → t o i v H Q →
    wpAny (model X.prog X.w) X.A (setItem ov iv u) (fun _ s' => ∃ H', Inv X pins σ H' s' ∧ Q H') X.xe s
/-- a op= b, by values -/
abbrev TIp := V → V → Hp → VK → Prop
def PIp (X : Cx) (op : Operator) (t : TIp) : Prop :=
  ∀ (pins : List (Addr × Obj)) (s : Shared) (σ : St) (H : Hp) (x y : V) (v u : Value) (Q : VK), Inv X pins σ H s → RelV x v → RelV y u → t x y H Q →
    wpAny (model X.prog X.w) X.A (inplaceOp op v u) (EP X pins σ Q) X.xe s
section
variable {X : Cx} {pos : Pos}
def gName (i : Nat) : TG := fun v σ H Q => Q (σ.set i (some v)) H
theorem pg_name {i : Nat} {x : Str} (hN : X.N.Nodup) (hi : X.N[i]? = some x) (hx : Loc X.env.scope x) (hf : X.fn x = true ∨ X.env.scope.names.lookup x = some .local := by first | exact .inl rfl | exact .inr rfl | assumption) : PG X (.Name x pos) (gName i) := by
  intro pins s σ H v u Q I r h
  exact wpAny_assign_Name (store_ok I hN hi hx r (fun s' I' => ⟨_, H, I', h⟩) hf)
def gNil : TGs := fun vs σ H Q => vs = [] ∧ Q σ H
def gCons (t : TG) (u : TGs) : TGs := fun vs σ H Q => ∃ v r, vs = v :: r ∧ t v σ H fun σ' H' => u r σ' H' Q
theorem pgs_nil : PGs X [] gNil := by
  intro pins s σ H vs us Q I r h
  obtain ⟨e, h⟩ := h
  subst e
  cases r
  exact assignInOrder_nil ⟨σ, H, I, h⟩
theorem pgs_cons {e : Expr} {es : List Expr} {t : TG} {u : TGs} (h1 : PG X e t) (h2 : PGs X es u)
    (hs : (assignEach (e :: es) X.env).map (·.2) = assign e X.env :: (assignEach es X.env).map (·.2) := by rfl) : PGs X (e :: es) (gCons t u) := by
  intro pins s σ H vs us Q I r h
  obtain ⟨v, vr, e1, h⟩ := h
  subst e1
  cases r with
  | cons r rr =>
    rw [hs]
    refine assignInOrder_cons (thn (h1 pins s σ H _ _ _ I r h) fun _ s1 ⟨σ1, H1, I1, q1⟩ => ?_)
    exact h2 pins s1 σ1 H1 _ _ Q I1 rr q1
/-- (a, b, ..) = a tuple of that length -/
def gTup (K : PySem.W.Frag) (n : Nat) (t : TGs) : TG := fun v σ H Q => ∃ a xs, v = .ref a ∧ SqT K H a xs ∧ xs.length = n ∧ t xs σ H Q
theorem pg_tup {es : List Expr} {k : Nat} {t : TGs} {n : Nat} (hc : X.calm = true) (h : PGs X es t)
    (hn : (assignEach es X.env).length = n := by rfl) (hst : (assignEach es X.env).findIdx? (·.1) = none := by rfl) : PG X (.Tuple es k pos) (gTup X.K n t) := by
  intro pins s σ H v u Q I r hw
  obtain ⟨a, xs, e1, hq, hl, hw⟩ := hw
  subst e1
  cases r
  obtain ⟨its, rv, ht, hz⟩ := I.tuple hq
  refine assign_Tuple_tuple (I.ok.hd hc) ht (by simp [hn, ← hl, rv.length]) hst fun h' hx => ?_
  have I1 : Inv X pins σ H { s with heap := h' } := I.kept (t' := s.toks) fun b o e => hx b o (Nat.ne_of_lt (Heap.lt_size e)) e
  exact h pins _ σ H xs _ Q I1 (by simpa using rv) hw
/-- o[i] = .. -/
def gSub (to ti : TE) (t : TSet) : TG := fun v σ H Q => to σ H fun o H1 => ti σ H1 fun i H2 => t o i v H2 fun H3 => Q σ H3
theorem pg_sub {o i : Expr} {to ti : TE} {t : TSet} (ho : PE X o to) (hi : PE X i ti) (hs : PSet X t)
    (ha : ∀ v, assign (.Subscript o i pos) X.env v = (do
      let ov ← holding [v] (eval o X.env)
      let iv ← holding [v, ov] (eval i X.env)
      standAt pos
      holding [v, ov, iv] (setItem ov iv v)
      release [v, ov, iv] []) := by intro _; rfl) : PG X (.Subscript o i pos) (gSub to ti t) := by
  intro pins s σ H v u Q I r h
  rw [ha]
  refine wpAny_bind (wpAny_holding (thn (ho pins s σ H _ I h) fun ov s1 ⟨x, H1, I1, r1, q1⟩ => ?_))
  refine wpAny_bind (wpAny_holding (thn (hi pins s1 σ H1 _ I1 q1) fun iv s2 ⟨y, H2, I2, r2, q2⟩ => ?_))
  refine wpAny_bind (wpAny_standAt (wpAny_bind (wpAny_holding (thn (hs pins s2 σ H2 x y v ov iv u _ I2 r1 r2 r q2) fun _ s3 ⟨H3, I3, q3⟩ => ?_))))
  exact wpAny_release ⟨σ, H3, I3, q3⟩
/-- target = value -/
def tAsg (te : TE) (g : TG) : TS := fun D σ H => te σ H fun x H1 => g x σ H1 D.nx
theorem ps_asg {tg e : Expr} {te : TE} {g : TG} (he : PE X e te) (hg : PG X tg g) (hs : swapsWithSole [tg] e pos.line X.env = pure false := by rfl) (hw : swappedStores [tg] e X.env = pure none := by rfl)
    (h1 : (assignEach [tg] X.env).map (·.2) = [assign tg X.env] := by rfl) : PS X (.Assign [tg] e pos) (tAsg te g) := by
  intro pins s σ H D I h
  refine wpAny_Assign_stores (thn (he pins s σ H _ I h) fun v s1 ⟨x, H1, I1, r1, q1⟩ => ?_) hs hw
  rw [h1]
  exact thn (hg pins s1 σ H1 x v _ I1 r1 q1) fun _ s2 q => q
/-- name = value -/
theorem ps_set {i : Nat} {x : Str} {e : Expr} {te : TE} {pos' : Pos} (hN : X.N.Nodup) (hi : X.N[i]? = some x) (hx : Loc X.env.scope x) (he : PE X e te) (hs : swapsWith e (some (.Name x pos')) pos.line X.env = pure false := by rfl) (hf : X.fn x = true ∨ X.env.scope.names.lookup x = some .local := by first | exact .inl rfl | exact .inr rfl | assumption) :
    PS X (.Assign [.Name x pos'] e pos) (tAsg te (gName i)) := by
  intro pins s σ H D I h
  refine wpAny_Assign_Name (thn (he pins s σ H _ I h) fun v s1 ⟨y, H1, I1, r1, q1⟩ => ?_) hs
  exact store_ok I1 hN hi hx r1 (fun s2 I2 => ⟨_, H1, I2, q1⟩) hf
/-- a, b = x, y with plain local names: stored from the right; the pair itself is not tracked (the opening rows as in PyProof/Rows/TupAssign.lean:23) -/
def tPar (i j : Nat) (ta : TA) : TS := fun D σ H => ta σ H fun vs H1 => ∃ v w, vs = [v, w] ∧ D.nx ((σ.set i (some v)).set j (some w)) H1
theorem ps_par {i j : Nat} {x y : Str} {a b : Expr} {ta : TA} {px py pt : Pos} {kt k2 pt2} (hc : X.calm = true) (hN : X.N.Nodup) (hi : X.N[i]? = some x) (hj : X.N[j]? = some y) (hij : i ≠ j)
    (hx : X.env.scope.names.lookup x = some .local) (hy : X.env.scope.names.lookup y = some .local) (ha : PA X [a, b] ta)
    (hw : swappedStores [.Tuple [.Name x px, .Name y py] kt pt] (.Tuple [a, b] k2 pt2) X.env = pure (some [x, y]))
    (hs : swapsWithSole [.Tuple [.Name x px, .Name y py] kt pt] (.Tuple [a, b] k2 pt2) pos.line X.env = pure false := by rfl) :
    PS X (.Assign [.Tuple [.Name x px, .Name y py] kt pt] (.Tuple [a, b] k2 pt2) pos) (tPar i j ta) := by
  intro pins s σ H D I h
  rw [exec_Assign_arm]
  refine wpAny_bind (wpAny_standAt ?_)
  rw [hs]
  refine wpAny_bind (wpAny_pure ?_)
  rw [if_neg (by decide)]
  refine wpAny_bind (Tuple_ (thn (ha _ pins s σ H _ I h) fun us s1 ⟨vs, H1, I1, r1, q1⟩ => ?_))
  obtain ⟨v, w, e1, q1⟩ := q1
  subst e1
  obtain ⟨u1, u2, rfl, rv, rw'⟩ : ∃ u1 u2, us = [u1, u2] ∧ RelV v u1 ∧ RelV w u2 := by
    cases r1 with
    | cons p q =>
      cases q with
      | cons p' q' =>
        cases q'
        exact ⟨_, _, rfl, p, p'⟩
  refine wpAny_newObj_type ?_ (by show 2 ≤ sizeLine; decide)
  have I2 : Inv X pins σ H1 { s1 with heap := s1.heap.push { cls := .type "tuple", data := .seq [u1, u2].toArray } } := I1.kept (t' := s1.toks) fun b o e => Heap.get?_push_of_some _ e
  rw [hw]
  refine wpAny_bind (wpAny_pure ?_)
  show wpAny (model X.prog X.w) X.A (do rule "assign.swapped-stores"; let items ← unpackItems (.ref s1.heap.objs.size) 2 none; assignInOrder [fun v => bindName X.env y v, fun v => bindName X.env x v] items.reverse; pure Flow.next) _ _ _
  refine wpAny_bind (wpAny_rule (wpAny_bind (unpackItems_tuple (items := #[u1, u2]) (I.ok.hd hc) (IsTup.new s1.heap _) fun h' hx' => ?_)))
  have I3 := I2.kept (h' := h') (t' := s1.toks) fun b o e => hx' b o (Nat.ne_of_lt (Heap.lt_size e)) e
  show wpAny _ _ (assignInOrder [fun v => bindName X.env y v, fun v => bindName X.env x v] [u2, u1] >>= fun _ => pure Flow.next) _ _ _
  refine wpAny_bind (assignInOrder_cons (wpAny_bindName (store_ok I3 hN hj (.inl hy) rw' (fun s2 I4 => ?_) (.inr hy))))
  refine assignInOrder_cons (wpAny_bindName (store_ok I4 hN hi (.inl hx) rv (fun s3 I5 => assignInOrder_nil (wpAny_pure ?_)) (.inr hx)))
  rw [List.set_comm _ _ (Ne.symm hij)] at I5
  exact ⟨_, H1, I5, q1⟩
/-- name op= e -/
def tAug (i : Nat) (te : TE) (ti : TIp) : TS := fun D σ H => ∃ x, σ[i]? = some (some x) ∧ te σ H fun y H1 => ti x y H1 fun z H2 => D.nx (σ.set i (some z)) H2
theorem ps_aug {i : Nat} {x : Str} {e : Expr} {te : TE} {op : Operator} {ti : TIp} {pos' : Pos} (hN : X.N.Nodup) (hi : X.N[i]? = some x) (hx : Loc X.env.scope x) (he : PE X e te) (ho : PIp X op ti) (hf : X.fn x = true ∨ X.env.scope.names.lookup x = some .local := by first | exact .inl rfl | exact .inr rfl | assumption) :
    PS X (.AugAssign (.Name x pos') op e pos) (tAug i te ti) := by
  intro pins s σ H D I h
  obtain ⟨v, e1, h⟩ := h
  obtain ⟨m, hn, hl⟩ := I.loc
  have vis : Vis X.env.scope x := by rcases hx with k | k; exact .inl k; exact .inr (.inl k)
  obtain ⟨u, r, l⟩ := hl i x v hi e1 vis
  refine wpAny_AugAssign_Name ?_
  have go : wpAny (model X.prog X.w) X.A (eval e X.env) (fun w s₂ => wpAny (model X.prog X.w) X.A (inplaceOp op u w) (fun r s₃ => wpAny (model X.prog X.w) X.A (storeName X.env x r) (fun _ => SP X pins D .next) X.xe s₃) X.xe s₂) X.xe s := by
    refine thn (he pins s σ H _ I h) fun w s1 ⟨y, H1, I1, r1, q1⟩ => ?_
    refine thn (ho pins s1 σ H1 v y u w _ I1 r r1 q1) fun z s2 ⟨zv, H2, I2, r2, q2⟩ => ?_
    exact store_ok I2 hN hi hx r2 (fun s3 I3 => ⟨_, H2, I3, q2⟩) hf
  rcases l with ⟨hk, hm⟩ | ⟨hk, c, hc, hcell⟩
  · exact wpAny_loadName_local I.ok.kind hk hn hm go
  · rcases hk with hk | hk
    · exact wpAny_loadName_cell I.ok.kind hk hc hcell go
    · rcases hx with k | k
      · have : X.env.scope.names.lookup x = some .free := hk
        rw [k] at this; cases this
      · have : X.env.scope.names.lookup x = some .free := hk
        rw [k] at this; cases this
/-- o[i] op= e -/
def tAugS (to ti te : TE) (tget : V → V → Hp → VK → Prop) (tip : TIp) (tset : TSet) : TS := fun D σ H => to σ H fun o H1 => ti σ H1 fun i H2 => tget o i H2 fun x H3 => te σ H3 fun y H4 => tip x y H4 fun z H5 => tset o i z H5 fun H6 => D.nx σ H6
/-- o[i], by values -/
def PGet (X : Cx) (t : V → V → Hp → VK → Prop) : Prop :=
  ∀ (pins : List (Addr × Obj)) (s : Shared) (σ : St) (H : Hp) (o i : V) (ov iv : Value) (Q : VK), Inv X pins σ H s → RelV o ov → RelV i iv → t o i H Q →
    wpAny (model X.prog X.w) X.A (getItem ov iv) (EP X pins σ Q) X.xe s
theorem ps_augS {o i e : Expr} {to ti te : TE} {tget : V → V → Hp → VK → Prop} {tip : TIp} {tset : TSet} {op : Operator} {tpos : Pos} (ho : PE X o to) (hi : PE X i ti) (hg : PGet X tget) (he : PE X e te) (hp : PIp X op tip) (hs : PSet X tset)
    (ha : ∀ ov iv new, augStore i ov iv new = (do holding [new, ov, iv] (setItem ov iv new); release [new, ov, iv] []; pure .next) := by intros; rfl) : PS X (.AugAssign (.Subscript o i tpos) op e pos) (tAugS to ti te tget tip tset) := by
  intro pins s σ H D I h
  refine wpAny_AugAssign_SubscriptAny (thn (ho pins s σ H _ I h) fun ov s1 ⟨x1, H1, I1, r1, q1⟩ => ?_) ha
  refine thn (hi pins s1 σ H1 _ I1 q1) fun iv s2 ⟨x2, H2, I2, r2, q2⟩ => ?_
  refine thn (hg pins s2 σ H2 x1 x2 ov iv _ I2 r1 r2 q2) fun old s3 ⟨x3, H3, I3, r3, q3⟩ => ?_
  refine thn (he pins s3 σ H3 _ I3 q3) fun v s4 ⟨x4, H4, I4, r4, q4⟩ => ?_
  refine thn (hp pins s4 σ H4 x3 x4 old v _ I4 r3 r4 q4) fun new s5 ⟨x5, H5, I5, r5, q5⟩ => ?_
  exact thn (hs pins s5 σ H5 x1 x2 x5 ov iv new _ I5 r1 r2 r5 q5) fun _ s6 ⟨H6, I6, q6⟩ => ⟨σ, H6, I6, q6⟩
/-- ints -/
def ipI (f : Int → Int → Int) : TIp := fun x y H Q => ∃ i j, x = .int i ∧ y = .int j ∧ Q (.int (f i j)) H
theorem ip_add : PIp X .Add (ipI fun i j => i + j) := by
  intro pins s σ H x y v u Q I r1 r2 h
  obtain ⟨i, j, e1, e2, q⟩ := h
  subst e1; subst e2
  obtain ⟨t, rfl⟩ := r1
  obtain ⟨t', rfl⟩ := r2
  exact iadd_int ⟨.int _, H, I.tok _, ⟨_, rfl⟩, q⟩
theorem ip_sub : PIp X .Sub (ipI fun i j => i - j) := by
  intro pins s σ H x y v u Q I r1 r2 h
  obtain ⟨i, j, e1, e2, q⟩ := h
  subst e1; subst e2
  obtain ⟨t, rfl⟩ := r1
  obtain ⟨t', rfl⟩ := r2
  exact isub_int ⟨.int _, H, I.tok _, ⟨_, rfl⟩, q⟩
end

/-! ### while -/
section
variable {X : Cx} {pos : Pos}
/-- the invariant W with its measure -/
def tWhile (c : TT) (tb : TS) : TS := fun D σ H => ∃ W : Nat → St → Hp → Prop, (∃ m, W m σ H) ∧ ∀ m σ H, W m σ H →
  c σ H fun b H1 => if b = true then ∃ N : St → Hp → Prop, (∀ σ' H', N σ' H' → ∃ m', m' < m ∧ W m' σ' H') ∧ tb { D with nx := N, ct := N, bk := D.nx } σ H1 else D.nx σ H1
theorem ps_while {c : Expr} {body : List Stmt} {tc : TT} {tb : TS} (hp : PassesOwn (model X.prog X.w) X.A X.env X.xe) (hc : PT X c tc) (hb : PSs X body tb) : PS X (.While c body [] pos) (tWhile tc tb) := by
  intro pins s σ H D I h
  obtain ⟨W, ⟨m0, w0⟩, turn⟩ := h
  refine wpAny_While (codeAny_whileLoop (fun n s' => ∃ σ' H', Inv X pins σ' H' s' ∧ W n σ' H') ?_ m0 ⟨σ, H, I, w0⟩)
  rintro n s1 ⟨σ1, H1, I1, w1⟩
  refine wpAny_passesOwn hp (thn (hc pins s1 σ1 H1 _ I1 (turn n σ1 H1 w1)) fun b s2 ⟨H2, I2, q2⟩ => ?_)
  cases b with
  | true =>
    obtain ⟨N, hN, q2⟩ := q2
    rw [if_pos rfl]
    refine wpAny_passesOwn hp (thn (hb pins s2 σ1 H2 _ I2 q2) fun f s3 q3 => ?_)
    cases f with
    | next =>
      obtain ⟨σ3, H3, I3, n3⟩ := q3
      obtain ⟨m', hm, w3⟩ := hN σ3 H3 n3
      exact ⟨m', hm, σ3, H3, I3, w3⟩
    | cont =>
      obtain ⟨σ3, H3, I3, n3⟩ := q3
      obtain ⟨m', hm, w3⟩ := hN σ3 H3 n3
      exact ⟨m', hm, σ3, H3, I3, w3⟩
    | brk => exact q3
    | ret v => exact q3
  | false =>
    rw [if_neg Bool.false_ne_true]
    exact wpAny_execs_nil ⟨σ1, H2, I2, q2⟩
end

/-! ### what a loop or a comprehension walks -/
/-- at turn i: it yields x (the heap may grow), or it stops -/
structure It where
  go : Nat → Hp → Prop
  yld : Nat → Hp → V → Hp → Prop
  stop : Nat → Hp → Prop
/-- the iterator's own objects may turn: they are not the frame's, not pinned, younger than the entry (or a comprehension's own) -/
def FpOk (X : Cx) (pins : List (Addr × Obj)) (H : Hp) (b : Addr) : Prop :=
  H b = none ∧ b ≠ X.env.locals ∧ b ∉ X.fs ∧ (b ∈ X.ex ∨ X.s₀.heap.objs.size ≤ b) ∧ (∀ x c, X.env.cells.lookup x = some c → c ≠ b) ∧ ∀ p ∈ X.pn ++ pins, p.1 ≠ b
theorem Inv.fpOk {X : Cx} {pins : List (Addr × Obj)} {σ : St} {H H' : Hp} {s : Shared} {b : Addr} (I : Inv X pins σ H s) (hb : s.heap.objs.size ≤ b) (hn : H' b = none) : FpOk X pins H' b := by
  refine ⟨hn, Nat.ne_of_gt (Nat.lt_of_lt_of_le I.lt hb), I.nofs hb, .inr (Nat.le_trans I.sz hb), fun x c e z => ?_, fun p hp z => ?_⟩
  · obtain ⟨v, q⟩ := I.cell x c e
    exact absurd (Nat.lt_of_lt_of_le q.lt (by rw [z]; exact hb)) (Nat.lt_irrefl _)
  · exact absurd (Nat.lt_of_lt_of_le (Heap.lt_size (I.pin p hp).1) (by rw [z]; exact hb)) (Nat.lt_irrefl _)
structure Turn (P : Program) (w : World) (K : PySem.W.Frag) (tg : Expr) (J : It) (fp : List Addr) (it : Addr) (tn : Nat → Heap → Prop) : Prop where
  mem : it ∈ fp
  obj : ∀ i h, tn i h → ∀ b ∈ fp, ∃ o, h.get? b = some o ∧ ∀ v, o.data ≠ .cell v
  keep : ∀ i h h', tn i h → (∀ b ∈ fp, ∀ o, h.get? b = some o → h'.get? b = some o) → tn i h'
  item : ∀ (X : Cx), X.prog = P → X.w = w → X.K = K → X.calm = true → ∀ (i : Nat) (pins : List (Addr × Obj)) (s : Shared) (σ : St) (H : Hp) (E : Value → Shared → Prop), Inv X pins σ H s → (∀ b ∈ fp, FpOk X pins H b) → tn i s.heap → J.go i H →
    wpAny (model P w) X.A (pyNext (.ref it)) (fun r s1 => ∃ u, r = some u ∧
      wpAny (model P w) X.A (letOwnedTupleGo tg (.ref it) u) (fun _ s2 => ∃ x H', Inv X pins σ H' s2 ∧ RelV x u ∧ J.yld i H x H' ∧ tn (i + 1) s2.heap ∧ ∀ b ∈ fp, H' b = none) E s1) E s
  done : ∀ (X : Cx), X.prog = P → X.w = w → X.K = K → X.calm = true → ∀ (i : Nat) (pins : List (Addr × Obj)) (s : Shared) (σ : St) (H : Hp) (E : Value → Shared → Prop), Inv X pins σ H s → (∀ b ∈ fp, FpOk X pins H b) → tn i s.heap → J.stop i H →
    wpAny (model P w) X.A (pyNext (.ref it)) (fun r s1 => r = none ∧ Inv X pins σ H s1) E s
  self : ∀ (A : Around) (i : Nat) (s : Shared) (Q : Value → Shared → Prop) (E : Value → Shared → Prop), tn i s.heap → Q (.ref it) s → wpAny (model P w) A (pyIter (.ref it)) Q E s
abbrev TI := St → Hp → (It → Hp → Prop) → Prop
/-- an iterator has come -/
def PIE (X : Cx) (pins : List (Addr × Obj)) (σ : St) (tg : Expr) (R : It → Hp → Prop) (itv : Value) (s2 : Shared) : Prop :=
  ∃ (it : Addr) (fp : List Addr) (tn : Nat → Heap → Prop) (J : It) (H' : Hp), itv = .ref it ∧ Inv X pins σ H' s2 ∧ Turn X.prog X.w X.K tg J fp it tn ∧ tn 0 s2.heap ∧ (∀ b ∈ fp, FpOk X pins H' b) ∧ R J H'
def PI (X : Cx) (tg iter : Expr) (wi : TI) : Prop :=
  ∀ (pins : List (Addr × Obj)) (s : Shared) (σ : St) (H : Hp) (R : It → Hp → Prop), Inv X pins σ H s → wi σ H R →
    wpAny (model X.prog X.w) X.A (eval iter X.env) (fun v s1 => wpAny (model X.prog X.w) X.A (pyIter v) (PIE X pins σ tg R) X.xe s1) X.xe s

/-- the step ahead of the store is nothing for an iterator that keeps no tuple -/
theorem go_of {M : Model} {A : Around} {E : Value → Shared → Prop} {s : Shared} {tg : Expr} {it : Addr} {u : Value} {o : Obj} {n : String} {vs : Array Value} {Q : Unit → Shared → Prop} (ho : s.heap.get? it = some o) (hc : o.cls = .type n) (hd : o.data = .fields vs)
    (hn : ["enumerate", "zip", "dict_itemiterator", "dict_reverseitemiterator", "odict_iterator", "itertools.zip_longest", "itertools.pairwise"].contains n = false) (hQ : Q () s) : wpAny M A (letOwnedTupleGo tg (.ref it) u) Q E s := by
  unfold letOwnedTupleGo
  cases tg <;> first
    | exact wpAny_pure hQ
    | (cases u <;> first
        | exact wpAny_pure hQ
        | (refine wpAny_bind (wpAny_load ho ?_)
           rw [hc, hd]
           show wpAny M A (if (["enumerate", "zip", "dict_itemiterator", "dict_reverseitemiterator", "odict_iterator", "itertools.zip_longest", "itertools.pairwise"].contains n && vs[0]? == some (rawInt _)) = true then _ else _) Q E s
           rw [if_neg (by intro h; rw [hn, Bool.false_and] at h; cases h)]
           exact wpAny_pure hQ))

/-- the list at a, as it stands at each turn (a loop may append to it) -/
def Itl (K : PySem.W.Frag) (a : Addr) : It :=
  ⟨fun i H => ∃ xs x, SqL K H a xs ∧ xs[i]? = some x, fun i H x H' => H' = H ∧ ∀ xs, SqL K H a xs → xs[i]? = some x, fun i H => ∃ xs, SqL K H a xs ∧ xs.length ≤ i⟩
def Itt (K : PySem.W.Frag) (a : Addr) : It :=
  ⟨fun i H => ∃ xs x, SqT K H a xs ∧ xs[i]? = some x, fun i H x H' => H' = H ∧ ∀ xs, SqT K H a xs → xs[i]? = some x, fun i H => ∃ xs, SqT K H a xs ∧ xs.length ≤ i⟩
/-- lo, lo + 1, .. (n of them) -/
def Itr (lo : Int) (n : Nat) : It := ⟨fun i _ => i < n, fun i H x H' => H' = H ∧ x = .int (lo + i), fun i _ => n ≤ i⟩
theorem turn_list {P : Program} {w : World} {K : PySem.W.Frag} {tg : Expr} (a it : Addr) : Turn P w K tg (Itl K a) [it] it (fun i h => h.IsListIter it a i) where
  mem := by simp
  obj := fun i h st b hb => by
    have e : b = it := by simpa using hb
    subst e
    obtain ⟨o, e, c, d⟩ := st
    exact ⟨o, e, fun v z => by rw [d] at z; cases z⟩
  keep := fun i h h' st k => st.at fun o e => k it (by simp) o e
  item := by
    intro X hP hw hK hc i pins s σ H E I hf st hg
    subst hP hw hK
    obtain ⟨xs, x, hq, hx⟩ := hg
    obtain ⟨its, rv, p, hz⟩ := I.list hq
    obtain ⟨u, hu, ru⟩ := rv.get hx
    obtain ⟨f0, f1, f2, f3, f4, f5⟩ := hf it (by simp)
    refine wpAny_pyNext_list_item st p.isList (x := u) (by simpa using hu) fun h' st' sb => ?_
    have I1 : Inv X pins σ H { s with heap := h' } := I.turned (t' := s.toks) (fun b o hb e => (sb.2 b hb).trans e) f0 f1 f3 f4 f5
    obtain ⟨o, e, c, d⟩ := id st'
    exact ⟨u, rfl, go_of (s := { s with heap := h' }) e c d (by decide) ⟨x, H, I1, ru, ⟨rfl, fun ys hy => by rw [I.list_inj hy hq]; exact hx⟩, st', fun b hb => (hf b hb).1⟩⟩
  done := by
    intro X hP hw hK hc i pins s σ H E I hf st hg
    subst hP hw hK
    obtain ⟨xs, hq, hx⟩ := hg
    obtain ⟨its, rv, p, hz⟩ := I.list hq
    obtain ⟨f0, f1, f2, f3, f4, f5⟩ := hf it (by simp)
    have hl := rv.length
    exact wpAny_pyNext_list_end (I.ok.hd hc) st p.isList (by simp; omega) fun h' eb => ⟨rfl, I.turned (t' := s.toks) (fun b o hb e => eb b o hb e) f0 f1 f3 f4 f5⟩
  self := fun _ _ _ _ _ st h => wpAny_pyIter_listiter st h
theorem turn_tuple {P : Program} {w : World} {K : PySem.W.Frag} {tg : Expr} (a it : Addr) : Turn P w K tg (Itt K a) [it] it (fun i h => h.IsTupleIter it a i) where
  mem := by simp
  obj := fun i h st b hb => by
    have e : b = it := by simpa using hb
    subst e
    obtain ⟨o, e, c, d⟩ := st
    exact ⟨o, e, fun v z => by rw [d] at z; cases z⟩
  keep := fun i h h' st k => st.at fun o e => k it (by simp) o e
  item := by
    intro X hP hw hK hc i pins s σ H E I hf st hg
    subst hP hw hK
    obtain ⟨xs, x, hq, hx⟩ := hg
    obtain ⟨its, rv, p, hz⟩ := I.tuple hq
    obtain ⟨u, hu, ru⟩ := rv.get hx
    obtain ⟨f0, f1, f2, f3, f4, f5⟩ := hf it (by simp)
    refine wpAny_pyNext_tuple_item st (show s.heap.IsTuple a its.toArray from p) (x := u) (by simpa using hu) fun h' st' sb => ?_
    have I1 : Inv X pins σ H { s with heap := h' } := I.turned (t' := s.toks) (fun b o hb e => (sb.2 b hb).trans e) f0 f1 f3 f4 f5
    obtain ⟨o, e, c, d⟩ := id st'
    exact ⟨u, rfl, go_of (s := { s with heap := h' }) e c d (by decide) ⟨x, H, I1, ru, ⟨rfl, fun ys hy => by rw [I.tuple_inj hy hq]; exact hx⟩, st', fun b hb => (hf b hb).1⟩⟩
  done := by
    intro X hP hw hK hc i pins s σ H E I hf st hg
    subst hP hw hK
    obtain ⟨xs, hq, hx⟩ := hg
    obtain ⟨its, rv, p, hz⟩ := I.tuple hq
    obtain ⟨f0, f1, f2, f3, f4, f5⟩ := hf it (by simp)
    have hl := rv.length
    exact wpAny_pyNext_tuple_end (I.ok.hd hc) st (show s.heap.IsTuple a its.toArray from p) (by simp; omega) fun h' eb => ⟨rfl, I.turned (t' := s.toks) (fun b o hb e => eb b o hb e) f0 f1 f3 f4 f5⟩
  self := fun _ _ _ _ _ st h => wpAny_pyIter_tupleiter st h
theorem turn_range {P : Program} {w : World} {K : PySem.W.Frag} {tg : Expr} (it : Addr) (lo : Int) (n : Nat) : Turn P w K tg (Itr lo n) [it] it (fun i h => IsRangeIter h it (lo + (i : Nat) * 1) ((n : Int) - (i : Nat)) 1) where
  mem := by simp
  obj := fun i h st b hb => by
    have e : b = it := by simpa using hb
    subst e
    exact ⟨_, st, fun v z => by
      have z' : Data.fields _ = Data.cell v := z
      cases z'⟩
  keep := fun i h h' st k => k it (by simp) _ st
  item := by
    intro X hP hw hK hc i pins s σ H E I hf st hg
    subst hP hw hK
    obtain ⟨f0, f1, f2, f3, f4, f5⟩ := hf it (by simp)
    have W := Walks.range (prog := X.prog) (w := X.w) (I.ok.hd hc) it lo 1 n
    refine W.item i s _ _ hg st fun v h' tk hv st' kk => ?_
    obtain ⟨t, rfl⟩ := hv
    have I1 : Inv X pins σ H { s with heap := h', toks := tk } := I.turned (fun b o hb e => kk b o (by simpa using hb) e) f0 f1 f3 f4 f5
    refine ⟨_, rfl, go_of (s := { s with heap := h', toks := tk }) (n := "range_iterator") st' rfl rfl (by decide) ⟨.int (lo + i), H, I1, ⟨t, ?_⟩, ⟨rfl, rfl⟩, st', fun b hb => (hf b hb).1⟩⟩
    rw [Int.mul_one]
  done := by
    intro X hP hw hK hc i pins s σ H E I hf st hg
    subst hP hw hK
    obtain ⟨f0, f1, f2, f3, f4, f5⟩ := hf it (by simp)
    exact wpAny_pyNext_range_end (I.ok.hd hc) st (by have : n ≤ i := hg; omega) fun h' eb => ⟨rfl, I.turned (t' := s.toks) (fun b o hb e => eb b o hb e) f0 f1 f3 f4 f5⟩
  self := fun _ _ _ _ _ st h => wpAny_pyIter_rangeiter st h
end L2

namespace L2
open PySem PySem.Spec PyProof.Rows
section
variable {X : Cx} {tg : Expr}
def iList (K : PySem.W.Frag) (tl : TE) : TI := fun σ H R => tl σ H fun x H1 => ∃ a, x = .ref a ∧ (∃ xs, SqL K H1 a xs) ∧ R (Itl K a) H1
def iTup (K : PySem.W.Frag) (tl : TE) : TI := fun σ H R => tl σ H fun x H1 => ∃ a, x = .ref a ∧ (∃ xs, SqT K H1 a xs) ∧ R (Itt K a) H1
theorem pi_list {l : Expr} {tl : TE} (hl : PE X l tl) : PI X tg l (iList X.K tl) := by
  intro pins s σ H R I h
  refine thn (hl pins s σ H _ I h) fun v s1 ⟨x, H1, I1, r1, q1⟩ => ?_
  obtain ⟨a, e, ⟨xs, hq⟩, q⟩ := q1
  subst e
  cases r1
  obtain ⟨its, rv, p, hz⟩ := I1.list hq
  refine wpAny_pyIter_list p.isList ?_
  refine ⟨s1.heap.objs.size, [s1.heap.objs.size], _, _, H1, rfl, I1.kept (t' := s1.toks) fun b o e => Heap.get?_push_of_some _ e, turn_list a _, ⟨_, Heap.get?_push_size _ rfl, rfl, rfl⟩, fun b hb => ?_, q⟩
  have e : b = s1.heap.objs.size := by simpa using hb
  subst e
  exact I1.fpOk (Nat.le_refl _) (I1.hok.fresh (Nat.le_refl _))
theorem pi_tup {l : Expr} {tl : TE} (hl : PE X l tl) : PI X tg l (iTup X.K tl) := by
  intro pins s σ H R I h
  refine thn (hl pins s σ H _ I h) fun v s1 ⟨x, H1, I1, r1, q1⟩ => ?_
  obtain ⟨a, e, ⟨xs, hq⟩, q⟩ := q1
  subst e
  cases r1
  obtain ⟨its, rv, p, hz⟩ := I1.tuple hq
  refine wpAny_pyIter_tuple (show s1.heap.IsTuple a its.toArray from p) ?_
  refine ⟨s1.heap.objs.size, [s1.heap.objs.size], _, _, H1, rfl, I1.kept (t' := s1.toks) fun b o e => Heap.get?_push_of_some _ e, turn_tuple a _, ⟨_, Heap.get?_push_size _ rfl, rfl, rfl⟩, fun b hb => ?_, q⟩
  have e : b = s1.heap.objs.size := by simpa using hb
  subst e
  exact I1.fpOk (Nat.le_refl _) (I1.hok.fresh (Nat.le_refl _))
/-- a range object just made, walked -/
theorem range_it {pins : List (Addr × Obj)} {σ : St} {H : Hp} {s : Shared} {R : It → Hp → Prop} {E : Value → Shared → Prop} {lo hi : Int} {t u v : Tok} {tk : Nat} (I : Inv X pins σ H s) (h1 : -(2 ^ 62) ≤ lo) (h2 : lo < 2 ^ 62) (h3 : -(2 ^ 62) ≤ hi) (h4 : hi < 2 ^ 62)
    (q : R (Itr lo (hi - lo).toNat) H) : wpAny (model X.prog X.w) X.A (pyIter (.ref s.heap.objs.size)) (PIE X pins σ tg R) E { s with heap := s.heap.push { cls := .type "range", data := .fields #[.int lo t, .int hi u, .int 1 v] }, toks := tk } := by
  refine wpAny_pyIter_range (IsRange.new ..) (small_one h1 h2 h3 h4) ?_
  have I1 : Inv X pins σ H { s with heap := s.heap.push { cls := .type "range", data := .fields #[.int lo t, .int hi u, .int 1 v] }, toks := tk } := I.kept fun b o e => Heap.get?_push_of_some _ e
  refine ⟨(s.heap.push { cls := .type "range", data := .fields #[.int lo t, .int hi u, .int 1 v] }).objs.size, [(s.heap.push { cls := .type "range", data := .fields #[.int lo t, .int hi u, .int 1 v] }).objs.size], _, _, H, rfl,
    I1.kept (t' := tk) fun b o e => Heap.get?_push_of_some _ e, turn_range _ lo (hi - lo).toNat, ?_, fun b hb => ?_, q⟩
  · have e1 : lo + ((0 : Nat) : Int) * 1 = lo := by simp
    have e2 : (((hi - lo).toNat : Nat) : Int) - ((0 : Nat) : Int) = Builtin.Range.rangeSize lo hi 1 := by rw [rangeSize_one]; split <;> omega
    show IsRangeIter _ _ (lo + ((0 : Nat) : Int) * 1) ((((hi - lo).toNat : Nat) : Int) - ((0 : Nat) : Int)) 1
    rw [e1, e2]
    exact Heap.get?_push_size _ rfl
  · have e : b = (s.heap.push { cls := .type "range", data := .fields #[.int lo t, .int hi u, .int 1 v] }).objs.size := by simpa using hb
    subst e
    exact I1.fpOk (Nat.le_refl _) (I1.hok.fresh (Nat.le_refl _))
def iRng1 (ta : TA) : TI := fun σ H R => ta σ H fun vs H1 => ∃ j : Int, vs = [.int j] ∧ -(2 ^ 62) ≤ j ∧ j < 2 ^ 62 ∧ R (Itr 0 j.toNat) H1
def iRng2 (ta : TA) : TI := fun σ H R => ta σ H fun vs H1 => ∃ i j : Int, vs = [.int i, .int j] ∧ (-(2 ^ 62) ≤ i ∧ i < 2 ^ 62 ∧ -(2 ^ 62) ≤ j ∧ j < 2 ^ 62) ∧ R (Itr i (j - i).toNat) H1
theorem pi_range1 {a : Expr} {ta : TA} {p pos : Pos} (hg : Gl X "range") (hm : X.mg "range" = none) (ha : PA X [a] ta) (hs : starEach [a] X.env = [(false, eval a X.env)] := by rfl) : PI X tg (.Call (.Name "range" p) [a] [] pos) (iRng1 ta) := by
  intro pins s σ H R I h
  refine Call_ (ld_blt I hg hm boot_range (PyProof.Rows.callWith_type1 (thn (ha pos pins s σ H _ I h) fun us s1 ⟨vs, H1, I1, r1, q1⟩ => ?_) hs rfl))
  obtain ⟨j, e, q1, q2, q⟩ := q1
  subst e
  cases r1 with
  | cons r rr =>
    cases rr
    obtain ⟨t, rfl⟩ := r
    exact call_range_1 (range_it I1 (by omega) (by omega) q1 q2 (by simpa using q))
theorem pi_range2 {a b : Expr} {ta : TA} {p pos : Pos} (hg : Gl X "range") (hm : X.mg "range" = none) (ha : PA X [a, b] ta) (hs : starEach [a, b] X.env = [(false, eval a X.env), (false, eval b X.env)] := by rfl) (hs2 : starEach [b] X.env = [(false, eval b X.env)] := by rfl) :
    PI X tg (.Call (.Name "range" p) [a, b] [] pos) (iRng2 ta) := by
  intro pins s σ H R I h
  refine Call_ (ld_blt I hg hm boot_range (PyProof.Rows.callWith_type1 (thn (ha pos pins s σ H _ I h) fun us s1 ⟨vs, H1, I1, r1, q1⟩ => ?_) (by rw [hs, hs2]) (by rw [hs2]; rfl)))
  obtain ⟨i, j, e, ⟨q1, q2, q3, q4⟩, q⟩ := q1
  subst e
  cases r1 with
  | cons r rr =>
    cases rr with
    | cons r' rr =>
      cases rr
      obtain ⟨t, rfl⟩ := r
      obtain ⟨t', rfl⟩ := r'
      exact call_range_2 (range_it I1 q1 q2 q3 q4 q)

/-! ### for -/
/-- W: the invariant by the turn and a measure; N: what the body is to reach -/
def tFor (wi : TI) (g : TG) (tb : TS) : TS := fun D σ H => wi σ H fun J H1 => ∃ W : Nat → Nat → St → Hp → Prop, (∃ m, W 0 m σ H1) ∧ ∀ i m σ H, W i m σ H →
  (J.stop i H ∧ D.nx σ H) ∨ (J.go i H ∧ ∃ N : St → Hp → Prop, (∀ σ' H', N σ' H' → ∃ m', m' < m ∧ W (i + 1) m' σ' H') ∧ ∀ x H', J.yld i H x H' → g x σ H' fun σ2 H2 => tb { D with nx := N, ct := N, bk := D.nx } σ2 H2)
/-- the records at fp as they stand -/
def pinsAt (fp : List Addr) (h : Heap) : List (Addr × Obj) := fp.filterMap fun b => (h.get? b).map fun o => (b, o)
theorem mem_pinsAt {fp : List Addr} {h : Heap} {b : Addr} {o : Obj} (hb : b ∈ fp) (e : h.get? b = some o) : (b, o) ∈ pinsAt fp h := List.mem_filterMap.mpr ⟨b, hb, by rw [e]; rfl⟩
theorem of_pinsAt {fp : List Addr} {h : Heap} {p : Addr × Obj} (hp : p ∈ pinsAt fp h) : p.1 ∈ fp ∧ h.get? p.1 = some p.2 := by
  obtain ⟨b, hb, e⟩ := List.mem_filterMap.mp hp
  cases q : h.get? b with
  | none => rw [q] at e; cases e
  | some o =>
    rw [q] at e
    have e' : (b, o) = p := Option.some.inj e
    subst e'
    exact ⟨hb, q⟩
theorem Inv.pinned {pins : List (Addr × Obj)} {σ : St} {H : Hp} {s : Shared} {fp : List Addr} (I : Inv X pins σ H s) (hf : ∀ b ∈ fp, FpOk X pins H b) (ho : ∀ b ∈ fp, ∃ o, s.heap.get? b = some o ∧ ∀ v, o.data ≠ .cell v) : Inv X (pins ++ pinsAt fp s.heap) σ H s :=
  I.pins_of fun p hp => (List.mem_append.mp hp).elim (fun z => I.pin p (List.mem_append_right _ z)) fun z => by
    obtain ⟨hb, e⟩ := of_pinsAt z
    obtain ⟨f0, f1, f2, _⟩ := hf p.1 hb
    obtain ⟨o, e', d⟩ := ho p.1 hb
    rw [e] at e'; cases e'
    exact ⟨e, f0, f1, f2, d⟩
theorem Inv.unpinned {pins pl : List (Addr × Obj)} {σ : St} {H : Hp} {s : Shared} (I : Inv X (pins ++ pl) σ H s) : Inv X pins σ H s := I.pins_of fun p hp => I.pin p (List.mem_append_right _ (List.mem_append_left _ hp))
theorem ps_for {iter : Expr} {body : List Stmt} {wi : TI} {g : TG} {tb : TS} {pos : Pos} (hp : PassesOwn (model X.prog X.w) X.A X.env X.xe) (hc : X.calm = true) (hi : PI X tg iter wi) (hg : PG X tg g) (hb : PSs X body tb)
    (hs : ∀ x, foldedSetIterable iter X.env x = pure x := by intro _; rfl) : PS X (.For tg iter body [] pos) (tFor wi g tb) := by
  intro pins s σ H D I h
  refine wpAny_For (thn (hi pins s σ H _ I h) fun v s1 h1 => thn h1 fun itv s2 h2 => ?_) hs
  obtain ⟨it, fp, tn, J, H2, e, I2, T, st2, f2, W, ⟨m0, w0⟩, turn⟩ := h2
  subst e
  -- what stays true of the iterator's objects through the loop
  have stat : ∀ {H' : Hp}, (∀ b ∈ fp, H' b = none) → ∀ b ∈ fp, FpOk X pins H' b := fun hn b hb => ⟨hn b hb, (f2 b hb).2⟩
  refine codeAny_forLoop_any (fun n s' => ∃ i σ' H', Inv X pins σ' H' s' ∧ tn i s'.heap ∧ (∀ b ∈ fp, H' b = none) ∧ W i n σ' H') ?_ m0 ⟨0, σ, H2, I2, st2, fun b hb => (f2 b hb).1, w0⟩
  rintro n s3 ⟨i, σ3, H3, I3, st3, fr3, w3⟩
  rcases turn i n σ3 H3 w3 with ⟨stop, qn⟩ | ⟨go, N, hN, step⟩
  · refine wpAny_passesOwn hp (thn (T.done X rfl rfl rfl hc i pins s3 σ3 H3 X.xe I3 (stat fr3) st3 stop) fun r s4 ⟨hr, I4⟩ => ?_)
    subst hr
    exact wpAny_execs_nil ⟨σ3, H3, I4, qn⟩
  · refine wpAny_passesOwn hp (thn (T.item X rfl rfl rfl hc i pins s3 σ3 H3 X.xe I3 (stat fr3) st3 go) fun r s4 ⟨u, hr, h4⟩ => ?_)
    subst hr
    refine wpAny_passesOwn hp (thn h4 fun _ s5 ⟨x, H5, I5, r5, y5, st5, fr5⟩ => ?_)
    have I5' := I5.pinned (stat fr5) (T.obj _ _ st5)
    refine wpAny_passesOwn hp (thn (hg _ s5 σ3 H5 x u _ I5' r5 (step x H5 y5)) fun _ s6 ⟨σ6, H6, I6, q6⟩ => ?_)
    refine wpAny_passesOwn hp (thn (hb _ s6 σ6 H6 _ I6 q6) fun f s7 q7 => ?_)
    have again : ∀ {σ7 : St} {H7 : Hp}, Inv X (pins ++ pinsAt fp s5.heap) σ7 H7 s7 → N σ7 H7 → ∃ m, m < n ∧ ∃ i σ' H', Inv X pins σ' H' s7 ∧ tn i s7.heap ∧ (∀ b ∈ fp, H' b = none) ∧ W i m σ' H' := fun {σ7 H7} I7 n7 => by
      obtain ⟨m', hm, w7⟩ := hN σ7 H7 n7
      refine ⟨m', hm, i + 1, σ7, H7, I7.unpinned, T.keep _ _ _ st5 fun b hb o e => (I7.pin (b, o) (List.mem_append_right _ (List.mem_append_right _ (mem_pinsAt hb e)))).1, fun b hb => ?_, w7⟩
      obtain ⟨o, e, d⟩ := T.obj _ _ st5 b hb
      exact (I7.pin (b, o) (List.mem_append_right _ (List.mem_append_right _ (mem_pinsAt hb e)))).2.1
    cases f with
    | next => obtain ⟨σ7, H7, I7, n7⟩ := q7; exact again I7 n7
    | cont => obtain ⟨σ7, H7, I7, n7⟩ := q7; exact again I7 n7
    | brk => obtain ⟨σ7, H7, I7, q7⟩ := q7; exact ⟨σ7, H7, I7.unpinned, q7⟩
    | ret v => obtain ⟨x7, σ7, H7, I7, r7, q7⟩ := q7; exact ⟨x7, σ7, H7, I7.unpinned, r7, q7⟩
end

/-! ### the forms one uses -/
/-- over a list that the body leaves as it is -/
theorem for_list {K : PySem.W.Frag} {a : Addr} {xs : List V} {g : TG} {tb : TS} {D : Ends} {σ : St} {H : Hp} (Pv : Nat → St → Hp → Prop) (h0 : Pv 0 σ H) (hl : ∀ i σ H, i ≤ xs.length → Pv i σ H → SqL K H a xs)
    (hs : ∀ i x σ H, xs[i]? = some x → Pv i σ H → g x σ H fun σ2 H2 => tb { D with nx := Pv (i + 1), ct := Pv (i + 1), bk := D.nx } σ2 H2) (hd : ∀ σ H, Pv xs.length σ H → D.nx σ H) :
    ∃ W : Nat → Nat → St → Hp → Prop, (∃ m, W 0 m σ H) ∧ ∀ i m σ H, W i m σ H →
      ((Itl K a).stop i H ∧ D.nx σ H) ∨ ((Itl K a).go i H ∧ ∃ N : St → Hp → Prop, (∀ σ' H', N σ' H' → ∃ m', m' < m ∧ W (i + 1) m' σ' H') ∧ ∀ x H', (Itl K a).yld i H x H' → g x σ H' fun σ2 H2 => tb { D with nx := N, ct := N, bk := D.nx } σ2 H2) := by
  refine ⟨fun i m σ H => m = xs.length - i ∧ i ≤ xs.length ∧ Pv i σ H, ⟨xs.length, by simp, Nat.zero_le _, h0⟩, ?_⟩
  rintro i m σ H ⟨rfl, hi, p⟩
  have q := hl i σ H hi p
  by_cases hlt : i < xs.length
  · refine .inr ⟨⟨xs, xs[i], q, by simp [hlt]⟩, Pv (i + 1), fun σ' H' p' => ⟨xs.length - (i + 1), by omega, rfl, hlt, p'⟩, fun x H' y => ?_⟩
    obtain ⟨e, y⟩ := y
    subst e
    exact hs i x σ _ (y xs q) p
  · have e : i = xs.length := by omega
    subst e
    exact .inl ⟨⟨xs, q, Nat.le_refl _⟩, hd σ H p⟩
theorem for_tup {K : PySem.W.Frag} {a : Addr} {xs : List V} {g : TG} {tb : TS} {D : Ends} {σ : St} {H : Hp} (Pv : Nat → St → Hp → Prop) (h0 : Pv 0 σ H) (hl : ∀ i σ H, i ≤ xs.length → Pv i σ H → SqT K H a xs)
    (hs : ∀ i x σ H, xs[i]? = some x → Pv i σ H → g x σ H fun σ2 H2 => tb { D with nx := Pv (i + 1), ct := Pv (i + 1), bk := D.nx } σ2 H2) (hd : ∀ σ H, Pv xs.length σ H → D.nx σ H) :
    ∃ W : Nat → Nat → St → Hp → Prop, (∃ m, W 0 m σ H) ∧ ∀ i m σ H, W i m σ H →
      ((Itt K a).stop i H ∧ D.nx σ H) ∨ ((Itt K a).go i H ∧ ∃ N : St → Hp → Prop, (∀ σ' H', N σ' H' → ∃ m', m' < m ∧ W (i + 1) m' σ' H') ∧ ∀ x H', (Itt K a).yld i H x H' → g x σ H' fun σ2 H2 => tb { D with nx := N, ct := N, bk := D.nx } σ2 H2) := by
  refine ⟨fun i m σ H => m = xs.length - i ∧ i ≤ xs.length ∧ Pv i σ H, ⟨xs.length, by simp, Nat.zero_le _, h0⟩, ?_⟩
  rintro i m σ H ⟨rfl, hi, p⟩
  have q := hl i σ H hi p
  by_cases hlt : i < xs.length
  · refine .inr ⟨⟨xs, xs[i], q, by simp [hlt]⟩, Pv (i + 1), fun σ' H' p' => ⟨xs.length - (i + 1), by omega, rfl, hlt, p'⟩, fun x H' y => ?_⟩
    obtain ⟨e, y⟩ := y
    subst e
    exact hs i x σ _ (y xs q) p
  · have e : i = xs.length := by omega
    subst e
    exact .inl ⟨⟨xs, q, Nat.le_refl _⟩, hd σ H p⟩
theorem for_range {lo : Int} {n : Nat} {g : TG} {tb : TS} {D : Ends} {σ : St} {H : Hp} (Pv : Nat → St → Hp → Prop) (h0 : Pv 0 σ H)
    (hs : ∀ i σ H, i < n → Pv i σ H → g (.int (lo + i)) σ H fun σ2 H2 => tb { D with nx := Pv (i + 1), ct := Pv (i + 1), bk := D.nx } σ2 H2) (hd : ∀ σ H, Pv n σ H → D.nx σ H) :
    ∃ W : Nat → Nat → St → Hp → Prop, (∃ m, W 0 m σ H) ∧ ∀ i m σ H, W i m σ H →
      ((Itr lo n).stop i H ∧ D.nx σ H) ∨ ((Itr lo n).go i H ∧ ∃ N : St → Hp → Prop, (∀ σ' H', N σ' H' → ∃ m', m' < m ∧ W (i + 1) m' σ' H') ∧ ∀ x H', (Itr lo n).yld i H x H' → g x σ H' fun σ2 H2 => tb { D with nx := N, ct := N, bk := D.nx } σ2 H2) := by
  refine ⟨fun i m σ H => m = n - i ∧ i ≤ n ∧ Pv i σ H, ⟨n, by simp, Nat.zero_le _, h0⟩, ?_⟩
  rintro i m σ H ⟨rfl, hi, p⟩
  by_cases hlt : i < n
  · refine .inr ⟨hlt, Pv (i + 1), fun σ' H' p' => ⟨n - (i + 1), by omega, rfl, hlt, p'⟩, fun x H' y => ?_⟩
    obtain ⟨e, y⟩ := y
    subst e y
    exact hs i σ _ hlt p
  · have e : i = n := by omega
    subst e
    exact .inl ⟨Nat.le_refl _, hd σ H p⟩
/-- while, by a word and a measure of the state -/
theorem while_by {c : TT} {tb : TS} {D : Ends} {σ : St} {H : Hp} (Pv : St → Hp → Prop) (μ : St → Hp → Nat) (h0 : Pv σ H)
    (hs : ∀ σ H, Pv σ H → c σ H fun b H1 => if b = true then tb { D with nx := fun σ' H' => Pv σ' H' ∧ μ σ' H' < μ σ H, ct := fun σ' H' => Pv σ' H' ∧ μ σ' H' < μ σ H, bk := D.nx } σ H1 else D.nx σ H1)
    (mono : ∀ σ H Q Q', (∀ b H1, Q b H1 → Q' b H1) → c σ H Q → c σ H Q') : tWhile c tb D σ H := by
  refine ⟨fun m σ H => m = μ σ H ∧ Pv σ H, ⟨_, rfl, h0⟩, ?_⟩
  rintro m σ H ⟨rfl, p⟩
  refine mono σ H _ _ (fun b H1 q => ?_) (hs σ H p)
  cases b with
  | true => exact ⟨_, fun σ' H' ⟨p', l⟩ => ⟨_, l, rfl, p'⟩, q⟩
  | false => exact q
end L2

namespace L2
open PySem PySem.Spec PyProof.Rows

abbrev R2 := V → V → Hp → VK → Prop
/-- a two-place operation on values: f is binaryOp op, inplaceOp op or compareOp op -/
def OpR (X : Cx) (f : Value → Value → Sem Value) (r : R2) : Prop :=
  ∀ (pins : List (Addr × Obj)) (s : Shared) (σ : St) (H : Hp) (x y : V) (v u : Value) (Q : VK), Inv X pins σ H s → RelV x v → RelV y u → r x y H Q →
    wpAny (model X.prog X.w) X.A (f v u) (EP X pins σ Q) X.xe s
/-- a one-place operation -/
def UnR (X : Cx) (f : Value → Sem Value) (r : V → Hp → VK → Prop) : Prop :=
  ∀ (pins : List (Addr × Obj)) (s : Shared) (σ : St) (H : Hp) (x : V) (v : Value) (Q : VK), Inv X pins σ H s → RelV x v → r x H Q →
    wpAny (model X.prog X.w) X.A (f v) (EP X pins σ Q) X.xe s
/-- a call of a value that is known (a builtin, a type) with values -/
def CallR (X : Cx) (f : Value) (r : List V → Hp → VK → Prop) : Prop :=
  ∀ (pins : List (Addr × Obj)) (s : Shared) (σ : St) (H : Hp) (xs : List V) (us : List Value) (Q : VK), Inv X pins σ H s → Vals xs us → r xs H Q →
    wpAny (model X.prog X.w) X.A (call f us) (EP X pins σ Q) X.xe s
/-- a value's truth -/
def TruR (X : Cx) (r : V → Hp → (Bool → Hp → Prop) → Prop) : Prop :=
  ∀ (pins : List (Addr × Obj)) (s : Shared) (σ : St) (H : Hp) (x : V) (v : Value) (Q : Bool → Hp → Prop), Inv X pins σ H s → RelV x v → r x H Q →
    wpAny (model X.prog X.w) X.A (truthy v) (TP X pins σ Q) X.xe s

def tOp (r : R2) (ta tb : TE) : TE := fun σ H Q => ta σ H fun x H1 => tb σ H1 fun y H2 => r x y H2 Q
def tUn (r : V → Hp → VK → Prop) (ta : TE) : TE := fun σ H Q => ta σ H fun x H1 => r x H1 Q
/-- ints in, under C, and a value out -/
def rI (C : Int → Int → Prop) (g : Int → Int → V) : R2 := fun x y H Q => ∃ i j, x = .int i ∧ y = .int j ∧ C i j ∧ Q (g i j) H
def rI0 (g : Int → Int → V) : R2 := fun x y H Q => ∃ i j, x = .int i ∧ y = .int j ∧ Q (g i j) H
def rU (g : Int → V) : V → Hp → VK → Prop := fun x H Q => ∃ i, x = .int i ∧ Q (g i) H

section
variable {X : Cx} {a b c : Expr} {ta tb tc : TE} {pos : Pos}

theorem binT (ha : PE X a ta) (hb : PE X b tb) {pins : List (Addr × Obj)} {s : Shared} {σ : St} {H : Hp} {R : V → V → Hp → Prop} (I : Inv X pins σ H s)
    (h : ta σ H fun x H1 => tb σ H1 fun y H2 => R x y H2) {Q : Value → Shared → Prop} {f : Value → Value → Sem Value}
    (hf : ∀ v u s2 x y H2, Inv X pins σ H2 s2 → RelV x v → RelV y u → R x y H2 → wpAny (model X.prog X.w) X.A (f v u) Q X.xe s2) :
    wpAny (model X.prog X.w) X.A (eval a X.env) (fun v s₁ => wpAny (model X.prog X.w) X.A (eval b X.env) (fun u s₂ => wpAny (model X.prog X.w) X.A (f v u) Q X.xe s₂) X.xe s₁) X.xe s := by
  refine thn (ha pins s σ H _ I h) fun v s1 ⟨x, H1, I1, r1, q1⟩ => ?_
  refine thn (hb pins s1 σ H1 _ I1 q1) fun u s2 ⟨y, H2, I2, r2, q2⟩ => ?_
  exact hf v u s2 x y H2 I2 r1 r2 q2

theorem pe_op {op : Operator} {r : R2} (ho : OpR X (binaryOp op) r) (ha : PE X a ta) (hb : PE X b tb) : PE X (.BinOp a op b pos) (tOp r ta tb) := by
  intro pins s σ H Q I h
  exact wpAny_BinOp (binT ha hb I h fun v u s2 x y H2 I2 rx ry q => ho pins s2 σ H2 x y v u Q I2 rx ry q)
theorem pe_un {op : UnaryOp} {r : V → Hp → VK → Prop} (ho : UnR X (unaryOp op) r) (ha : PE X a ta) : PE X (.UnaryOp op a pos) (tUn r ta) := by
  intro pins s σ H Q I h
  exact UnaryOp_ (thn (ha pins s σ H _ I h) fun v s1 ⟨x, H1, I1, r1, q1⟩ => ho pins s1 σ H1 x v Q I1 r1 q1)
/-- a op= e at a name: the name's slot i -/
theorem augR {op : Operator} {r : R2} (ho : OpR X (inplaceOp op) r) {pins : List (Addr × Obj)} {s : Shared} {σ : St} {H : Hp} {x y : V} {v u : Value} {Q : VK} (I : Inv X pins σ H s)
    (rx : RelV x v) (ry : RelV y u) (q : r x y H Q) : wpAny (model X.prog X.w) X.A (inplaceOp op v u) (EP X pins σ Q) X.xe s := ho pins s σ H x y v u Q I rx ry q

/-! ### ints -/
theorem opI {f : Value → Value → Sem Value} {C : Int → Int → Prop} {g : Int → Int → Int}
    (rule : ∀ (i j : Int) (t u : Tok) (s : Shared) (Q : Value → Shared → Prop) (E : Value → Shared → Prop), C i j → Q (.int (g i j) s.toks) { s with toks := s.toks + 1 } → wpAny (model X.prog X.w) X.A (f (.int i t) (.int j u)) Q E s) :
    OpR X f (rI C fun i j => .int (g i j)) := by
  intro pins s σ H x y v u Q I rx ry h
  obtain ⟨i, j, rfl, rfl, hc, q⟩ := h
  obtain ⟨t, rfl⟩ := rx
  obtain ⟨t', rfl⟩ := ry
  exact rule i j t t' s _ _ hc ⟨.int (g i j), H, I.tok _, ⟨_, rfl⟩, q⟩
theorem opI0 {f : Value → Value → Sem Value} {g : Int → Int → Int}
    (rule : ∀ (i j : Int) (t u : Tok) (s : Shared) (Q : Value → Shared → Prop) (E : Value → Shared → Prop), Q (.int (g i j) s.toks) { s with toks := s.toks + 1 } → wpAny (model X.prog X.w) X.A (f (.int i t) (.int j u)) Q E s) :
    OpR X f (rI0 fun i j => .int (g i j)) := by
  intro pins s σ H x y v u Q I rx ry h
  obtain ⟨i, j, rfl, rfl, q⟩ := h
  obtain ⟨t, rfl⟩ := rx
  obtain ⟨t', rfl⟩ := ry
  exact rule i j t t' s _ _ ⟨.int (g i j), H, I.tok _, ⟨_, rfl⟩, q⟩
theorem opB0 {f : Value → Value → Sem Value} {g : Int → Int → Bool}
    (rule : ∀ (i j : Int) (t u : Tok) (s : Shared) (Q : Value → Shared → Prop) (E : Value → Shared → Prop), Q (.bool (g i j)) s → wpAny (model X.prog X.w) X.A (f (.int i t) (.int j u)) Q E s) :
    OpR X f (rI0 fun i j => .bl (g i j)) := by
  intro pins s σ H x y v u Q I rx ry h
  obtain ⟨i, j, rfl, rfl, q⟩ := h
  obtain ⟨t, rfl⟩ := rx
  obtain ⟨t', rfl⟩ := ry
  exact rule i j t t' s _ _ ⟨.bl (g i j), H, I, rfl, q⟩

def CDiv (i j : Int) : Prop := 0 < j ∧ j < 1073741824
def CDivN (i j : Int) : Prop := j ≠ 0 ∧ j.natAbs < 1073741824
def CPow (i j : Int) : Prop := 0 ≤ j ∧ j ≤ 1000000 ∧ i.natAbs < 2 ^ 64
def CMul (i j : Int) : Prop := (-(2 ^ 64) < i ∧ i < 2 ^ 64) ∨ (-(2 ^ 64) < j ∧ j < 2 ^ 64)
theorem CMul.ok {i j : Int} (h : CMul i j) : IntMulOk i j := by
  rcases h with ⟨h1, h2⟩ | ⟨h1, h2⟩
  · exact .of_left (intBits_le_64 h1 h2)
  · exact .of_right (intBits_le_64 h1 h2)
theorem two_pow_nn (k : Nat) : (0 : Int) ≤ 2 ^ k := by
  rw [two_pow_cast]
  exact Int.natCast_nonneg _

theorem op_add : OpR X (binaryOp .Add) (rI0 fun i j => .int (i + j)) := opI0 fun _ _ _ _ _ _ _ q => add_int q
theorem op_sub : OpR X (binaryOp .Sub) (rI0 fun i j => .int (i - j)) := opI0 fun _ _ _ _ _ _ _ q => sub_int q
theorem op_mul : OpR X (binaryOp .Mult) (rI CMul fun i j => .int (i * j)) := opI fun _ _ _ _ _ _ _ hc q => mul_int q hc.ok
/-- // by a positive divisor -/
theorem op_fdiv : OpR X (binaryOp .FloorDiv) (rI CDiv fun i j => .int (i / j)) := opI fun i j _ _ _ _ _ hc q => by
  have h1 : (0 : Int) < j := hc.1
  have h2 : j < 1073741824 := hc.2
  exact floordiv_int (by omega) (by rw [Int.fdiv_eq_ediv_of_nonneg i (by omega)]; exact q) (.inl (PyProof.noPylong_small (by omega)))
theorem op_fdivN : OpR X (binaryOp .FloorDiv) (rI CDivN fun i j => .int (i.fdiv j)) := opI fun _ _ _ _ _ _ _ hc q => floordiv_int hc.1 q (.inl (PyProof.noPylong_small hc.2))
/-- % by a positive divisor of any size -/
theorem op_mod : OpR X (binaryOp .Mod) (rI (fun _ j => 0 < j) fun i j => .int (i % j)) := opI fun i j _ _ _ _ _ hc q => by
  have h1 : (0 : Int) < j := hc
  exact mod_int' (by omega) (by rw [Int.fmod_eq_emod_of_nonneg i (by omega)]; exact q)
theorem op_modN : OpR X (binaryOp .Mod) (rI (fun _ j => j ≠ 0) fun i j => .int (i.fmod j)) := opI fun _ _ _ _ _ _ _ hc q => mod_int' hc q
theorem op_pow : OpR X (binaryOp .Pow) (rI CPow fun i j => .int (i ^ j.toNat)) := opI fun _ _ _ _ _ _ _ hc q => pow_int_small hc.1 hc.2.1 hc.2.2 q
theorem op_shl : OpR X (binaryOp .LShift) (rI CPow fun i j => .int (i * 2 ^ j.toNat)) := opI fun _ _ _ _ _ _ _ hc q => lshift_int_small hc.1 hc.2.1 hc.2.2 q
theorem op_shr : OpR X (binaryOp .RShift) (rI (fun _ j => 0 ≤ j) fun i j => .int (i / 2 ^ j.toNat)) := opI fun i j _ _ _ _ _ hc q =>
  rshift_int hc (by rw [Int.fdiv_eq_ediv_of_nonneg i (two_pow_nn _)]; exact q)
theorem op_and : OpR X (binaryOp .BitAnd) (rI0 fun i j => .int (Builtin.bitAnd i j)) := opI0 fun _ _ _ _ _ _ _ q => and_int q
theorem op_or : OpR X (binaryOp .BitOr) (rI0 fun i j => .int (Builtin.bitOr i j)) := opI0 fun _ _ _ _ _ _ _ q => or_int q
theorem op_xor : OpR X (binaryOp .BitXor) (rI0 fun i j => .int (Builtin.bitXor i j)) := opI0 fun _ _ _ _ _ _ _ q => xor_int q

theorem iop_add : OpR X (inplaceOp .Add) (rI0 fun i j => .int (i + j)) := opI0 fun _ _ _ _ _ _ _ q => iadd_int q
theorem iop_sub : OpR X (inplaceOp .Sub) (rI0 fun i j => .int (i - j)) := opI0 fun _ _ _ _ _ _ _ q => isub_int q
theorem iop_mul : OpR X (inplaceOp .Mult) (rI CMul fun i j => .int (i * j)) := opI fun _ _ _ _ _ _ _ hc q => imul_int q hc.ok
theorem iop_fdiv : OpR X (inplaceOp .FloorDiv) (rI CDiv fun i j => .int (i / j)) := opI fun i j _ _ _ _ _ hc q => by
  have h1 : (0 : Int) < j := hc.1
  have h2 : j < 1073741824 := hc.2
  exact ifloordiv_int (by omega) (by rw [Int.fdiv_eq_ediv_of_nonneg i (by omega)]; exact q) (.inl (PyProof.noPylong_small (by omega)))
theorem iop_mod : OpR X (inplaceOp .Mod) (rI (fun _ j => 0 < j) fun i j => .int (i % j)) := opI fun i j _ _ _ _ _ hc q => by
  have h1 : (0 : Int) < j := hc
  exact imod_int (by omega) (by rw [Int.fmod_eq_emod_of_nonneg i (by omega)]; exact q)
theorem iop_shl : OpR X (inplaceOp .LShift) (rI CPow fun i j => .int (i * 2 ^ j.toNat)) := opI fun _ _ _ _ _ _ _ hc q => ilshift_int_small hc.1 hc.2.1 hc.2.2 q
theorem iop_shr : OpR X (inplaceOp .RShift) (rI (fun _ j => 0 ≤ j) fun i j => .int (i / 2 ^ j.toNat)) := opI fun i j _ _ _ _ _ hc q =>
  irshift_int hc (by rw [Int.fdiv_eq_ediv_of_nonneg i (two_pow_nn _)]; exact q)
theorem iop_and : OpR X (inplaceOp .BitAnd) (rI0 fun i j => .int (Builtin.bitAnd i j)) := opI0 fun _ _ _ _ _ _ _ q => iand_int q
theorem iop_or : OpR X (inplaceOp .BitOr) (rI0 fun i j => .int (Builtin.bitOr i j)) := opI0 fun _ _ _ _ _ _ _ q => ior_int q
theorem iop_xor : OpR X (inplaceOp .BitXor) (rI0 fun i j => .int (Builtin.bitXor i j)) := opI0 fun _ _ _ _ _ _ _ q => ixor_int q

theorem unI {f : Value → Sem Value} {g : Int → Int}
    (rule : ∀ (i : Int) (t : Tok) (s : Shared) (Q : Value → Shared → Prop) (E : Value → Shared → Prop), Q (.int (g i) s.toks) { s with toks := s.toks + 1 } → wpAny (model X.prog X.w) X.A (f (.int i t)) Q E s) :
    UnR X f (rU fun i => .int (g i)) := by
  intro pins s σ H x v Q I rx h
  obtain ⟨i, rfl, q⟩ := h
  obtain ⟨t, rfl⟩ := rx
  exact rule i t s _ _ ⟨.int (g i), H, I.tok _, ⟨_, rfl⟩, q⟩
theorem un_neg : UnR X (unaryOp .USub) (rU fun i => .int (-i)) := unI fun _ _ _ _ _ q => neg_int q
theorem un_inv : UnR X (unaryOp .Invert) (rU fun i => .int (Builtin.bitNot i)) := unI fun _ _ _ _ _ q => invert_int q

/-! ### bools among ints: n += (a < b) -/
theorem op_add_ib : OpR X (binaryOp .Add) (fun x y H Q => ∃ i k, x = .int i ∧ y = .bl k ∧ Q (.int (i + b2i k)) H) := by
  intro pins s σ H x y v u Q I rx ry h
  obtain ⟨i, k, rfl, rfl, q⟩ := h
  obtain ⟨t, rfl⟩ := rx
  cases ry
  exact add_int_bool ⟨.int (i + b2i k), H, I.tok _, ⟨_, rfl⟩, q⟩
end

/-! ### comparisons -/
/-- the scalars that == tells apart as data does -/
def scal : V → V → Bool
  | .non, .non => true | .non, .int _ => true | .int _, .non => true | .non, .bl _ => true | .bl _, .non => true | .non, .str _ => true | .str _, .non => true
  | .int _, .int _ => true | .bl _, .bl _ => true | .str _, .str _ => true | .byt _, .byt _ => true
  | .int _, .str _ => true | .str _, .int _ => true | .bl _, .str _ => true | .str _, .bl _ => true
  | _, _ => false
def rEq : R2 := fun x y H Q => scal x y = true ∧ Q (.bl (decide (x = y))) H
def rNe : R2 := fun x y H Q => scal x y = true ∧ Q (.bl (!decide (x = y))) H

theorem dec_int {i j : Int} : decide (V.int i = V.int j) = (i == j) := by
  rw [Bool.eq_iff_iff]
  simp
theorem dec_bl {i j : Bool} : decide (V.bl i = V.bl j) = (i == j) := by
  rw [Bool.eq_iff_iff]
  simp
theorem dec_str {i j : Str} : decide (V.str i = V.str j) = (i == j) := by
  rw [Bool.eq_iff_iff]
  simp
theorem dec_byt {i j : Array UInt8} : decide (V.byt i = V.byt j) = (i.toList == j.toList) := by
  rw [Bool.eq_iff_iff]
  cases i
  cases j
  simp

section
variable {X : Cx} {a b c : Expr} {ta tb tc : TE} {pos : Pos}
theorem fin_bl {pins : List (Addr × Obj)} {σ : St} {H : Hp} {s : Shared} {Q : VK} {k k' : Bool} (I : Inv X pins σ H s) (q : Q (.bl k) H) (e : k = k') : EP X pins σ Q (.bool k') s := by
  subst e
  exact ⟨.bl k, H, I, rfl, q⟩
theorem op_eq : OpR X (compareOp .Eq) rEq := by
  intro pins s σ H x y v u Q I rx ry h
  obtain ⟨hs, q⟩ := h
  cases x with
  | non =>
    cases rx
    cases y with
    | non => cases ry; exact PySem.EqNone.eq_none_none (fin_bl I q (by simp))
    | bl j => cases ry; exact PySem.EqNone.eq_none_bool (fin_bl I q (by simp))
    | int j => obtain ⟨t', rfl⟩ := ry; exact PySem.EqNone.eq_none_int (fin_bl I q (by simp))
    | str j => obtain ⟨t', rfl⟩ := ry; exact PySem.EqNone.eq_none_str (fin_bl I q (by simp))
    | _ => exact absurd (show false = true from hs) Bool.false_ne_true
  | bl i =>
    cases rx
    cases y with
    | non => cases ry; exact PySem.EqNone.eq_bool_none (fin_bl I q (by simp))
    | bl j => cases ry; exact eq_bool (fin_bl I q dec_bl)
    | str j => obtain ⟨t', rfl⟩ := ry; exact PySem.EqMixed.eq_bool_str (fin_bl I q (by simp))
    | _ => exact absurd (show false = true from hs) Bool.false_ne_true
  | int i =>
    obtain ⟨t, rfl⟩ := rx
    cases y with
    | non => cases ry; exact PySem.EqNone.eq_int_none (fin_bl I q (by simp))
    | int j => obtain ⟨t', rfl⟩ := ry; exact eq_int (fin_bl I q dec_int)
    | str j => obtain ⟨t', rfl⟩ := ry; exact PySem.EqMixed.eq_int_str (fin_bl I q (by simp))
    | _ => exact absurd (show false = true from hs) Bool.false_ne_true
  | str i =>
    obtain ⟨t, rfl⟩ := rx
    cases y with
    | non => cases ry; exact PySem.EqNone.eq_str_none (fin_bl I q (by simp))
    | bl j => cases ry; exact PySem.EqMixed.eq_str_bool (fin_bl I q (by simp))
    | int j => obtain ⟨t', rfl⟩ := ry; exact PySem.EqMixed.eq_str_int (fin_bl I q (by simp))
    | str j => obtain ⟨t', rfl⟩ := ry; exact eq_str (fin_bl I q dec_str)
    | _ => exact absurd (show false = true from hs) Bool.false_ne_true
  | byt i =>
    obtain ⟨t, rfl⟩ := rx
    cases y with
    | byt j => obtain ⟨t', rfl⟩ := ry; exact PySem.W.eq_bytes (fin_bl I q dec_byt)
    | _ => exact absurd (show false = true from hs) Bool.false_ne_true
  | _ => cases y <;> exact absurd (show false = true from hs) Bool.false_ne_true
theorem op_ne : OpR X (compareOp .NotEq) rNe := by
  intro pins s σ H x y v u Q I rx ry h
  obtain ⟨hs, q⟩ := h
  cases x with
  | non =>
    cases rx
    cases y with
    | non => cases ry; exact PySem.EqNone.ne_none_none (fin_bl I q (by simp))
    | bl j => cases ry; exact PySem.EqNone.ne_none_bool (fin_bl I q (by simp))
    | int j => obtain ⟨t', rfl⟩ := ry; exact PySem.EqNone.ne_none_int (fin_bl I q (by simp))
    | str j => obtain ⟨t', rfl⟩ := ry; exact PySem.EqNone.ne_none_str (fin_bl I q (by simp))
    | _ => exact absurd (show false = true from hs) Bool.false_ne_true
  | bl i =>
    cases rx
    cases y with
    | non => cases ry; exact PySem.EqNone.ne_bool_none (fin_bl I q (by simp))
    | bl j => cases ry; exact ne_bool (fin_bl I q (congrArg not dec_bl))
    | str j => obtain ⟨t', rfl⟩ := ry; exact PySem.EqMixed.ne_bool_str (fin_bl I q (by simp))
    | _ => exact absurd (show false = true from hs) Bool.false_ne_true
  | int i =>
    obtain ⟨t, rfl⟩ := rx
    cases y with
    | non => cases ry; exact PySem.EqNone.ne_int_none (fin_bl I q (by simp))
    | int j => obtain ⟨t', rfl⟩ := ry; exact ne_int (fin_bl I q (congrArg not dec_int))
    | str j => obtain ⟨t', rfl⟩ := ry; exact PySem.EqMixed.ne_int_str (fin_bl I q (by simp))
    | _ => exact absurd (show false = true from hs) Bool.false_ne_true
  | str i =>
    obtain ⟨t, rfl⟩ := rx
    cases y with
    | non => cases ry; exact PySem.EqNone.ne_str_none (fin_bl I q (by simp))
    | bl j => cases ry; exact PySem.EqMixed.ne_str_bool (fin_bl I q (by simp))
    | int j => obtain ⟨t', rfl⟩ := ry; exact PySem.EqMixed.ne_str_int (fin_bl I q (by simp))
    | str j => obtain ⟨t', rfl⟩ := ry; exact ne_str (fin_bl I q (congrArg not dec_str))
    | _ => exact absurd (show false = true from hs) Bool.false_ne_true
  | byt i =>
    obtain ⟨t, rfl⟩ := rx
    cases y with
    | byt j => obtain ⟨t', rfl⟩ := ry; exact PySem.W.ne_bytes (fin_bl I q (congrArg not dec_byt))
    | _ => exact absurd (show false = true from hs) Bool.false_ne_true
  | _ => cases y <;> exact absurd (show false = true from hs) Bool.false_ne_true

theorem op_lt : OpR X (compareOp .Lt) (rI0 fun i j => .bl (decide (i < j))) := opB0 fun _ _ _ _ _ _ _ q => lt_int q
theorem op_le : OpR X (compareOp .LtE) (rI0 fun i j => .bl (decide (i ≤ j))) := opB0 fun _ _ _ _ _ _ _ q => le_int q
theorem op_gt : OpR X (compareOp .Gt) (rI0 fun i j => .bl (decide (j < i))) := opB0 fun _ _ _ _ _ _ _ q => gt_int q
theorem op_ge : OpR X (compareOp .GtE) (rI0 fun i j => .bl (decide (j ≤ i))) := opB0 fun _ _ _ _ _ _ _ q => ge_int q
theorem op_lt_str : OpR X (compareOp .Lt) (fun x y H Q => ∃ i j, x = .str i ∧ y = .str j ∧ Q (.bl (decide (i.cps.toList < j.cps.toList))) H) := by
  intro pins s σ H x y v u Q I rx ry h
  obtain ⟨i, j, rfl, rfl, q⟩ := h
  obtain ⟨t, rfl⟩ := rx
  obtain ⟨t', rfl⟩ := ry
  exact lt_str (fin_bl I q rfl)
/-- the one string within the other -/
theorem op_in_str : OpR X (compareOp .In) (fun x y H Q => ∃ i j, x = .str i ∧ y = .str j ∧ Q (.bl (!(Builtin.Str.occurrences j i 0 j.length 1).isEmpty)) H) := by
  intro pins s σ H x y v u Q I rx ry h
  obtain ⟨i, j, rfl, rfl, q⟩ := h
  obtain ⟨t, rfl⟩ := rx
  obtain ⟨t', rfl⟩ := ry
  exact in_str (fin_bl I q rfl)

/-- is None, is not None: the right side a value none -/
theorem op_isN : OpR X (compareOp .Is) (fun x y H Q => y = .non ∧ Q (.bl (decide (x = .non))) H) := by
  intro pins s σ H x y v u Q I rx ry h
  obtain ⟨rfl, q⟩ := h
  cases ry
  refine is_none_gen (fin_bl I q ?_)
  cases x <;> first
    | (cases rx; rfl)
    | (obtain ⟨t, rfl⟩ := rx; rfl)
theorem op_notN : OpR X (compareOp .IsNot) (fun x y H Q => y = .non ∧ Q (.bl (!decide (x = .non))) H) := by
  intro pins s σ H x y v u Q I rx ry h
  obtain ⟨rfl, q⟩ := h
  cases ry
  refine isnot_none_gen (fin_bl I q ?_)
  cases x <;> first
    | (cases rx; rfl)
    | (obtain ⟨t, rfl⟩ := rx; rfl)

theorem op_notin_str : OpR X (compareOp .NotIn) (fun x y H Q => ∃ i j, x = .str i ∧ y = .str j ∧ Q (.bl (!(!(Builtin.Str.occurrences j i 0 j.length 1).isEmpty))) H) := by
  intro pins s σ H x y v u Q I rx ry h
  obtain ⟨i, j, rfl, rfl, q⟩ := h
  obtain ⟨t, rfl⟩ := rx
  obtain ⟨t', rfl⟩ := ry
  exact notIn_str (fin_bl I q rfl)
/-- is, is not of two objects that are tracked lists or instances -/
def isObj : HO → Bool
  | .lst _ => true
  | .ins _ _ _ => true
  | _ => false
theorem obj_there {pins : List (Addr × Obj)} {s : Shared} {σ : St} {H : Hp} {a : Addr} {o : HO} (I : Inv X pins σ H s) (h : H a = some o) (p : isObj o = true) : ∃ ob, s.heap.get? a = some ob ∧ ob.cls ≠ .type "tuple" := by
  cases o with
  | lst xs =>
    obtain ⟨_, its, n, _, e⟩ : xs.length ≤ sizeLine ∧ ∃ (its : List Value) (n : Nat), Vals xs its ∧ s.heap.get? a = some { cls := .type "list", data := .seq its.toArray n } := I.hok a _ h
    exact ⟨_, e, (by show Value.type "list" ≠ .type "tuple"; decide +kernel)⟩
  | ins C dx fs =>
    have x := I.hok a _ h
    obtain ⟨_, _, _, e, _⟩ := x
    exact ⟨_, e, (by show Value.ref C ≠ .type "tuple"; exact fun z => by cases z)⟩
  | _ => exact absurd (show false = true from p) Bool.false_ne_true
theorem op_is_ref : OpR X (compareOp .Is) (fun x y H Q => ∃ a b oa ob, x = .ref a ∧ y = .ref b ∧ H a = some oa ∧ isObj oa = true ∧ H b = some ob ∧ isObj ob = true ∧ Q (.bl (decide (a = b))) H) := by
  intro pins s σ H x y v u Q I rx ry h
  obtain ⟨a, b, oa, ob, rfl, rfl, ha, pa, hb, pb, q⟩ := h
  cases rx
  cases ry
  obtain ⟨o1, e1, n1⟩ := obj_there I ha pa
  obtain ⟨o2, e2, _⟩ := obj_there I hb pb
  by_cases z : a = b
  · subst z
    exact wpAny_is_ref_self (fin_bl I q (by simp))
  · exact wpAny_is_ref_other z e1 e2 n1 (fin_bl I q (by simp [z]))
theorem op_isnot_ref : OpR X (compareOp .IsNot) (fun x y H Q => ∃ a b oa ob, x = .ref a ∧ y = .ref b ∧ H a = some oa ∧ isObj oa = true ∧ H b = some ob ∧ isObj ob = true ∧ Q (.bl (!decide (a = b))) H) := by
  intro pins s σ H x y v u Q I rx ry h
  obtain ⟨a, b, oa, ob, rfl, rfl, ha, pa, hb, pb, q⟩ := h
  cases rx
  cases ry
  obtain ⟨o1, e1, n1⟩ := obj_there I ha pa
  obtain ⟨o2, e2, _⟩ := obj_there I hb pb
  by_cases z : a = b
  · subst z
    exact wpAny_isNot_ref_self (fin_bl I q (by simp))
  · exact wpAny_isNot_ref_other z e1 e2 n1 (fin_bl I q (by simp [z]))

/-- two rules for one operation: by cases -/
theorem OpR.or {f : Value → Value → Sem Value} {r r' : R2} (h : OpR X f r) (h' : OpR X f r') : OpR X f (fun x y H Q => r x y H Q ∨ r' x y H Q) := by
  intro pins s σ H x y v u Q I rx ry q
  rcases q with q | q
  · exact h pins s σ H x y v u Q I rx ry q
  · exact h' pins s σ H x y v u Q I rx ry q

theorem nomark (b : Expr) {op : CmpOp} (h : op ≠ .In := by decide) (h2 : op ≠ .NotIn := by decide) : behindInMarks op b = false := by
  have e1 : (op == CmpOp.In) = false := by cases op <;> first | rfl | exact absurd rfl h
  have e2 : (op == CmpOp.NotIn) = false := by cases op <;> first | rfl | exact absurd rfl h2
  cases b <;> simp [behindInMarks, e1, e2]
/-- a comparison as a value; hm: nomark b, or (for in, not in) by with_unfolding_all rfl -/
theorem pe_cmpR {op : CmpOp} {r : R2} (ho : OpR X (compareOp op) r) (ha : PE X a ta) (hb : PE X b tb) (hm : behindInMarks op b = false) : PE X (.Compare a [op] [b] pos) (tOp r ta tb) := by
  intro pins s σ H Q I h
  exact wpAny_Compare1 (binT ha hb I h fun v u s2 x y H2 I2 rx ry q => ho pins s2 σ H2 x y v u Q I2 rx ry q) hm
/-- a reading of a value as a test -/
def tTest (t : TE) : TT := fun σ H Q => t σ H fun x H' => ∃ k, x = .bl k ∧ Q k H'
theorem pt_cmpR {op : CmpOp} {r : R2} (ho : OpR X (compareOp op) r) (ha : PE X a ta) (hb : PE X b tb) (hm : behindInMarks op b = false) : PT X (.Compare a [op] [b] pos) (tTest (tOp r ta tb)) := by
  intro pins s σ H Q I h
  refine wpAny_isTrue_Compare1 (thn (ha pins s σ H _ I h) fun v s1 ⟨x, H1, I1, r1, q1⟩ => thn (hb pins s1 σ H1 _ I1 q1) fun u s2 ⟨y, H2, I2, r2, q2⟩ =>
    thn (ho pins s2 σ H2 x y v u _ I2 r1 r2 q2) fun c s3 ⟨z, H3, I3, r3, k, e, q3⟩ => ?_) hm
  subst e
  cases r3
  exact wpAny_truthy_bool ⟨H3, I3, q3⟩
/-- a op1 b op2 c -/
def tChain (r r' : R2) (ta tb tc : TE) : TE := fun σ H Q => ta σ H fun x H1 => tb σ H1 fun y H2 => r x y H2 fun z H3 => ∃ k, z = .bl k ∧
  (if k = true then tc σ H3 fun w' H4 => r' y w' H4 Q else Q (.bl false) H3)
theorem pe_chain {op op' : CmpOp} {r r' : R2} (ho : OpR X (compareOp op) r) (ho' : OpR X (compareOp op') r') (ha : PE X a ta) (hb : PE X b tb) (hc : PE X c tc)
    (hm : lastMarks [op, op'] [b, c] = false := by with_unfolding_all rfl) : PE X (.Compare a [op, op'] [b, c] pos) (tChain r r' ta tb tc) := by
  intro pins s σ H Q I h
  refine Compare_chain (thn (ha pins s σ H _ I h) fun v s1 ⟨x, H1, I1, r1, q1⟩ => chain_link (thn (hb pins s1 σ H1 _ I1 q1) fun u s2 ⟨y, H2, I2, r2, q2⟩ =>
    thn (ho pins s2 σ H2 x y v u _ I2 r1 r2 q2) fun d s3 ⟨z, H3, I3, r3, k, e, q3⟩ => ?_)) hm
  subst e
  cases r3
  refine wpAny_truthy_bool ?_
  cases k with
  | false => exact ite_ff ⟨.bl false, H3, I3, rfl, q3⟩
  | true => exact ite_tt (chain_last (thn (hc pins s3 σ H3 _ I3 q3) fun w' s4 ⟨z', H4, I4, r4, q4⟩ => ho' pins s4 σ H4 y z' u w' Q I4 r2 r4 q4))
theorem pt_chain {op op' : CmpOp} {r r' : R2} (ho : OpR X (compareOp op) r) (ho' : OpR X (compareOp op') r') (ha : PE X a ta) (hb : PE X b tb) (hc : PE X c tc)
    (hm : lastMarks [op, op'] [b, c] = false := by with_unfolding_all rfl) : PT X (.Compare a [op, op'] [b, c] pos) (tTest (tChain r r' ta tb tc)) := by
  intro pins s σ H Q I h
  refine isTrue_chain (thn (ha pins s σ H _ I h) fun v s1 ⟨x, H1, I1, r1, q1⟩ => test_link (thn (hb pins s1 σ H1 _ I1 q1) fun u s2 ⟨y, H2, I2, r2, q2⟩ =>
    thn (ho pins s2 σ H2 x y v u _ I2 r1 r2 q2) fun d s3 ⟨z, H3, I3, r3, k, e, q3⟩ => ?_)) hm
  subst e
  cases r3
  refine wpAny_truthy_bool ?_
  cases k with
  | false =>
    obtain ⟨k', e', q'⟩ := q3
    cases e'
    exact ite_ff ⟨H3, I3, q'⟩
  | true =>
    refine ite_tt (test_last (thn (hc pins s3 σ H3 _ I3 q3) fun w' s4 ⟨z', H4, I4, r4, q4⟩ => thn (ho' pins s4 σ H4 y z' u w' _ I4 r2 r4 q4) fun d' s5 ⟨z2, H5, I5, r5, k2, e2, q5⟩ => ?_))
    subst e2
    cases r5
    exact wpAny_truthy_bool ⟨H5, I5, q5⟩

/-! ### truth -/
/-- a value's truth by the abstract heap -/
def TruV (K : PySem.W.Frag) (x : V) (H : Hp) (k : Bool) : Prop :=
  match x with
  | .non => k = false
  | .bl b => k = b
  | .int i => k = (i != 0)
  | .str y => y.length ≤ sizeLine ∧ k = ((y.length : Int) != 0)
  | .byt y => y.size ≤ sizeLine ∧ k = ((y.size : Int) != 0)
  | .ref p => (∃ xs, SqL K H p xs ∧ k = !xs.isEmpty) ∨ (∃ xs, SqT K H p xs ∧ k = !xs.isEmpty) ∨ ∃ kvs, H p = some (.dK kvs) ∧ k = !kvs.isEmpty
  | _ => False
theorem isEmpty_kv {κ : Type} {kvs : List (κ × V)} {vs : List (κ × Value)} (r : KV kvs vs) : (!vs.isEmpty) = !kvs.isEmpty := by
  cases r <;> rfl
theorem isEmpty_of {xs : List V} {its : List Value} (r : Vals xs its) : (!its.toArray.isEmpty) = !xs.isEmpty := by
  cases r <;> simp
theorem line63 : (sizeLine : Nat) < 2 ^ 63 := by rw [sizeLine_eq]; decide
theorem tru_ok : TruR X (fun x H Q => ∃ k, TruV X.K x H k ∧ Q k H) := by
  intro pins s σ H x v Q I rx h
  obtain ⟨k, e, q⟩ := h
  have hl := line63
  have hs : sizeLine = 16777216 := sizeLine_eq
  cases x with
  | non =>
    cases rx
    have e' : k = false := e
    subst e'
    exact truthy_none ⟨H, I, q⟩
  | bl b =>
    cases rx
    have e' : k = b := e
    subst e'
    exact wpAny_truthy_bool ⟨H, I, q⟩
  | int i =>
    obtain ⟨t, rfl⟩ := rx
    have e' : k = (i != 0) := e
    subst e'
    exact PySem.P.truthy_int ⟨H, I, q⟩
  | str y =>
    obtain ⟨t, rfl⟩ := rx
    obtain ⟨hy, e'⟩ : y.length ≤ sizeLine ∧ k = ((y.length : Int) != 0) := e
    subst e'
    exact PySem.P.truthy_str (by omega) ⟨H, I.tok _, q⟩
  | byt y =>
    obtain ⟨t, rfl⟩ := rx
    obtain ⟨hy, e'⟩ : y.size ≤ sizeLine ∧ k = ((y.size : Int) != 0) := e
    subst e'
    exact PySem.W.truthy_bytes (by omega) ⟨H, I.tok _, q⟩
  | ref p =>
    cases rx
    have e' : (∃ xs, SqL X.K H p xs ∧ k = !xs.isEmpty) ∨ (∃ xs, SqT X.K H p xs ∧ k = !xs.isEmpty) ∨ ∃ kvs, H p = some (.dK kvs) ∧ k = !kvs.isEmpty := e
    rcases e' with ⟨xs, hx, e'⟩ | ⟨xs, hx, e'⟩ | ⟨kvs, hx, e'⟩
    · subst e'
      obtain ⟨its, r, pl, hz⟩ := I.list hx
      have hlen := r.length
      exact wpAny_truthy_list pl.isList (by simp only [List.size_toArray]; omega) ⟨H, I.tok _, by rw [isEmpty_of r]; exact q⟩
    · subst e'
      obtain ⟨its, r, pl, hz⟩ := I.tuple hx
      have hlen := r.length
      exact truthy_tuple pl (by simp only [List.size_toArray]; omega) ⟨H, I.tok _, by rw [isEmpty_of r]; exact q⟩
    · subst e'
      obtain ⟨hz, hS, vs, r, m⟩ : kvs.length ≤ sizeLine ∧ (p == sysModules) = false ∧ ∃ vs, KV kvs vs ∧ s.heap.DictOf (mixKind X.prog X.w) p vs := I.hok p _ hx
      have hlen : kvs.length = vs.length := Paired.length r
      exact wpAny_truthy_dict hS m (by omega) ⟨H, I.tok _, by rw [isEmpty_kv r]; exact q⟩
  | _ => exact (show False from e).elim
/-- any expression whose test is its value's truth (a name, a call, a subscript, a field ..: he by fun _ => rfl) -/
theorem pt_truth (ha : PE X a ta) (he : ∀ whole, isTrue a X.env whole = (do let v ← whole; standAt a.pos; holding [v] (truthy v))) :
    PT X a (fun σ H Q => ta σ H fun x H' => ∃ k, TruV X.K x H' k ∧ Q k H') := by
  intro pins s σ H Q I h
  exact isTrue_plain (thn (ha pins s σ H _ I h) fun v s1 ⟨x, H1, I1, r1, q1⟩ => tru_ok pins s1 σ H1 x v Q I1 r1 q1) (he _)

/-! ### strs and bytes -/
theorem pe_byt {x : List UInt8} {k : Nat} : PE X (.Constant (.bytes x) k pos) (fun _ H Q => Q (.byt x.toArray) H) := fun _ _ _ H _ I h => PySem.W.Constant_bytes ⟨.byt x.toArray, H, I.tok _, ⟨_, rfl⟩, h⟩
theorem op_add_str : OpR X (binaryOp .Add) (fun x y H Q => ∃ i j, x = .str i ∧ y = .str j ∧ i.length + j.length ≤ sizeLine ∧ Q (.str (i ++ j)) H) := by
  intro pins s σ H x y v u Q I rx ry h
  obtain ⟨i, j, rfl, rfl, hz, q⟩ := h
  obtain ⟨t, rfl⟩ := rx
  obtain ⟨t', rfl⟩ := ry
  exact add_str (fun t' tk => ⟨.str (i ++ j), H, I.tok _, ⟨_, rfl⟩, q⟩) hz
theorem iop_add_str : OpR X (inplaceOp .Add) (fun x y H Q => ∃ i j, x = .str i ∧ y = .str j ∧ i.length + j.length ≤ sizeLine ∧ Q (.str (i ++ j)) H) := by
  intro pins s σ H x y v u Q I rx ry h
  obtain ⟨i, j, rfl, rfl, hz, q⟩ := h
  obtain ⟨t, rfl⟩ := rx
  obtain ⟨t', rfl⟩ := ry
  exact iadd_str (fun t' tk => ⟨.str (i ++ j), H, I.tok _, ⟨_, rfl⟩, q⟩) hz
theorem op_add_byt : OpR X (binaryOp .Add) (fun x y H Q => ∃ i j, x = .byt i ∧ y = .byt j ∧ i.size + j.size ≤ 16777216 ∧ Q (.byt (i ++ j)) H) := by
  intro pins s σ H x y v u Q I rx ry h
  obtain ⟨i, j, rfl, rfl, hz, q⟩ := h
  obtain ⟨t, rfl⟩ := rx
  obtain ⟨t', rfl⟩ := ry
  exact PySem.W.KBy.add_bytes hz (fun t' tk => ⟨.byt (i ++ j), H, I.tok _, ⟨_, rfl⟩, q⟩)

def PlainIxT (b : Expr) : Prop := ∀ o i, subscripted b false o i = operate [o, i] (getItem o i)
/-- s[i], 0 ≤ i < len -/
theorem pe_item_str (ha : PE X a ta) (hb : PE X b tb) (hs : PlainIxT b) :
    PE X (.Subscript a b pos) (tOp (fun x y H Q => ∃ z i c, x = .str z ∧ y = .int i ∧ 0 ≤ i ∧ i < 2 ^ 63 ∧ i < z.length ∧ z.cps[i.toNat]? = some c ∧ Q (.str ⟨#[c]⟩) H) ta tb) := by
  intro pins s σ H Q I h
  refine Subscript_ (binT ha hb I h fun v u s2 x y H2 I2 rx ry q => ?_)
  obtain ⟨z, i, c, rfl, rfl, h0, h63, h1, hc, q⟩ := q
  obtain ⟨t, rfl⟩ := rx
  obtain ⟨t', rfl⟩ := ry
  have e : seqIndex? i z.length = some i.toNat := PySem.StrLaws.seqIndex_nonneg h0 h1
  exact tail_any (typeIs_str s2 z t) slot_str_getitem.lookup (getItem_str (c := c) (by
    have e1 : decide (i < -(2 ^ 63 : Int)) = false := decide_eq_false (by omega)
    have e2 : decide (i ≥ 2 ^ 63) = false := decide_eq_false (by omega)
    rw [e1, e2] <;> rfl) (by rw [e]; exact hc) ⟨.str ⟨#[c]⟩, H2, I2.tok _, ⟨_, rfl⟩, q⟩) (hs _ _)
/-- b[i], 0 ≤ i < len -/
theorem pe_item_byt (ha : PE X a ta) (hb : PE X b tb) (hs : PlainIxT b) :
    PE X (.Subscript a b pos) (tOp (fun x y H Q => ∃ (z : List UInt8) (i : Int), x = .byt z.toArray ∧ y = .int i ∧ z.length ≤ sizeLine ∧ 0 ≤ i ∧ i < z.length ∧ Q (.int ((z.getD i.toNat 0).toNat : Nat)) H) ta tb) := by
  intro pins s σ H Q I h
  refine Subscript_ (binT ha hb I h fun v u s2 x y H2 I2 rx ry q => ?_)
  obtain ⟨z, i, rfl, rfl, hz, h0, h1, q⟩ := q
  obtain ⟨t, rfl⟩ := rx
  obtain ⟨t', rfl⟩ := ry
  have hl : sizeLine = 16777216 := sizeLine_eq
  exact tail_any (PySem.W.typeIs_bytes s2 z.toArray t) PySem.W.FB.slot_bytes_getitem.lookup (PySem.W.getItem_bytes (by omega) h0 h1 ⟨.int ((z.getD i.toNat 0).toNat : Nat), H2, I2.tok _, ⟨_, rfl⟩, q⟩) (hs _ _)

/-! ### scalar builtins, by CallR -/
theorem vals1 {x : V} {us : List Value} (r : Vals [x] us) : ∃ u, us = [u] ∧ RelV x u := by
  cases r with
  | cons r1 r2 => cases r2; exact ⟨_, rfl, r1⟩
theorem vals2 {x y : V} {us : List Value} (r : Vals [x, y] us) : ∃ u w', us = [u, w'] ∧ RelV x u ∧ RelV y w' := by
  cases r with
  | cons r1 r2 =>
    cases r2 with
    | cons r3 r4 => cases r4; exact ⟨_, _, rfl, r1, r3⟩
theorem call_abs : CallR X (.builtin "abs") (fun xs H Q => ∃ i, xs = [.int i] ∧ Q (.int (if i < 0 then -i else i)) H) := by
  intro pins s σ H xs us Q I r h
  obtain ⟨i, rfl, q⟩ := h
  obtain ⟨u, rfl, t, rfl⟩ := vals1 r
  exact call_abs_int fun u tk => ⟨.int (if i < 0 then -i else i), H, I.tok _, ⟨_, rfl⟩, q⟩
theorem call_max2 (hc : X.calm = true) : CallR X (.builtin "max") (fun xs H Q => ∃ i j, xs = [.int i, .int j] ∧ Q (.int (if j > i then j else i)) H) := by
  intro pins s σ H xs us Q I r h
  obtain ⟨i, j, rfl, q⟩ := h
  obtain ⟨u, w', rfl, ⟨t, rfl⟩, ⟨t', rfl⟩⟩ := vals2 r
  refine max_two_ints (I.ok.hd hc) fun h' tk k => ⟨_, H, I.kept k, ?_, q⟩
  by_cases hj : j > i
  · rw [if_pos hj, if_pos hj]; exact ⟨_, rfl⟩
  · rw [if_neg hj, if_neg hj]; exact ⟨_, rfl⟩
theorem call_min2 (hc : X.calm = true) : CallR X (.builtin "min") (fun xs H Q => ∃ i j, xs = [.int i, .int j] ∧ Q (.int (if j < i then j else i)) H) := by
  intro pins s σ H xs us Q I r h
  obtain ⟨i, j, rfl, q⟩ := h
  obtain ⟨u, w', rfl, ⟨t, rfl⟩, ⟨t', rfl⟩⟩ := vals2 r
  refine min_two_ints (I.ok.hd hc) fun h' tk k => ⟨_, H, I.kept k, ?_, q⟩
  by_cases hj : j < i
  · rw [if_pos hj, if_pos hj]; exact ⟨_, rfl⟩
  · rw [if_neg hj, if_neg hj]; exact ⟨_, rfl⟩
theorem call_int1 : CallR X (.type "int") (fun xs H Q => (∃ i, xs = [.int i] ∧ Q (.int i) H) ∨ ∃ k, xs = [.bl k] ∧ Q (.int (if k then 1 else 0)) H) := by
  intro pins s σ H xs us Q I r h
  rcases h with ⟨i, rfl, q⟩ | ⟨k, rfl, q⟩
  · obtain ⟨u, rfl, t, rfl⟩ := vals1 r
    exact call_int_int ⟨.int i, H, I, ⟨_, rfl⟩, q⟩
  · obtain ⟨u, rfl, r1⟩ := vals1 r
    cases r1
    exact call_int_bool ⟨.int (if k then 1 else 0), H, I.tok _, ⟨_, rfl⟩, q⟩
theorem call_bool1 : CallR X (.type "bool") (fun xs H Q => (∃ i, xs = [.int i] ∧ Q (.bl (i != 0)) H) ∨ ∃ k, xs = [.bl k] ∧ Q (.bl k) H) := by
  intro pins s σ H xs us Q I r h
  rcases h with ⟨i, rfl, q⟩ | ⟨k, rfl, q⟩
  · obtain ⟨u, rfl, t, rfl⟩ := vals1 r
    exact call_bool_int ⟨.bl (i != 0), H, I, rfl, q⟩
  · obtain ⟨u, rfl, r1⟩ := vals1 r
    cases r1
    exact call_bool_bool ⟨.bl k, H, I, rfl, q⟩
theorem call_str_int : CallR X (.type "str") (fun xs H Q => ∃ i, xs = [.int i] ∧ i.natAbs.log2 < 1920 ∧ Q (.str (toString i)) H) := by
  intro pins s σ H xs us Q I r h
  obtain ⟨i, rfl, hz, q⟩ := h
  obtain ⟨u, rfl, t, rfl⟩ := vals1 r
  exact PySem.P.str_of_int hz ⟨.str _, H, I.tok _, ⟨_, rfl⟩, q⟩
theorem call_ord : CallR X (.builtin "ord") (fun xs H Q => ∃ x, xs = [.str x] ∧ x.length = 1 ∧ Q (.int (x.cps.getD 0 0 : Nat)) H) := by
  intro pins s σ H xs us Q I r h
  obtain ⟨x, rfl, hz, q⟩ := h
  obtain ⟨u, rfl, t, rfl⟩ := vals1 r
  exact ord_of_one hz ⟨.int _, H, I.tok _, ⟨_, rfl⟩, q⟩
theorem call_chr : CallR X (.builtin "chr") (fun xs H Q => ∃ i, xs = [.int i] ∧ 0 ≤ i ∧ i ≤ 1114111 ∧ Q (.str ⟨#[i.toNat]⟩) H) := by
  intro pins s σ H xs us Q I r h
  obtain ⟨i, rfl, h0, h1, q⟩ := h
  obtain ⟨u, rfl, t, rfl⟩ := vals1 r
  exact chr_of_range h0 h1 ⟨.str _, H, I.tok _, ⟨_, rfl⟩, q⟩
/-- len of a str, a bytes, a list, a tuple -/
def LenV (K : PySem.W.Frag) (x : V) (H : Hp) (n : Nat) : Prop :=
  match x with
  | .str y => y.length ≤ sizeLine ∧ n = y.length
  | .byt y => y.size ≤ sizeLine ∧ n = y.size
  | .ref p => (∃ xs, SqL K H p xs ∧ n = xs.length) ∨ ∃ xs, SqT K H p xs ∧ n = xs.length
  | _ => False
theorem call_len : CallR X (.builtin "len") (fun xs H Q => ∃ x n, xs = [x] ∧ LenV X.K x H n ∧ Q (.int n) H) := by
  intro pins s σ H xs us Q I r h
  obtain ⟨x, n, rfl, e, q⟩ := h
  obtain ⟨u, rfl, rx⟩ := vals1 r
  have hl := line63
  have hs : sizeLine = 16777216 := sizeLine_eq
  cases x with
  | str y =>
    obtain ⟨t, rfl⟩ := rx
    obtain ⟨hy, e'⟩ : y.length ≤ sizeLine ∧ n = y.length := e
    subst e'
    exact len_str (by omega) ⟨.int _, H, I.tok _, ⟨_, rfl⟩, q⟩
  | byt y =>
    obtain ⟨t, rfl⟩ := rx
    obtain ⟨hy, e'⟩ : y.size ≤ sizeLine ∧ n = y.size := e
    subst e'
    exact PySem.W.len_bytes (by omega) ⟨.int _, H, I.tok _, ⟨_, rfl⟩, q⟩
  | ref p =>
    cases rx
    have e' : (∃ xs, SqL X.K H p xs ∧ n = xs.length) ∨ ∃ xs, SqT X.K H p xs ∧ n = xs.length := e
    rcases e' with ⟨xs, hx, e'⟩ | ⟨xs, hx, e'⟩
    · subst e'
      obtain ⟨its, r', pl, hz⟩ := I.list hx
      have hlen := r'.length
      exact Calls.call_len_list pl.isList (by simp only [List.size_toArray]; omega) ⟨.int xs.length, H, I.tok _, ⟨_, by simp only [List.size_toArray]; rw [hlen]⟩, q⟩
    · subst e'
      obtain ⟨its, r', pl, hz⟩ := I.tuple hx
      have hlen := r'.length
      exact len_tuple pl (by simp only [List.size_toArray]; omega) ⟨.int xs.length, H, I.tok _, ⟨_, by simp only [List.size_toArray]; rw [hlen]⟩, q⟩
  | _ => exact (show False from e).elim
/-- divmod: a new tuple -/
theorem call_divmod : CallR X (.builtin "divmod") (fun xs H Q => ∃ i j, xs = [.int i, .int j] ∧ CDiv i j ∧ ∀ p, H p = none → Q (.ref p) (upd H p (.tup [.int (i / j), .int (i % j)]))) := by
  intro pins s σ H xs us Q I r h
  obtain ⟨i, j, rfl, ⟨h1, h2⟩, q⟩ := h
  obtain ⟨u, w', rfl, ⟨t, rfl⟩, ⟨t', rfl⟩⟩ := vals2 r
  refine divmod_int (by omega) ?_ (.inl (PyProof.noPylong_small (by omega)))
  rw [Int.fdiv_eq_ediv_of_nonneg i (by omega), Int.fmod_eq_emod_of_nonneg i (by omega)]
  have hn : H s.heap.objs.size = none := I.hok.fresh (Nat.le_refl _)
  refine ⟨.ref s.heap.objs.size, _, ?_, rfl, q _ hn⟩
  refine I.laid (fun b o e => Heap.get?_push_of_some _ e) (Nat.le_refl _) ⟨by simp only [List.length_cons, List.length_nil]; rw [sizeLine_eq]; decide, [.int (i / j) s.toks, .int (i % j) (s.toks + 1)], .cons ⟨_, rfl⟩ (.cons ⟨_, rfl⟩ .nil), ?_⟩
  exact ⟨_, Heap.get?_push_size s.heap rfl, rfl, 0, rfl⟩
end
end L2

namespace L2
open PySem PySem.Spec PyProof.Rows

/-! ### an instance, its attributes a map -/
structure ObjM (h : Heap) (x dx C : Addr) (mA : Str → Option Value) : Prop where
  obj : h.get? x = some (PySem.W.instObj C dx)
  ns : h.Ns1 dx mA
  ne : dx ≠ x

theorem lookIn_ns {h : Heap} {dx : Addr} {mA : Str → Option Value} (n : h.Ns1 dx mA) : ∃ od, h.get? dx = some od ∧ ∀ name, PySem.W.lookIn name od = some (mA name) := by
  obtain ⟨o, es, ep, ho, hd, hk, _, hm⟩ := n
  refine ⟨o, ho, fun name => ?_⟩
  have e := hm name
  unfold nsFind findBy at e
  rw [← Array.find?_toList] at e
  unfold PySem.W.lookIn
  rw [hd]
  dsimp only
  split
  · rename_i y q
    rw [q] at e
    exact congrArg some e
  · rename_i q
    rw [q] at e
    have a : es.toList.any (·.refKey) = false := by
      rw [List.any_eq_false]
      intro y hy
      obtain ⟨z, t, hkey⟩ := hk y (Array.mem_toList_iff.mp hy)
      simp [DictEntry.refKey, hkey]
    have a' : ¬ es.toList.any (·.refKey) = true := by rw [a]; exact Bool.false_ne_true
    rw [if_neg a']
    exact congrArg some e

theorem ObjM.look {h : Heap} {x dx C : Addr} {mA : Str → Option Value} (I : ObjM h x dx C mA) : ∃ od, PySem.W.InstAt h x (PySem.W.instObj C dx) C (some od) ∧ ∀ name, PySem.W.lookIn name od = some (mA name) :=
  let ⟨od, ho, hl⟩ := lookIn_ns I.ns
  ⟨od, ⟨I.obj, rfl, rfl, ho⟩, hl⟩

section
variable {prog : Program} {w : World} {A : Around} {E : Value → Shared → Prop} {s : Shared} {K : PySem.W.Frag} {x dx C f : Addr} {mA : Str → Option Value} {name : Str} {v : Value}

theorem get_map {expr : Bool} {Q : Value → Shared → Prop} (X : K.In s.heap) (I : ObjM s.heap x dx C mA) (hg : PySem.W.plainGet K C name = true) (hh : PySem.W.hasDictIn K C = true)
    (ha : PySem.W.findIn K (.ref C) name = some none) (hv : mA name = some v) (hv' : PySem.W.handedIn v = true) (h : Q v { s with toks := s.toks + 1 }) :
    wpAny (model prog w) A (getAttr (.ref x) name expr) Q E s := by
  obtain ⟨od, J, hl⟩ := I.look
  exact PySem.W.get_value X J (PySem.W.plainGet_of hg).1 (PySem.W.findObj_own hh ha rfl (by rw [hl, hv])) hv' h

theorem get_const {expr : Bool} {a : Value} {Q : Value → Shared → Prop} (X : K.In s.heap) (I : ObjM s.heap x dx C mA) (hg : PySem.W.plainGet K C name = true) (hh : PySem.W.hasDictIn K C = true)
    (ha : PySem.W.findIn K (.ref C) name = some (some a)) (hn : PySem.W.specialIn K a "__get__" = some none) (hc : PySem.W.copiedNames.contains name = false) (hv : mA name = none) (hv' : PySem.W.handedIn a = true)
    (h : Q a { s with toks := s.toks + 1 }) : wpAny (model prog w) A (getAttr (.ref x) name expr) Q E s := by
  obtain ⟨od, J, hl⟩ := I.look
  exact PySem.W.get_value X J (PySem.W.plainGet_of hg).1 (PySem.W.findObj_cls hh ha hn hv' hc (by rw [hl, hv])) hv' h

theorem get_meth {pl : Sem Bool} {Q : Value × List Value → Shared → Prop} (X : K.In s.heap) (I : ObjM s.heap x dx C mA) (hg : PySem.W.plainGet K C name = true)
    (hf : PySem.W.findIn K (.ref C) name = some (some (.ref f))) (ht : PySem.W.isFn K (.ref f) = true) (hv : mA name = none) (h : Q (.ref f, [.ref x]) s) :
    wpAny (model prog w) A (getMethod (.ref x) name pl) Q E s := by
  obtain ⟨od, J, hl⟩ := I.look
  exact PySem.W.method_fn X J (PySem.W.plainGet_of hg).1 (PySem.W.plainGet_of hg).2 hf (beq_iff_eq.mp ht) (by show (PySem.W.lookIn name od).map (·.isSome) = some false; rw [hl, hv]; rfl) h

theorem set_map {ns : List Str} {Q : Unit → Shared → Prop} (X : K.In s.heap) (I : ObjM s.heap x dx C mA)
    (hs : PySem.W.findIn K (.ref C) "__setattr__" = some (some (.builtin "object.__setattr__"))) (hp : PySem.W.plainOver K C = true) (ht : PySem.W.takerIn K C name = some none) (hh : PySem.W.hasDictIn K C = true)
    (hw : PySem.Within mA ns) (hsz : ns.length ≤ sizeLine)
    (h : ∀ h', ObjM h' x dx C (fun y => if y = name then some v else mA y) → Heap.SameBut dx s.heap h' → Q () { s with heap := h', toks := s.toks + 2 }) :
    wpAny (model prog w) A (setAttr (.ref x) name v) Q E s := by
  obtain ⟨od, J, hl⟩ := I.look
  refine PySem.W.set_plain X J hs (PySem.W.osa_open (s := { s with toks := s.toks + 1 }) (r := none) X J hp ht fun b => ?_)
  obtain ⟨cd, hc, hd'⟩ := PySem.W.any_some hh
  have hx : s.heap.get? x = some ⟨.ref C, some dx, .plain, #[]⟩ := I.obj
  refine wpAny_bind (wpAny_pure (wpAny_bind (wpAny_bind (wpAny_loadPart hx (wpAny_bind (PySem.W.Looks.here (s := { s with toks := s.toks + 1 }) (PySem.W.looks_clsIn X hc) ?_))))))
  rw [hd']
  refine wpAny_pure (a := some dx) (wpAny_bind (wpAny_pure (wpAny_bind ?_)))
  refine wpAny_nsSet1 (s := { s with toks := s.toks + 1 }) I.ns fun h' hn2 hs2 => ?_
  obtain ⟨oD, esD, epD, hoD, hdD, hcD⟩ := hn2.count (PySem.Within.cons name v hw)
  refine wpAny_bind (wpAny_lookBehind hoD (by rw [hdD]; exact pastItsLine_dict (Nat.le_trans hcD (by rw [List.length_cons]; omega))) ?_)
  exact wpAny_pure (h _ ⟨(hs2.2 _ (Ne.symm I.ne)).trans I.obj, hn2, I.ne⟩ hs2)

/-- C(..): the dict at the heap's end, the instance behind it; then its __init__ -/
theorem make_map {R : Result → Shared → Prop} {vs : List Value} {kw : List (Str × Value)} (X : K.In s.heap) (hm : PySem.W.makesIn K C = true)
    (hi : PySem.W.findIn K (.ref C) "__init__" = some (some (.ref f))) (hf : PySem.W.typeIn K (.ref f) = some (.type "function"))
    (h : codeAny (model prog w) (A.under (.builtin "type.__call__" ⟨.ref C :: vs, kw⟩)) (.call (.ref f) ⟨.ref (s.heap.objs.size + 1) :: vs, kw⟩) (PySem.W.InitBack (s.heap.objs.size + 1) R)
      { s with heap := (s.heap.push PySem.W.emptyDict).push (PySem.W.instObj C s.heap.objs.size) }) :
    codeAny (model prog w) A (.call (.ref C) ⟨vs, kw⟩) R s := by
  obtain ⟨hh, g, d, t, os⟩ := s
  exact PySem.W.make_core (PySem.W.makes_of X hm) (PySem.W.looks_findIn X hi) (fun self => PySem.W.bind_fn X self hf) (.inl rfl) h
/-- C() where there is no __init__ but object's -/
theorem make_map0 {R : Result → Shared → Prop} (X : K.In s.heap) (hm : PySem.W.makesIn K C = true)
    (hi : PySem.W.findIn K (.ref C) "__init__" = some (some (.builtin "object.__init__")))
    (hb : ∀ self, PySem.W.Looks (model prog w) s.heap (bindSpecial (.builtin "object.__init__") self) (.builtin "object.__init__", [self]))
    (h : codeAny (model prog w) (A.under (.builtin "type.__call__" ⟨[.ref C], []⟩)) (.call (.builtin "object.__init__") ⟨[.ref (s.heap.objs.size + 1)], []⟩) (PySem.W.InitBack (s.heap.objs.size + 1) R)
      { s with heap := (s.heap.push PySem.W.emptyDict).push (PySem.W.instObj C s.heap.objs.size) }) :
    codeAny (model prog w) A (.call (.ref C) ⟨[], []⟩) R s := by
  obtain ⟨hh, g, d, t, os⟩ := s
  exact PySem.W.make_core (PySem.W.makes_of X hm) (PySem.W.looks_findIn X hi) hb (.inr ⟨rfl, rfl⟩) h
end

/-! ### the attributes as a list of pairs -/
def putF (f : Str) (v : V) : List (Str × V) → List (Str × V)
  | [] => [(f, v)]
  | (g, x) :: r => if g = f then (g, v) :: r else (g, x) :: putF f v r
theorem lookup_putF (f g : Str) (v : V) : ∀ fs : List (Str × V), (putF f v fs).lookup g = if g = f then some v else fs.lookup g
  | [] => by
    show List.lookup g [(f, v)] = _
    by_cases h : g = f
    · have hb : (g == f) = true := beq_iff_eq.mpr h
      simp only [List.lookup, hb, if_pos h]
    · have hb : (g == f) = false := beq_eq_false_iff_ne.mpr h
      simp only [List.lookup, hb, if_neg h]
  | (k, x) :: r => by
    have ih := lookup_putF f g v r
    rw [show putF f v ((k, x) :: r) = (if k = f then (k, v) :: r else (k, x) :: putF f v r) from rfl]
    by_cases hk : k = f
    · rw [if_pos hk]
      by_cases h : g = k
      · have hb : (g == k) = true := beq_iff_eq.mpr h
        simp only [List.lookup, hb, if_pos (h.trans hk)]
      · have hb : (g == k) = false := beq_eq_false_iff_ne.mpr h
        simp only [List.lookup, hb, if_neg (fun e : g = f => h (e.trans hk.symm))]
    · rw [if_neg hk]
      by_cases h : g = k
      · have hb : (g == k) = true := beq_iff_eq.mpr h
        simp only [List.lookup, hb, if_neg (fun e : g = f => hk (h.symm.trans e))]
      · have hb : (g == k) = false := beq_eq_false_iff_ne.mpr h
        simp only [List.lookup, hb]
        exact ih
theorem keys_putF (f : Str) (v : V) : ∀ fs : List (Str × V), f ∈ (putF f v fs).map (·.1) ∧ ∀ g, g ∈ fs.map (·.1) → g ∈ (putF f v fs).map (·.1)
  | [] => ⟨by simp [putF], fun g h => by simp at h⟩
  | (k, x) :: r => by
    obtain ⟨i1, i2⟩ := keys_putF f v r
    rw [show putF f v ((k, x) :: r) = (if k = f then (k, v) :: r else (k, x) :: putF f v r) from rfl]
    by_cases hk : k = f
    · rw [if_pos hk]
      subst hk
      exact ⟨by simp, fun g h => by simpa using h⟩
    · rw [if_neg hk]
      refine ⟨?_, fun g h => ?_⟩
      · rw [List.map_cons]
        exact List.mem_cons_of_mem _ i1
      · rw [List.map_cons] at h ⊢
        rcases List.mem_cons.mp h with e | e
        · exact List.mem_cons.mpr (.inl e)
        · exact List.mem_cons_of_mem _ (i2 g e)
theorem length_putF (f : Str) (v : V) : ∀ fs : List (Str × V), (putF f v fs).length ≤ fs.length + 1
  | [] => by simp [putF]
  | (k, x) :: r => by
    have ih := length_putF f v r
    rw [show putF f v ((k, x) :: r) = (if k = f then (k, v) :: r else (k, x) :: putF f v r) from rfl]
    by_cases hk : k = f
    · rw [if_pos hk, List.length_cons, List.length_cons]; omega
    · rw [if_neg hk, List.length_cons, List.length_cons]; omega

theorem RelO.some_of {v : V} {o : Option Value} (r : RelO (some v) o) : ∃ u, o = some u ∧ RelV v u := by
  cases o with
  | none => exact (show False from r).elim
  | some u => exact ⟨u, rfl, r⟩
theorem RelO.none_of {o : Option Value} (r : RelO none o) : o = none := by
  cases o with
  | none => rfl
  | some u => exact (show False from r).elim
theorem handed_of {v : V} {u : Value} (r : RelV v u) : PySem.W.handedIn u = true := by
  cases v with
  | non => cases (show u = Value.none from r); rfl
  | bl b => cases (show u = Value.bool b from r); rfl
  | int i => obtain ⟨t, e⟩ := (show ∃ t, u = Value.int i t from r); cases e; rfl
  | str x => obtain ⟨t, e⟩ := (show ∃ t, u = Value.str x t from r); cases e; rfl
  | byt b => obtain ⟨t, e⟩ := (show ∃ t, u = Value.bytes b t from r); cases e; rfl
  | flt b => obtain ⟨t, e⟩ := (show ∃ t, u = Value.float b t from r); cases e; rfl
  | ref a => cases (show u = Value.ref a from r); rfl
  | ty n => cases (show u = Value.type n from r); rfl

section
variable {P : Program} {w : World} {H H' : Hp} {h h' : Heap} {a C dx : Addr} {fs fs' : List (Str × V)}
theorem ins_get (hok : HOk P w H h) (e : H a = some (.ins C dx fs)) : ∃ mA, ObjM h a dx C mA ∧ (∀ f, RelO (fs.lookup f) (mA f)) ∧ PySem.Within mA (fs.map (·.1)) ∧ fs.length ≤ 1000 ∧ H dx = some (.own a) := by
  obtain ⟨d, z, ne, ob, mA, n, r, q⟩ := (show ObjOk P w H h a (.ins C dx fs) from hok a _ e)
  exact ⟨mA, ⟨ob, n, ne⟩, r, q, z, d⟩
end

/-! ### what of the text a class must have -/
structure Cls (K : PySem.W.Frag) (C : Addr) : Prop where
  pg : PySem.W.plainGet K C Str.empty = true
  hd : PySem.W.hasDictIn K C = true
  po : PySem.W.plainOver K C = true
  sa : PySem.W.findIn K (.ref C) "__setattr__" = some (some (.builtin "object.__setattr__"))
theorem Cls.get {K : PySem.W.Frag} {C : Addr} (c : Cls K C) (f : Str) : PySem.W.plainGet K C f = true := c.pg
/-- no class of it has the name -/
def NoAttr (K : PySem.W.Frag) (C : Addr) (f : Str) : Prop := PySem.W.findIn K (.ref C) f = some none
theorem NoAttr.taker {K : PySem.W.Frag} {C : Addr} {f : Str} (n : NoAttr K C f) : PySem.W.takerIn K C f = some none := by
  unfold PySem.W.takerIn
  rw [show PySem.W.findIn K (.ref C) f = some none from n]
  rfl
/-- a constant of the class -/
structure Con (K : PySem.W.Frag) (C : Addr) (f : Str) (v : V) (u : Value) : Prop where
  at_ : PySem.W.findIn K (.ref C) f = some (some u)
  rel : RelV v u
  get : PySem.W.specialIn K u "__get__" = some none
  cp : PySem.W.copiedNames.contains f = false
/-- a method: a plain def of the class or of one above it -/
structure Meth (K : PySem.W.Frag) (C : Addr) (m : Str) (f : Addr) : Prop where
  at_ : PySem.W.findIn K (.ref C) m = some (some (.ref f))
  fn : PySem.W.isFn K (.ref f) = true
  kp : PySem.W.keepIn K (.ref f) = true

section
variable {X : Cx} {pins : List (Addr × Obj)} {σ : St} {H : Hp} {s : Shared} {a C dx : Addr} {fs : List (Str × V)} {f : Str} {v : V} {A : Around} {E : Value → Shared → Prop}

theorem getattr_ok {b : Bool} {Q : Value → Shared → Prop} (I : Inv X pins σ H s) (e : H a = some (.ins C dx fs)) (c : Cls X.K C) (n : NoAttr X.K C f) (l : fs.lookup f = some v)
    (h : ∀ u s', Inv X pins σ H s' → RelV v u → Q u s') : wpAny (model X.prog X.w) A (getAttr (.ref a) f b) Q E s := by
  obtain ⟨mA, O, r, _, _, _⟩ := ins_get I.hok e
  obtain ⟨u, hu, ru⟩ := RelO.some_of (v := v) (o := mA f) (by rw [← l]; exact r f)
  exact get_map I.kIn O (c.get f) c.hd n hu (handed_of ru) (h u _ (I.tok _) ru)

theorem getcon_ok {b : Bool} {u : Value} {Q : Value → Shared → Prop} (I : Inv X pins σ H s) (e : H a = some (.ins C dx fs)) (c : Cls X.K C) (k : Con X.K C f v u) (l : fs.lookup f = none)
    (h : ∀ s', Inv X pins σ H s' → Q u s') : wpAny (model X.prog X.w) A (getAttr (.ref a) f b) Q E s := by
  obtain ⟨mA, O, r, _, _, _⟩ := ins_get I.hok e
  have hn : mA f = none := RelO.none_of (by rw [← l]; exact r f)
  exact get_const I.kIn O (c.get f) c.hd k.at_ k.get k.cp hn (handed_of k.rel) (h _ (I.tok _))

theorem getmeth_ok {m : Str} {g : Addr} {pl : Sem Bool} {Q : Value × List Value → Shared → Prop} (I : Inv X pins σ H s) (e : H a = some (.ins C dx fs)) (c : Cls X.K C) (k : Meth X.K C m g) (l : fs.lookup m = none)
    (h : Q (.ref g, [.ref a]) s) : wpAny (model X.prog X.w) A (getMethod (.ref a) m pl) Q E s := by
  obtain ⟨mA, O, r, _, _, _⟩ := ins_get I.hok e
  have hn : mA m = none := RelO.none_of (by rw [← l]; exact r m)
  exact get_meth I.kIn O (c.get m) k.at_ k.fn hn h

theorem setattr_ok {y : V} {u : Value} {Q : Unit → Shared → Prop} (I : Inv X pins σ H s) (e : H a = some (.ins C dx fs)) (c : Cls X.K C) (n : NoAttr X.K C f) (hl : fs.length < 1000) (ry : RelV y u)
    (h : ∀ s', Inv X pins σ (upd H a (.ins C dx (putF f y fs))) s' → Q () s') : wpAny (model X.prog X.w) A (setAttr (.ref a) f u) Q E s := by
  obtain ⟨mA, O, r, wi, _, ho⟩ := ins_get I.hok e
  have hz : (fs.map (·.1)).length ≤ sizeLine := by rw [List.length_map, sizeLine_eq]; omega
  refine set_map I.kIn O c.sa c.po n.taker c.hd wi hz fun h' O' sb => h _ ?_
  have hd : ∃ o, h'.get? dx = some o := let ⟨o, _, _, e', _⟩ := O'.ns; ⟨o, e'⟩
  refine I.write (x := a) (e := dx) (by rw [e]; exact True.intro) (.inr ho) (fun b q hb z => (sb.2 b hb).trans z) hd ?_
  refine ⟨by rw [upd_ne O.ne]; exact ho, ?_, O.ne, O'.obj, _, O'.ns, fun g => ?_, fun g hg => ?_⟩
  · have := length_putF f y fs; omega
  · show RelO ((putF f y fs).lookup g) (if g = f then some u else mA g)
    rw [lookup_putF]
    by_cases q : g = f
    · rw [if_pos q, if_pos q]; exact ry
    · rw [if_neg q, if_neg q]; exact r g
  · by_cases q : g = f
    · rw [q]; exact (keys_putF f y fs).1
    · refine (keys_putF f y fs).2 g (wi g fun z => hg ?_)
      show (if g = f then some u else mA g) = none
      rw [if_neg q]; exact z

/-- a new instance, tracked, without attributes -/
theorem Inv.made (I : Inv X pins σ H s) : Inv X pins σ (upd (upd H s.heap.objs.size (.own (s.heap.objs.size + 1))) (s.heap.objs.size + 1) (.ins C s.heap.objs.size []))
    { s with heap := (s.heap.push PySem.W.emptyDict).push (PySem.W.instObj C s.heap.objs.size) } := by
  have e1 : (s.heap.push PySem.W.emptyDict).get? s.heap.objs.size = some PySem.W.emptyDict := Heap.get?_push_size s.heap rfl
  have e2 : ((s.heap.push PySem.W.emptyDict).push (PySem.W.instObj C s.heap.objs.size)).get? (s.heap.objs.size + 1) = some (PySem.W.instObj C s.heap.objs.size) := by
    have := Heap.get?_push_size (s.heap.push PySem.W.emptyDict) (o := PySem.W.instObj C s.heap.objs.size) rfl
    rwa [Heap.size_push] at this
  have e3 : (s.heap.push PySem.W.emptyDict).Ns s.heap.objs.size (fun _ => none) := ⟨PySem.W.emptyDict, #[], _, e1, rfl, (fun e he => absurd he (by simp)), fun _ => rfl⟩
  have I1 := I.laid (a := s.heap.objs.size) (o := .own (s.heap.objs.size + 1)) (h' := s.heap.push PySem.W.emptyDict) (t' := s.toks) (fun b u q => Heap.get?_push_of_some _ q) (Nat.le_refl _) ⟨_, e1⟩
  refine I1.laid (a := s.heap.objs.size + 1) (o := .ins C s.heap.objs.size []) (t' := s.toks) (fun b u q => Heap.get?_push_of_some _ q) (Nat.le_of_eq (Heap.size_push _ _)) ?_
  have ne : s.heap.objs.size ≠ s.heap.objs.size + 1 := Nat.ne_of_lt (Nat.lt_succ_self _)
  refine ⟨by rw [upd_ne ne, upd_same], Nat.zero_le _, ne, e2, fun _ => none, (Heap.Ns1.of_empty e3).at fun o q => Heap.get?_push_of_some _ q, fun _ => True.intro, fun y hy => absurd rfl hy⟩

/-- e.f where nothing but the object is asked: through attributeBase (super) and the last hold -/
theorem attr_of {prog : Program} {w : World} {env : Env} {e : Expr} {f : Str} {pos : Pos} {s : Shared} {Q : Value → Shared → Prop} (hb : attributeBase e f env (eval e env) = eval e env)
    (h : wpAny (model prog w) A (eval e env) (fun o s₁ => wpAny (model prog w) A (getAttr o f true) Q E s₁) E s) : wpAny (model prog w) A (eval (.Attribute e f pos) env) Q E s :=
  Attribute_any_ h (by rw [arm_eval_Attribute, hb])
end

/-! ### readings and rules -/
/-- e.f, an attribute of the instance -/
def tFld (K : PySem.W.Frag) (ta : TE) (f : Str) : TE := fun σ H Q => ta σ H fun x H1 => ∃ a C dx fs v, x = .ref a ∧ H1 a = some (.ins C dx fs) ∧ Cls K C ∧ NoAttr K C f ∧ fs.lookup f = some v ∧ Q v H1
/-- e.f, a constant of the class -/
def tCon (K : PySem.W.Frag) (ta : TE) (f : Str) : TE := fun σ H Q => ta σ H fun x H1 => ∃ a C dx fs v u, x = .ref a ∧ H1 a = some (.ins C dx fs) ∧ Cls K C ∧ Con K C f v u ∧ fs.lookup f = none ∧ Q v H1
/-- e.f = value -/
def sFld (K : PySem.W.Frag) (ta tv : TE) (f : Str) : TS := fun D σ H => tv σ H fun y H1 => ta σ H1 fun x H2 => ∃ a C dx fs, x = .ref a ∧ H2 a = some (.ins C dx fs) ∧ Cls K C ∧ NoAttr K C f ∧ fs.length < 1000 ∧
  D.nx σ (upd H2 a (.ins C dx (putF f y fs)))
/-- an augmented operator on two values -/
def InOp (X : Cx) (op : Operator) (rd : V → V → Hp → VK → Prop) : Prop :=
  ∀ (pins : List (Addr × Obj)) (s : Shared) (σ : St) (H : Hp) (x y : V) (u v : Value) (Q : VK), Inv X pins σ H s → RelV x u → RelV y v → rd x y H Q → wpAny (model X.prog X.w) X.A (inplaceOp op u v) (EP X pins σ Q) X.xe s
/-- e.f op= value -/
def sFldAug (K : PySem.W.Frag) (ta tv : TE) (rd : V → V → Hp → VK → Prop) (f : Str) : TS := fun D σ H => ta σ H fun x H1 => ∃ a C dx fs v, x = .ref a ∧ H1 a = some (.ins C dx fs) ∧ Cls K C ∧ NoAttr K C f ∧ fs.lookup f = some v ∧
  tv σ H1 fun y H2 => rd v y H2 fun z H3 => ∃ dx' fs', H3 a = some (.ins C dx' fs') ∧ fs'.length < 1000 ∧ D.nx σ (upd H3 a (.ins C dx' (putF f z fs')))

section
variable {X : Cx} {o e value : Expr} {f : Str} {pos pos' tpos : Pos} {ta tv : TE}
theorem pe_fld (he : PE X e ta) (hb : attributeBase e f X.env (eval e X.env) = eval e X.env) : PE X (.Attribute e f pos) (tFld X.K ta f) := by
  intro pins s σ H Q I h
  refine attr_of hb (thn (he pins s σ H _ I h) fun u s1 ⟨x, H1, I1, rx, a, C, dx, fs, v, ex, ea, c, n, l, q⟩ => ?_)
  subst ex
  obtain rfl : u = Value.ref a := rx
  exact getattr_ok I1 ea c n l fun u' s2 I2 ru => ⟨v, H1, I2, ru, q⟩
theorem pe_con (he : PE X e ta) (hb : attributeBase e f X.env (eval e X.env) = eval e X.env) : PE X (.Attribute e f pos) (tCon X.K ta f) := by
  intro pins s σ H Q I h
  refine attr_of hb (thn (he pins s σ H _ I h) fun u s1 ⟨x, H1, I1, rx, a, C, dx, fs, v, u0, ex, ea, c, k, l, q⟩ => ?_)
  subst ex
  obtain rfl : u = Value.ref a := rx
  exact getcon_ok I1 ea c k l fun s2 I2 => ⟨v, H1, I2, k.rel, q⟩
theorem ps_fld (ha : PE X o ta) (hv : PE X value tv) (hs : swapsWith value (some (.Attribute o f pos')) pos.line X.env = pure false) : PS X (.Assign [.Attribute o f pos'] value pos) (sFld X.K ta tv f) := by
  intro pins s σ H D I h
  refine plainObj_wpAny_Assign_Attribute (thn (hv pins s σ H _ I h) fun u s1 ⟨y, H1, I1, ry, q⟩ => thn (ha pins s1 σ H1 _ I1 q) fun ov s2 ⟨x, H2, I2, rx, a, C, dx, fs, ex, ea, c, n, l, q2⟩ => ?_) hs
  subst ex
  obtain rfl : ov = Value.ref a := rx
  exact setattr_ok I2 ea c n l ry fun s3 I3 => ⟨σ, _, I3, q2⟩
theorem ps_fldaug {op : Operator} {rd : V → V → Hp → VK → Prop} (ha : PE X o ta) (hv : PE X value tv) (hop : InOp X op rd) : PS X (.AugAssign (.Attribute o f tpos) op value pos) (sFldAug X.K ta tv rd f) := by
  intro pins s σ H D I h
  refine wpAny_AugAssign_AttributeAny (thn (ha pins s σ H _ I h) fun ov s1 ⟨x, H1, I1, rx, a, C, dx, fs, v, ex, ea, c, n, l, q⟩ => ?_)
  subst ex
  obtain rfl : ov = Value.ref a := rx
  refine getattr_ok I1 ea c n l fun u s2 I2 ru => thn (hv pins s2 σ H1 _ I2 q) fun w3 s3 ⟨y, H2, I3, ry, q3⟩ => thn (hop pins s3 σ H2 v y u w3 _ I3 ru ry q3) fun w4 s4 ⟨z, H3, I4, rz, dx', fs', ea', l', q4⟩ => ?_
  exact setattr_ok I4 ea' c n l' rz fun s5 I5 => ⟨σ, _, I5, q4⟩
def rAdd : V → V → Hp → VK → Prop := fun x y H Q => ∃ i j, x = .int i ∧ y = .int j ∧ Q (.int (i + j)) H
def rSub : V → V → Hp → VK → Prop := fun x y H Q => ∃ i j, x = .int i ∧ y = .int j ∧ Q (.int (i - j)) H
theorem in_add : InOp X .Add rAdd := by
  rintro pins s σ H x y u v Q I rx ry ⟨i, j, rfl, rfl, q⟩
  obtain ⟨t, rfl⟩ := (show ∃ t, u = Value.int i t from rx)
  obtain ⟨t', rfl⟩ := (show ∃ t', v = Value.int j t' from ry)
  exact PyProof.Rows.iadd_int ⟨.int (i + j), H, I.tok _, ⟨_, rfl⟩, q⟩
theorem in_sub : InOp X .Sub rSub := by
  rintro pins s σ H x y u v Q I rx ry ⟨i, j, rfl, rfl, q⟩
  obtain ⟨t, rfl⟩ := (show ∃ t, u = Value.int i t from rx)
  obtain ⟨t', rfl⟩ := (show ∃ t', v = Value.int j t' from ry)
  exact PyProof.Rows.isub_int ⟨.int (i - j), H, I.tok _, ⟨_, rfl⟩, q⟩

/-- what is between an instance and its method: the tree of a method call -/
theorem methcall_of {pl : Sem Bool} {m : Str} {apos : Pos} {args : List Expr} {pins : List (Addr × Obj)} {s : Shared} {σ : St} {H : Hp} {Q : Value → Shared → Prop} {te : TE} (he : PE X e te) (I : Inv X pins σ H s)
    (h : te σ H fun x H1 => ∃ a C dx fs g, x = .ref a ∧ H1 a = some (.ins C dx fs) ∧ Cls X.K C ∧ Meth X.K C m g ∧ fs.lookup m = none ∧
      ∀ s1, Inv X pins σ H1 s1 → wpAny (model X.prog X.w) X.A (callWith pos (.ref g) [.ref a] (backTo pos (starEach args X.env)) (backToKw pos (keywordEach [] X.env))) Q X.xe s1)
    (ht : eval (.Call (.Attribute e m apos) args [] pos) X.env = (do
      let ov ← eval e X.env
      standAt apos.atName
      let (f, first) ← holding [ov] (getMethod ov m pl)
      callWith pos f first (backTo pos (starEach args X.env)) (backToKw pos (keywordEach [] X.env)))) :
    wpAny (model X.prog X.w) X.A (eval (.Call (.Attribute e m apos) args [] pos) X.env) Q X.xe s := by
  refine PySem.W.methodCall_KW (pl := pl) (thn (he pins s σ H _ I h) fun u s1 ⟨x, H1, I1, rx, a, C, dx, fs, g, ex, ea, c, k, l, q⟩ => ?_) ht
  subst ex
  obtain rfl : u = Value.ref a := rx
  exact getmeth_ok I1 ea c k l (q s1 I1)
end

/-! ### isinstance -/
section
variable {X : Cx} {pins : List (Addr × Obj)} {σ : St} {H : Hp} {s : Shared} {A : Around} {E : Value → Shared → Prop} {Q : Value → Shared → Prop} {c : Value} {b : Bool}
/-- the type of a value, as the fragment's deciders take it; for an instance its class -/
inductive TyOf (K : PySem.W.Frag) (H : Hp) : V → Value → Prop where
  | non : TyOf K H .non (.type "NoneType")
  | bl (x : Bool) : TyOf K H (.bl x) (.type "bool")
  | int (i : Int) : TyOf K H (.int i) (.type "int")
  | str (x : Str) : TyOf K H (.str x) (.type "str")
  | flt (x : UInt64) : TyOf K H (.flt x) (.type "float")
  | lst {a : Addr} {xs : List V} (e : H a = some (.lst xs)) : TyOf K H (.ref a) (.type "list")
  | frz {a : Addr} {o : Obj} {xs : List V} (e : H a = some (.frz o (.lst xs))) : TyOf K H (.ref a) (.type "list")
  | tup {a : Addr} {xs : List V} (e : H a = some (.tup xs)) : TyOf K H (.ref a) (.type "tuple")
  | dK {a : Addr} {kvs : List (Key × V)} (e : H a = some (.dK kvs)) : TyOf K H (.ref a) (.type "dict")
  | dT {a : Addr} {kvs : List (List Key × V)} (e : H a = some (.dT kvs)) : TyOf K H (.ref a) (.type "dict")
  | ins {a C dx : Addr} {fs : List (Str × V)} (e : H a = some (.ins C dx fs)) (cl : Cls K C) (ha : PySem.W.findIn K (.ref C) "__class__" = some (some (.builtin "object.__class__")))
      (hn : PySem.W.specialIn K (.builtin "object.__class__") "__get__" = some (some (.builtin "getset_descriptor.__get__"))) (htk : PySem.W.takesIn K (.builtin "object.__class__") = some true)
      (hm : PySem.W.mroIn K C (.type "object") = some true) : TyOf K H (.ref a) (.ref C)
/-- isinstance(x, c) for one class c, a built-in or an own one: kitOne's answer -/
theorem isinst_ok {x : V} {u t : Value} (I : Inv X pins σ H s) (rx : RelV x u) (ty : TyOf X.K H x t) (e : PySem.W.kitOne X.K t c = some b) (h : ∀ tk, Q (.bool b) { s with toks := tk }) :
    wpAny (model X.prog X.w) A (call (.builtin "isinstance") [u, c]) Q E s := by
  cases ty with
  | non => cases (show u = Value.none from rx); exact PySem.W.kia_one PySem.W.kitx_none I.kIn True.intro e (fun z => nomatch z) h
  | bl y => cases (show u = Value.bool y from rx); exact PySem.W.kia_one PySem.W.kitx_bool I.kIn True.intro e (fun z => nomatch z) h
  | int i => obtain ⟨t, q⟩ := (show ∃ t, u = Value.int i t from rx); cases q; exact PySem.W.kia_one PySem.W.kitx_int I.kIn True.intro e (fun z => nomatch z) h
  | str y => obtain ⟨t, q⟩ := (show ∃ t, u = Value.str y t from rx); cases q; exact PySem.W.kia_one PySem.W.kitx_str I.kIn True.intro e (fun z => nomatch z) h
  | flt y => obtain ⟨t, q⟩ := (show ∃ t, u = Value.float y t from rx); cases q; exact PySem.W.kia_one PySem.W.kitx_float I.kIn True.intro e (fun z => nomatch z) h
  | @lst a xs ea =>
    cases (show u = Value.ref a from rx)
    obtain ⟨_, _, n, _, h1⟩ := (show ObjOk X.prog X.w H s.heap a (.lst xs) from I.hok a _ ea)
    exact PySem.W.kia_one PySem.W.kitx_list I.kIn ⟨_, h1, rfl⟩ e (fun z => nomatch z) h
  | @frz a ob xs ea =>
    cases (show u = Value.ref a from rx)
    obtain ⟨_, _, _, n, _, h1⟩ := (show ObjOk X.prog X.w H s.heap a (.frz ob (.lst xs)) from I.hok a _ ea)
    exact PySem.W.kia_one PySem.W.kitx_list I.kIn ⟨_, h1, rfl⟩ e (fun z => nomatch z) h
  | @tup a xs ea =>
    cases (show u = Value.ref a from rx)
    obtain ⟨_, _, _, p⟩ := (show ObjOk X.prog X.w H s.heap a (.tup xs) from I.hok a _ ea)
    obtain ⟨o, h1, h2, _⟩ := p
    exact PySem.W.kia_one PySem.W.kitx_tuple I.kIn ⟨o, h1, h2⟩ e (fun z => nomatch z) h
  | @dK a kvs ea =>
    cases (show u = Value.ref a from rx)
    obtain ⟨_, _, vs, _, p⟩ := (show ObjOk X.prog X.w H s.heap a (.dK kvs) from I.hok a _ ea)
    obtain ⟨o, es, ep, h1, h2, _⟩ := p
    exact PySem.W.kia_one PySem.W.kitx_dict I.kIn ⟨o, h1, h2.1⟩ e (fun z => nomatch z) h
  | @dT a kvs ea =>
    cases (show u = Value.ref a from rx)
    obtain ⟨_, _, xs, _, o, es, ep, h1, h2, _⟩ := (show ObjOk X.prog X.w H s.heap a (.dT kvs) from I.hok a _ ea)
    exact PySem.W.kia_one PySem.W.kitx_dict I.kIn ⟨o, h1, h2.1⟩ e (fun z => nomatch z) h
  | @ins a C dx fs ea cl ha hn htk hm =>
    cases (show u = Value.ref a from rx)
    obtain ⟨mA, O, _⟩ := ins_get I.hok ea
    obtain ⟨od, J, _⟩ := O.look
    exact PySem.W.kia_one (PySem.W.kitx_own (cl.get _) cl.hd ha hn htk hm) I.kIn J e (fun z => nomatch z) h
end
end L2

namespace L2
open PySem PySem.Spec PyProof.Rows

/-! ### room -/
structure Room (k : Nat) (A : Around) : Prop where
  hd : A.handled = none
  dp : A.depth + 3 * k + 5 < recursionLimit
  un : A.units + 16 * k + 200 < cLine
theorem Room.mono {j k : Nat} {A : Around} (r : Room k A) (h : j ≤ k) : Room j A := ⟨r.hd, by have := r.dp; omega, by have := r.un; omega⟩
theorem Room.deeper {k : Nat} {A : Around} (r : Room (k + 1) A) (env : Env) : Room k (A.deeper env) :=
  ⟨r.hd, by have := r.dp; show A.depth + 1 + 3 * k + 5 < _; omega, by have := r.un; show A.units + 3 + 16 * k + 200 < _; omega⟩
theorem Room.in1 {k : Nat} {A : Around} (r : Room (k + 1) A) : Room k A.in1 :=
  ⟨r.hd, by have := r.dp; show A.depth + 3 * k + 5 < _; omega, by have := r.un; show A.units + 1 + 16 * k + 200 < _; omega⟩
theorem make_depth {A : Around} {C : Addr} {us : List Value} {kw : List (Str × Value)} : (A.under (.builtin "type.__call__" ⟨.ref C :: us, kw⟩)).depth = A.depth + 1 := by
  first | rfl | simp [Around.under, Code.weight, Code.isCreation, Code.isGuard, Code.isCaller, Code.frames, Code.isFrame, guardIds]
theorem make_units {A : Around} {C : Addr} {us : List Value} {kw : List (Str × Value)} : (A.under (.builtin "type.__call__" ⟨.ref C :: us, kw⟩)).units = A.units + 1 := by
  first | rfl | simp [Around.under, Code.cUnits, Code.frames, Code.isFrame]
theorem Room.make {k : Nat} {A : Around} (r : Room (k + 1) A) (C : Addr) (us : List Value) (kw : List (Str × Value)) : Room k (A.under (.builtin "type.__call__" ⟨.ref C :: us, kw⟩)) :=
  ⟨r.hd, by have := r.dp; rw [make_depth]; omega, by have := r.un; rw [make_units]; omega⟩
theorem Room.depth {k : Nat} {A : Around} (r : Room k A) : A.depth < recursionLimit := by have := r.dp; omega
theorem Room.units {k : Nat} {A : Around} (r : Room k A) : A.units + 64 < cLine := by have := r.un; omega
theorem Room.units0 {k : Nat} {A : Around} (r : Room k A) : A.units < cLine := by have := r.un; omega

/-! ### argument lists and displays -/
def tNil : TA := fun _ H Q => Q [] H
def tCons (ta : TE) (tr : TA) : TA := fun σ H Q => ta σ H fun x H1 => tr σ H1 fun xs H2 => Q (x :: xs) H2
section
variable {X : Cx} {e : Expr} {es : List Expr} {te : TE} {t : TA} {pos : Pos}
theorem pa_nil : PA X [] tNil := fun _ _ _ _ H Q I h => Calls.spliced_nil ⟨[], H, I, .nil, h⟩
theorem pa_cons (ha : PE X e te) (hr : PA X es t) (hs : starEach (e :: es) X.env = (false, eval e X.env) :: starEach es X.env := by rfl) : PA X (e :: es) (tCons te t) := by
  intro pos pins s σ H Q I h
  rw [hs]
  show wpAny _ _ (spliced ((false, eval e X.env) :: backTo pos (starEach es X.env))) _ _ s
  refine Calls.spliced_cons (thn (ha pins s σ H _ I h) fun u s1 ⟨x, H1, I1, r1, q1⟩ => ?_)
  exact thn (hr pos pins s1 σ H1 _ I1 q1) fun us s2 ⟨xs, H2, I2, r2, q2⟩ => ⟨x :: xs, H2, I2, .cons r1 r2, q2⟩

/-- a tuple, a list of written items -/
def tTup (t : TA) : TE := fun σ H Q => t σ H fun xs H1 => xs.length ≤ sizeLine ∧ ∀ p, H1 p = none → Q (.ref p) (upd H1 p (.tup xs))
def tLst (t : TA) : TE := fun σ H Q => t σ H fun xs H1 => xs.length ≤ sizeLine ∧ ∀ p, H1 p = none → Q (.ref p) (upd H1 p (.lst xs))
theorem pe_tup {x1} (h : PA X es t) : PE X (.Tuple es x1 pos) (tTup t) := by
  intro pins s σ H Q I hq
  refine wpAny_Tuple_spliced (thn (h pos pins s σ H _ I hq) fun us s1 ⟨xs, H1, I1, r, z, q⟩ => ⟨by rw [← r.length]; exact z, ?_⟩)
  have hf : H1 s1.heap.objs.size = none := I1.hok.fresh (Nat.le_refl _)
  refine ⟨.ref s1.heap.objs.size, upd H1 s1.heap.objs.size (.tup xs), I1.laid (t' := s1.toks) (fun b u e => Heap.get?_push_of_some _ e) (Nat.le_refl _) ?_, rfl, q _ hf⟩
  exact ⟨z, us, r, ⟨_, Heap.get?_push_size _ rfl, rfl, _, rfl⟩⟩
theorem pe_lst (h : PA X es t) : PE X (.List es pos) (tLst t) := by
  intro pins s σ H Q I hq
  refine wpAny_List_spliced (thn (h pos pins s σ H _ I hq) fun us s1 ⟨xs, H1, I1, r, z, q⟩ => ⟨by rw [← r.length]; exact z, ?_⟩)
  have hf : H1 s1.heap.objs.size = none := I1.hok.fresh (Nat.le_refl _)
  refine ⟨.ref s1.heap.objs.size, upd H1 s1.heap.objs.size (.lst xs), I1.laid (t' := s1.toks) (fun b u e => Heap.get?_push_of_some _ e) (Nat.le_refl _) ?_, rfl, q _ hf⟩
  exact ⟨z, us, 0, r, Heap.get?_push_size _ rfl⟩
end

/-! ### what a def promises -/
/-- a def's promise: the bound arguments in the parameters' order, the heap, the wanted end, the wanted exception -/
abbrev Sp := List V → Hp → VK → XK → Prop
/-- how an exception lies behind a call (file 08 gives it): the callers' frames, abstract heap and state ahead of the call, the wish, the exception, the state -/
abbrev CXT := List Env → Hp → Shared → XK → Value → Shared → Prop

/-- the state at a call -/
structure Env0 (P : Program) (w : World) (K : PySem.W.Frag) (mg : Str → Option Value) (base : Heap) (A : Around) (outer : List Env) (s : Shared) (H : Hp) : Prop where
  frames : A.frames = some outer
  mod : Mod K mg base
  bs : ∀ b o, base.get? b = some o → s.heap.get? b = some o ∧ H b = none
  bsz : base.objs.size ≤ s.heap.objs.size
  funs : s.heap.FunFrames base outer
  frf : ∀ b ∈ frs outer, H b = none
  hok : HOk P w H s.heap
  bare : AllBare s.gens
/-- a call's end -/
def CE (outer : List Env) (P : Program) (w : World) (H : Hp) (s : Shared) (Q : VK) (u : Value) (s' : Shared) : Prop :=
  ∃ v H', s'.os = s.os ∧ AllBare s'.gens ∧ Un (frs outer) [] H H' s.heap s'.heap ∧ HOk P w H' s'.heap ∧ RelV v u ∧ Q v H'
def CR (CX : CXT) (outer : List Env) (P : Program) (w : World) (H : Hp) (s : Shared) (Q : VK) (E : XK) (r : Result) (s' : Shared) : Prop :=
  match r with
  | .ok (.ret u) => CE outer P w H s Q u s'
  | .ok _ => False
  | .error e => CX outer H s E e s'
structure FnOk (P : Program) (w : World) (K : PySem.W.Frag) (mg : Str → Option Value) (base : Heap) (CX : CXT) (k : Nat) (f : Addr) (fd : FuncData) (ps : List Str) (sp : Sp) : Prop where
  len : ∀ vs H Q E, sp vs H Q E → vs.length = ps.length
  run : ∀ (A : Around) (outer : List Env) (s : Shared) (H : Hp) (args : Args) (us : List Value) (vs : List V) (Q : VK) (E : XK), Room k A → Env0 P w K mg base A outer s H → BindsTo s fd args (ps.zip us) → Vals vs us → sp vs H Q E →
    codeAny (model P w) A (.call (.ref f) args) (CR CX outer P w H s Q E) s
theorem FnOk.mono {P : Program} {w : World} {K : PySem.W.Frag} {mg : Str → Option Value} {base : Heap} {CX : CXT} {j k : Nat} {f : Addr} {fd : FuncData} {ps : List Str} {sp : Sp} (F : FnOk P w K mg base CX j f fd ps sp) (h : j ≤ k) :
    FnOk P w K mg base CX k f fd ps sp := ⟨F.len, fun A outer s H args us vs Q E hr => F.run A outer s H args us vs Q E (hr.mono h)⟩
/-- a weaker promise -/
theorem FnOk.imp {P : Program} {w : World} {K : PySem.W.Frag} {mg : Str → Option Value} {base : Heap} {CX : CXT} {k : Nat} {f : Addr} {fd : FuncData} {ps : List Str} {sp sp' : Sp} (F : FnOk P w K mg base CX k f fd ps sp)
    (h : ∀ vs H Q E, sp' vs H Q E → sp vs H Q E) : FnOk P w K mg base CX k f fd ps sp' :=
  ⟨fun vs H Q E q => F.len vs H Q E (h _ _ _ _ q), fun A outer s H args us vs Q E hr he hb hv hs => F.run A outer s H args us vs Q E hr he hb hv (h _ _ _ _ hs)⟩

theorem Env0.make {P : Program} {w : World} {K : PySem.W.Frag} {mg : Str → Option Value} {base : Heap} {A : Around} {outer : List Env} {s : Shared} {H : Hp} (e : Env0 P w K mg base A outer s H) (C : Addr) (us : List Value) (kw : List (Str × Value)) :
    Env0 P w K mg base (A.under (.builtin "type.__call__" ⟨.ref C :: us, kw⟩)) outer s H := ⟨by first | exact e.frames | (simpa [Around.under, Code.envs, Code.isFrame, pushEnvs] using e.frames), e.mod, e.bs, e.bsz, e.funs, e.frf, e.hok, e.bare⟩
theorem Env0.in1 {P : Program} {w : World} {K : PySem.W.Frag} {mg : Str → Option Value} {base : Heap} {A : Around} {outer : List Env} {s : Shared} {H : Hp} (e : Env0 P w K mg base A outer s H) :
    Env0 P w K mg base A.in1 outer s H := ⟨e.frames, e.mod, e.bs, e.bsz, e.funs, e.frf, e.hok, e.bare⟩

section
variable {X : Cx} {pins : List (Addr × Obj)} {σ : St} {H : Hp} {s s' : Shared}
/-- from a body: what a callee wants -/
theorem Inv.env0 (I : Inv X pins σ H s) : Env0 X.prog X.w X.K X.mg X.base X.A X.stack s H :=
  ⟨I.ok.frames, I.ok.mod, I.bs, Nat.le_trans I.ok.bsz I.sz, I.stack, I.stkFree, I.hok, I.bare⟩
/-- behind a call -/
theorem Inv.after {Q : VK} {u : Value} (I : Inv X pins σ H s) (h : CE X.stack X.prog X.w H s Q u s') : EP X pins σ Q u s' := by
  obtain ⟨v, H', os, bare, un, hok, r, q⟩ := h
  obtain ⟨hh, g, d, t, os'⟩ := s'
  obtain rfl : os' = s.os := os
  exact ⟨v, H', I.call (h' := hh) (g' := g) (d' := d) (t' := t) (ch := []) un hok bare (fun b z => absurd z (by simp)), r, q⟩
end

/-! ### calls -/
/-- f(..): the written arguments, then the defaults dvs; E: what is wanted of an exception -/
def tCall (sp : Sp) (dvs : List V) (E : XK) (t : TA) : TE := fun σ H Q => t σ H fun vs H1 => sp (vs ++ dvs) H1 Q E
/-- o.m(..) of an instance of the class at C -/
def tMeth (C : Addr) (m : Str) (sp : Sp) (dvs : List V) (E : XK) (ta : TE) (t : TA) : TE := fun σ H Q => ta σ H fun x H1 => ∃ a dx fs, x = .ref a ∧ H1 a = some (.ins C dx fs) ∧ fs.lookup m = none ∧
  t σ H1 fun vs H2 => sp (x :: (vs ++ dvs)) H2 Q E
/-- C(..): a new instance and its dict, then __init__ -/
def tMake (C : Addr) (sp : Sp) (dvs : List V) (E : XK) (t : TA) : TE := fun σ H Q => t σ H fun vs H1 => ∀ x dx, H1 x = none → H1 dx = none → dx ≠ x →
  sp (.ref x :: (vs ++ dvs)) (upd (upd H1 dx (.own x)) x (.ins C dx [])) (fun v H2 => v = .non ∧ Q (.ref x) H2) E

/-- how the parameters are bound: us the positional arguments, kw the keywords' values by name, ds the defaults that fill up -/
def Binds (K : PySem.W.Frag) (fd : FuncData) (ps : List Str) (ds : List Value) : Prop :=
  ∀ (s : Shared) (us : List Value), K.In s.heap → (us ++ ds).length = ps.length → BindsTo s fd ⟨us, []⟩ (ps.zip (us ++ ds))
/-- every parameter is given -/
theorem Binds.all {K : PySem.W.Frag} {fd : FuncData} {ps : List Str} (h : ∀ us : List Value, us.length = ps.length → bindArgs fd ⟨us, []⟩ = pure (ps.zip us)) : Binds K fd ps [] := fun s us _ hl => by
  rw [List.append_nil] at hl ⊢
  exact .of_eq (h us hl)

/-- an exception of a callee reaches what this body wants of exceptions -/
def Passes (CX : CXT) (X : Cx) (E : XK) : Prop := ∀ (pins : List (Addr × Obj)) (σ : St) (H : Hp) (s : Shared) (e : Value) (s' : Shared), Inv X pins σ H s → CX X.stack H s E e s' → X.xe e s'

section
variable {X : Cx} {CX : CXT} {k : Nat} {f C : Addr} {fd : FuncData} {ps : List Str} {sp : Sp} {dvs : List V} {ds : List Value} {E : XK} {x m : Str} {p pos apos : Pos} {e o : Expr} {es : List Expr} {ta : TE} {t : TA}

/-- the callee runs -/
theorem run_fn {pins : List (Addr × Obj)} {σ : St} {H : Hp} {s : Shared} {Q : VK} {us : List Value} {vs : List V} (F : FnOk X.prog X.w X.K X.mg X.base CX k f fd ps sp) (hr : Room k X.A) (hb : Binds X.K fd ps ds) (hd : Vals dvs ds) (hx : Passes CX X E)
    (I : Inv X pins σ H s) (r : Vals vs us) (h : sp (vs ++ dvs) H Q E) : wpAny (model X.prog X.w) X.A (call (.ref f) us) (EP X pins σ Q) X.xe s := by
  have r2 : Vals (vs ++ dvs) (us ++ ds) := r.append hd
  have hl : (us ++ ds).length = ps.length := by rw [← r2.length]; exact F.len _ _ _ _ h
  refine wpAny_call (codeAny_mono (F.run X.A X.stack s H ⟨us, []⟩ (us ++ ds) (vs ++ dvs) Q E hr I.env0 (hb s us I.kIn hl) r2 h) fun r s' hq => ?_)
  cases r with
  | error e => exact hx pins σ H s e s' I hq
  | ok fl =>
    cases fl with
    | ret u => exact I.after hq
    | next => exact False.elim hq
    | brk => exact False.elim hq
    | cont => exact False.elim hq

theorem pe_call (F : FnOk X.prog X.w X.K X.mg X.base CX k f fd ps sp) (hr : Room k X.A) (hg : Gl X x) (hm : X.mg x = some (.ref f)) (hk : PySem.W.keepIn X.K (.ref f) = true) (hb : Binds X.K fd ps ds) (hd : Vals dvs ds) (hx : Passes CX X E)
    (ha : PA X (e :: es) t) (hdb : (x == ("__debug__" : Str)) = false := by decide) (he : starEach (e :: es) X.env = (false, eval e X.env) :: starEach es X.env := by rfl) (hpl : (backTo pos (starEach es X.env)).any (·.1) = false := by rfl) :
    PE X (.Call (.Name x p) (e :: es) [] pos) (tCall sp dvs E t) := by
  intro pins s σ H Q I h
  refine wpAny_Call_Name_kw (ld_glob I hg hm ?_ hdb)
  refine PySem.W.callWith_K (h₀ := X.base) I.ok.mod.kin hk (thn (ha pos pins s σ H _ I h) fun us s1 ⟨vs, H1, I1, r, q⟩ => ⟨I1.kIn, ?_⟩) he hpl
  exact run_fn F hr hb hd hx I1 r q
theorem pe_call0 (F : FnOk X.prog X.w X.K X.mg X.base CX k f fd ps sp) (hr : Room k X.A) (hg : Gl X x) (hm : X.mg x = some (.ref f)) (hk : PySem.W.keepIn X.K (.ref f) = true) (hb : Binds X.K fd ps ds) (hd : Vals dvs ds) (hx : Passes CX X E)
    (hdb : (x == ("__debug__" : Str)) = false := by decide) : PE X (.Call (.Name x p) [] [] pos) (tCall sp dvs E tNil) := by
  intro pins s σ H Q I h
  refine wpAny_Call_Name_kw (ld_glob I hg hm ?_ hdb)
  exact PySem.W.callWith_K0 I.kIn hk (run_fn (us := []) F hr hb hd hx I .nil h)

/-- o.m(e, ..) -/
theorem pe_meth {pl : Sem Bool} (he : PE X o ta) (c : Cls X.K C) (hm : Meth X.K C m f) (F : FnOk X.prog X.w X.K X.mg X.base CX k f fd ps sp) (hr : Room k X.A) (hb : Binds X.K fd ps ds) (hd : Vals dvs ds) (hx : Passes CX X E) (ha : PA X (e :: es) t)
    (hst : starEach (e :: es) X.env = (false, eval e X.env) :: starEach es X.env := by rfl) (hpl : (backTo pos (starEach es X.env)).any (·.1) = false := by rfl)
    (ht : eval (.Call (.Attribute o m apos) (e :: es) [] pos) X.env = (do
      let ov ← eval o X.env
      standAt apos.atName
      let (f, first) ← holding [ov] (getMethod ov m pl)
      callWith pos f first (backTo pos (starEach (e :: es) X.env)) (backToKw pos (keywordEach [] X.env))) := by rfl) :
    PE X (.Call (.Attribute o m apos) (e :: es) [] pos) (tMeth C m sp dvs E ta t) := by
  intro pins s σ H Q I h
  refine PySem.W.methodCall_KW (pl := pl) (thn (he pins s σ H _ I h) fun u s1 ⟨x, H1, I1, rx, a, dx, fs, ex, ea, l, q⟩ => ?_) ht
  subst ex
  obtain rfl : u = Value.ref a := rx
  refine getmeth_ok I1 ea c hm l ?_
  refine PySem.W.callWith_K (first := [.ref a]) (h₀ := X.base) I.ok.mod.kin hm.kp (thn (ha pos pins s1 σ H1 _ I1 q) fun us s2 ⟨vs, H2, I2, r, q2⟩ => ⟨I2.kIn, ?_⟩) hst hpl
  exact run_fn (us := .ref a :: us) (vs := .ref a :: vs) F hr hb hd hx I2 (.cons rfl r) q2
/-- o.m() -/
theorem pe_meth0 {pl : Sem Bool} (he : PE X o ta) (c : Cls X.K C) (hm : Meth X.K C m f) (F : FnOk X.prog X.w X.K X.mg X.base CX k f fd ps sp) (hr : Room k X.A) (hb : Binds X.K fd ps ds) (hd : Vals dvs ds) (hx : Passes CX X E)
    (ht : eval (.Call (.Attribute o m apos) [] [] pos) X.env = (do
      let ov ← eval o X.env
      standAt apos.atName
      let (f, first) ← holding [ov] (getMethod ov m pl)
      callWith pos f first (backTo pos (starEach [] X.env)) (backToKw pos (keywordEach [] X.env))) := by rfl) :
    PE X (.Call (.Attribute o m apos) [] [] pos) (tMeth C m sp dvs E ta tNil) := by
  intro pins s σ H Q I h
  refine PySem.W.methodCall_KW (pl := pl) (thn (he pins s σ H _ I h) fun u s1 ⟨x, H1, I1, rx, a, dx, fs, ex, ea, l, q⟩ => ?_) ht
  subst ex
  obtain rfl : u = Value.ref a := rx
  refine getmeth_ok I1 ea c hm l ?_
  exact PySem.W.callWith_K0 (first := [.ref a]) I1.kIn hm.kp (run_fn (us := [.ref a]) (vs := [.ref a]) F hr hb hd hx I1 (.cons rfl .nil) q)

/-- what a class must have to be made -/
structure Mk (K : PySem.W.Frag) (C f : Addr) : Prop where
  makes : PySem.W.makesIn K C = true
  init : PySem.W.findIn K (.ref C) "__init__" = some (some (.ref f))
  fn : PySem.W.isFn K (.ref f) = true
  kp : PySem.W.keepIn K (.ref C) = true

theorem run_make {pins : List (Addr × Obj)} {σ : St} {H : Hp} {s : Shared} {Q : VK} {us : List Value} {vs : List V} (M : Mk X.K C f) (F : FnOk X.prog X.w X.K X.mg X.base CX k f fd ps sp) (hr : Room (k + 1) X.A) (hb : Binds X.K fd ps ds) (hd : Vals dvs ds)
    (hx : Passes CX X E) (I : Inv X pins σ H s) (r : Vals vs us)
    (h : ∀ x dx, H x = none → H dx = none → dx ≠ x → sp (.ref x :: (vs ++ dvs)) (upd (upd H dx (.own x)) x (.ins C dx [])) (fun v H2 => v = .non ∧ Q (.ref x) H2) E) :
    wpAny (model X.prog X.w) X.A (call (.ref C) us) (EP X pins σ Q) X.xe s := by
  have hq := h (s.heap.objs.size + 1) s.heap.objs.size (I.hok.fresh (Nat.le_succ _)) (I.hok.fresh (Nat.le_refl _)) (Nat.ne_of_lt (Nat.lt_succ_self _))
  have I2 := Inv.made (C := C) I
  have r2 : Vals (V.ref (s.heap.objs.size + 1) :: (vs ++ dvs)) (Value.ref (s.heap.objs.size + 1) :: (us ++ ds)) := .cons rfl (r.append hd)
  have hl : (Value.ref (s.heap.objs.size + 1) :: us ++ ds).length = ps.length := by
    have e := r2.length
    rw [F.len _ _ _ _ hq] at e
    exact e.symm
  refine wpAny_call (make_map (f := f) I.kIn M.makes M.init (beq_iff_eq.mp M.fn) (codeAny_mono (F.run _ X.stack _ _ ⟨Value.ref (s.heap.objs.size + 1) :: us, []⟩ (Value.ref (s.heap.objs.size + 1) :: (us ++ ds)) _ _ E (hr.make C us [])
    (I2.env0.make C us []) (hb _ (Value.ref (s.heap.objs.size + 1) :: us) I2.kIn hl) r2 hq) fun r s' hq' => ?_))
  cases r with
  | error e => exact hx pins σ _ _ e s' I2 hq'
  | ok fl =>
    cases fl with
    | ret u =>
      obtain ⟨v, H', I3, rv, ev, q3⟩ := I2.after hq'
      subst ev
      exact ⟨rv, ⟨V.ref (s.heap.objs.size + 1), H', I3, rfl, q3⟩⟩
    | next => exact False.elim hq'
    | brk => exact False.elim hq'
    | cont => exact False.elim hq'
theorem pe_make (M : Mk X.K C f) (F : FnOk X.prog X.w X.K X.mg X.base CX k f fd ps sp) (hr : Room (k + 1) X.A) (hg : Gl X x) (hm : X.mg x = some (.ref C)) (hb : Binds X.K fd ps ds) (hd : Vals dvs ds) (hx : Passes CX X E)
    (ha : PA X (e :: es) t) (hdb : (x == ("__debug__" : Str)) = false := by decide) (he : starEach (e :: es) X.env = (false, eval e X.env) :: starEach es X.env := by rfl) (hpl : (backTo pos (starEach es X.env)).any (·.1) = false := by rfl) :
    PE X (.Call (.Name x p) (e :: es) [] pos) (tMake C sp dvs E t) := by
  intro pins s σ H Q I h
  refine wpAny_Call_Name_kw (ld_glob I hg hm ?_ hdb)
  refine PySem.W.callWith_K (h₀ := X.base) I.ok.mod.kin M.kp (thn (ha pos pins s σ H _ I h) fun us s1 ⟨vs, H1, I1, r, q⟩ => ⟨I1.kIn, ?_⟩) he hpl
  exact run_make M F hr hb hd hx I1 r q
theorem pe_make0 (M : Mk X.K C f) (F : FnOk X.prog X.w X.K X.mg X.base CX k f fd ps sp) (hr : Room (k + 1) X.A) (hg : Gl X x) (hm : X.mg x = some (.ref C)) (hb : Binds X.K fd ps ds) (hd : Vals dvs ds) (hx : Passes CX X E)
    (hdb : (x == ("__debug__" : Str)) = false := by decide) : PE X (.Call (.Name x p) [] [] pos) (tMake C sp dvs E tNil) := by
  intro pins s σ H Q I h
  refine wpAny_Call_Name_kw (ld_glob I hg hm ?_ hdb)
  exact PySem.W.callWith_K0 I.kIn M.kp (run_make (us := []) M F hr hb hd hx I .nil h)
end

/-! ### keywords -/
/-- the values of the keywords, from the left -/
def PK (X : Cx) (kws : List Keyword) (t : TA) : Prop :=
  ∀ (pos : Pos) (pins : List (Addr × Obj)) (s : Shared) (σ : St) (H : Hp) (Q : List V → Hp → Prop), Inv X pins σ H s → t σ H Q → wpAny (model X.prog X.w) X.A (evalAll ((backToKw pos (keywordEach kws X.env)).map (·.2))) (AP X pins σ Q) X.xe s
section
variable {X : Cx} {CX : CXT} {k : Nat} {f C : Addr} {fd : FuncData} {ps ks : List Str} {sp : Sp} {E : XK} {x m : Str} {p pos apos kpos : Pos} {e o : Expr} {es : List Expr} {kws : List Keyword} {te ta : TE} {t tk : TA} {nm : Option Str}
theorem pk_nil : PK X [] tNil := fun _ _ _ _ H Q I h => wpAny_evalAll_nil ⟨[], H, I, .nil, h⟩
theorem pk_cons (ha : PE X e te) (hr : PK X kws t) : PK X (⟨nm, e, kpos⟩ :: kws) (tCons te t) := by
  intro pos pins s σ H Q I h
  show wpAny _ _ (evalAll ((do let v ← eval e X.env; standAt pos; pure v) :: (backToKw pos (keywordEach kws X.env)).map (·.2))) _ _ s
  refine wpAny_evalAll_cons (wpAny_bind (thn (ha pins s σ H _ I h) fun u s1 ⟨x, H1, I1, r1, q1⟩ => wpAny_bind (wpAny_standAt (wpAny_pure ?_))))
  exact thn (hr pos pins s1 σ H1 _ I1 q1) fun us s2 ⟨xs, H2, I2, r2, q2⟩ => ⟨x :: xs, H2, I2, .cons r1 r2, q2⟩

/-- how a call with keywords binds: g puts the positional values us and the keywords' values ws (names ks) in the parameters' order, defaults among them -/
structure KBinds (K : PySem.W.Frag) (fd : FuncData) (ps ks : List Str) (g : List Value → List Value → List Value) (gV : List V → List V → List V) : Prop where
  to : ∀ (s : Shared) (us ws : List Value), K.In s.heap → (g us ws).length = ps.length → BindsTo s fd ⟨us, ks.zip ws⟩ (ps.zip (g us ws))
  rel : ∀ {vs : List V} {us : List Value} {zs : List V} {ws : List Value}, Vals vs us → Vals zs ws → Vals (gV vs zs) (g us ws)
def tCallK (sp : Sp) (gV : List V → List V → List V) (E : XK) (t tk : TA) : TE := fun σ H Q => t σ H fun vs H1 => tk σ H1 fun zs H2 => sp (gV vs zs) H2 Q E
variable {g : List Value → List Value → List Value} {gV : List V → List V → List V}
theorem run_fnk {pins : List (Addr × Obj)} {σ : St} {H : Hp} {s : Shared} {Q : VK} {us ws : List Value} {vs zs : List V} (F : FnOk X.prog X.w X.K X.mg X.base CX k f fd ps sp) (hr : Room k X.A) (hb : KBinds X.K fd ps ks g gV) (hx : Passes CX X E)
    (I : Inv X pins σ H s) (r : Vals vs us) (rz : Vals zs ws) (h : sp (gV vs zs) H Q E) : wpAny (model X.prog X.w) X.A (call (.ref f) us (ks.zip ws)) (EP X pins σ Q) X.xe s := by
  have r2 := hb.rel r rz
  have hl : (g us ws).length = ps.length := by rw [← r2.length]; exact F.len _ _ _ _ h
  refine wpAny_call (codeAny_mono (F.run X.A X.stack s H ⟨us, ks.zip ws⟩ (g us ws) (gV vs zs) Q E hr I.env0 (hb.to s us ws I.kIn hl) r2 h) fun r s' hq => ?_)
  cases r with
  | error e => exact hx pins σ H s e s' I hq
  | ok fl =>
    cases fl with
    | ret u => exact I.after hq
    | next => exact False.elim hq
    | brk => exact False.elim hq
    | cont => exact False.elim hq
/-- f(e, .., k = v, ..) -/
theorem pe_callK (F : FnOk X.prog X.w X.K X.mg X.base CX k f fd ps sp) (hr : Room k X.A) (hg : Gl X x) (hm : X.mg x = some (.ref f)) (hk : PySem.W.keepIn X.K (.ref f) = true) (hb : KBinds X.K fd ps ks g gV) (hx : Passes CX X E)
    (ha : PA X (e :: es) t) (hkw : PK X kws tk) (hall : (backToKw pos (keywordEach kws X.env)).all (·.1.isSome) = true := by rfl) (hks : (backToKw pos (keywordEach kws X.env)).filterMap (·.1) = ks := by rfl)
    (hdb : (x == ("__debug__" : Str)) = false := by decide) (he : starEach (e :: es) X.env = (false, eval e X.env) :: starEach es X.env := by rfl)
    (hpl : ((backTo pos (starEach (e :: es) X.env)).any (·.1) || (backToKw pos (keywordEach kws X.env)).any (·.1.isNone)) = false := by rfl) :
    PE X (.Call (.Name x p) (e :: es) kws pos) (tCallK sp gV E t tk) := by
  intro pins s σ H Q I h
  refine wpAny_Call_Name_kw (ld_glob I hg hm ?_ hdb)
  refine PySem.W.callWith_KW (h₀ := X.base) I.ok.mod.kin hk hall (thn (ha pos pins s σ H _ I h) fun us s1 ⟨vs, H1, I1, r, q⟩ => ?_) hpl he
  refine thn (hkw pos pins s1 σ H1 _ I1 q) fun ws s2 ⟨zs, H2, I2, rz, q2⟩ => ⟨I2.kIn, ?_⟩
  rw [hks]
  exact run_fnk F hr hb hx I2 r rz q2
end

/-! ### a def's body keeps its promise -/
/-- names: the parameters first -/
structure FnScope (N P : List Str) (sc : Scope) : Prop where
  kind : sc.kind = .function
  co : sc.isCoroutine = false
  gen : sc.isGenerator = false
  nd : N.Nodup
  pre : N.take P.length = P
  par : ∀ x ∈ P, sc.names.lookup x = some .local ∨ sc.names.lookup x = some .cell
  nofree : ∀ y ∈ sc.names, y.2 ≠ .free

theorem bindL_out {kindOf : Str → Option NameKind} {x : Str} : ∀ {binds : List (Str × Value)} {m : Str → Option Value}, (∀ v, (x, v) ∉ binds) → bindL kindOf binds m x = m x
  | [], _, _ => rfl
  | (n, v) :: r, m, h => by
    unfold bindL
    rw [bindL_out fun w hw => h w (List.mem_cons_of_mem _ hw)]
    split
    · have : x ≠ n := by rintro rfl; exact h v List.mem_cons_self
      simp [this]
    · rfl
theorem bindC_out {kindOf : Str → Option NameKind} {x : Str} : ∀ {binds : List (Str × Value)} {m : Str → Option Value}, (∀ v, (x, v) ∉ binds) → bindC kindOf binds m x = m x
  | [], _, _ => rfl
  | (n, v) :: r, m, h => by
    unfold bindC
    rw [bindC_out fun w hw => h w (List.mem_cons_of_mem _ hw)]
    split
    · rfl
    · have : x ≠ n := by rintro rfl; exact h v List.mem_cons_self
      simp [this]
theorem bindL_get {kindOf : Str → Option NameKind} {x : Str} {v : Value} : ∀ {P : List Str} {vs : List Value} {i : Nat} {m : Str → Option Value}, P.Nodup → P[i]? = some x → vs[i]? = some v → kindOf x = some .local →
    bindL kindOf (P.zip vs) m x = some v
  | [], _, _, _, _, h, _, _ => by simp at h
  | _ :: _, [], _, _, _, _, h, _ => by simp at h
  | p :: P, w :: vs, 0, m, nd, h1, h2, hk => by
    simp at h1 h2; subst h1; subst h2
    show bindL kindOf ((p, w) :: P.zip vs) m p = _
    unfold bindL
    rw [bindL_out fun v hv => (List.nodup_cons.mp nd).1 (List.of_mem_zip hv).1, if_pos hk]
    simp
  | p :: P, w :: vs, i + 1, m, nd, h1, h2, hk => by
    show bindL kindOf ((p, w) :: P.zip vs) m x = _
    unfold bindL
    exact bindL_get (i := i) (List.nodup_cons.mp nd).2 (by simpa using h1) (by simpa using h2) hk
theorem bindC_get {kindOf : Str → Option NameKind} {x : Str} {v : Value} : ∀ {P : List Str} {vs : List Value} {i : Nat} {m : Str → Option Value}, P.Nodup → P[i]? = some x → vs[i]? = some v → kindOf x ≠ some .local →
    bindC kindOf (P.zip vs) m x = some v
  | [], _, _, _, _, h, _, _ => by simp at h
  | _ :: _, [], _, _, _, _, h, _ => by simp at h
  | p :: P, w :: vs, 0, m, nd, h1, h2, hk => by
    simp at h1 h2; subst h1; subst h2
    show bindC kindOf ((p, w) :: P.zip vs) m p = _
    unfold bindC
    rw [bindC_out fun v hv => (List.nodup_cons.mp nd).1 (List.of_mem_zip hv).1, if_neg hk]
    simp
  | p :: P, w :: vs, i + 1, m, nd, h1, h2, hk => by
    show bindC kindOf ((p, w) :: P.zip vs) m x = _
    unfold bindC
    exact bindC_get (i := i) (List.nodup_cons.mp nd).2 (by simpa using h1) (by simpa using h2) hk

/-- the names' values at the entry -/
def start (N : List Str) (vs : List V) : St := vs.map some ++ List.replicate (N.length - vs.length) none

/-- the context of a def's body, at its entry; an exception leaves the frame, then lies as CX says -/
def cxOf (CX : CXT) (P : Program) (w : World) (K : PySem.W.Frag) (mg : Str → Option Value) (base : Heap) (N : List Str) (qual : Str) (scope : Scope) (f : Addr) (cd : Value) (A : Around) (outer : List Env) (s : Shared) (H : Hp) (E : XK) : Cx where
  prog := P
  w := w
  K := K
  mg := mg
  base := base
  A := A.deeper (envOfC qual scope s.heap.objs.size f cd)
  N := N
  s₀ := s
  H₀ := H
  env := envOfC qual scope s.heap.objs.size f cd
  outer := outer
  stack := envOfC qual scope s.heap.objs.size f cd :: outer
  ex := []
  calm := true
  cp := fun _ => true
  fn := fun _ => true
  pn := []
  xe := fun e s' => wpAny (model P w) (A.deeper (envOfC qual scope s.heap.objs.size f cd)) (leaving (envOfC qual scope s.heap.objs.size f cd) e) (fun _ s'' => CX outer H s E e s'') (fun e' s'' => CX outer H s E e' s'') s'

theorem cell_has {sc : Scope} {n : Nat} {x : Str} (h : sc.names.lookup x = some .cell) : ∃ c, (cellsFrom n sc.names []).lookup x = some c := by
  have q := PySem.W.cellsFrom_some sc.names n [] (.inl h)
  exact Option.isSome_iff_exists.mp q

theorem inv_start {CX : CXT} {P : Program} {w : World} {K : PySem.W.Frag} {mg : Str → Option Value} {base : Heap} {N ps : List Str} {qual : Str} {scope : Scope} {f : Addr} {cd : Value} {A : Around} {outer : List Env} {s s1 : Shared} {H : Hp} {E : XK} {us : List Value} {vs : List V}
    (S : FnScope N ps scope) (hd : A.handled = none) (e0 : Env0 P w K mg base A outer s H) (hl : vs.length = ps.length) (r : Vals vs us)
    (x : InCallC s s.heap.objs.size (bindL (envOfC qual scope s.heap.objs.size f cd).kindOf (ps.zip us) fun _ => none) (cellsFrom (s.heap.objs.size + 1) scope.names []) (bindC (envOfC qual scope s.heap.objs.size f cd).kindOf (ps.zip us) fun _ => none) s1) :
    Inv (cxOf CX P w K mg base N qual scope f cd A outer s H E) [] (start N vs) H s1 := by
  have hpl : ps.length ≤ N.length := by have := congrArg List.length S.pre; rw [List.length_take] at this; omega
  obtain ⟨h1, tk, rfl, hk⟩ := x.done
  have noA : ∀ b : Addr, b ∉ (cxOf CX P w K mg base N qual scope f cd A outer s H E).ex := fun b z => absurd (show b ∈ ([] : List Addr) from z) (by simp)
  refine ⟨⟨e0.mod, S.kind, rfl, rfl, Nat.le_refl _, fun y z c h1 h2 => ?_, fun y hy => ?_, fun y c _ h => ?_, fun _ => hd, Around.frames_deeper e0.frames, .inr ⟨rfl, rfl⟩, fun b z => absurd z (noA b), e0.bs, e0.bsz, fun b _ _ => noA b, fun b z => absurd z (noA b), e0.funs, e0.frf, fun y c _ h => Nat.le_of_lt (x.above y c (PySem.mem_of_lookup h)), fun b hb => e0.hok.fresh hb⟩,
    rfl, e0.bare, Un.kept hk, ⟨_, x.toInCall.ns, fun i y v h1 h2 h3 => ?_⟩, fun y c h => ⟨_, x.cell y c h⟩, e0.hok.fresh (Nat.le_refl _), fun y c h => .inl ?_, fun p hp => absurd (show p ∈ ([] : List (Addr × Obj)) from hp) (by simp), e0.hok.kept hk, ?_⟩
  · exact name_of_addr x.apart (PySem.mem_of_lookup h1) (PySem.mem_of_lookup h2)
  · have hy : scope.names.lookup y = some .cell ∨ scope.names.lookup y = some .free := hy
    rcases hy with hy | hy
    · exact cell_has hy
    · exact absurd rfl (S.nofree _ (PySem.mem_of_lookup hy))
  · exact Nat.le_of_lt (x.above y c (PySem.mem_of_lookup h))
  · have hi : i < vs.length := by
      unfold start at h2
      by_cases hi : i < vs.length
      · exact hi
      · rw [List.getElem?_append_right (by simpa using hi)] at h2
        rw [List.getElem?_replicate] at h2
        split at h2 <;> cases h2
    have ha : vs[i]? = some v := by
      unfold start at h2
      rw [List.getElem?_append_left (by simpa using hi), List.getElem?_map] at h2
      cases e : vs[i]? with
      | none => rw [e] at h2; cases h2
      | some a => rw [e] at h2; cases h2; rfl
    obtain ⟨u, hu, rv⟩ := r.get ha
    have hp : ps[i]? = some y := by
      rw [← S.pre, List.getElem?_take_of_lt (by omega)]; exact h1
    have ndP : ps.Nodup := by rw [← S.pre]; exact S.nd.sublist (List.take_sublist _ _)
    refine ⟨u, rv, ?_⟩
    rcases S.par y (List.mem_of_getElem? hp) with k | k
    · exact .inl ⟨k, bindL_get ndP hp hu k⟩
    · obtain ⟨c, e⟩ := cell_has (n := s.heap.objs.size + 1) k
      refine .inr ⟨.inl k, c, e, ?_⟩
      have q := x.cell y c e
      rw [bindC_get ndP hp hu (by show scope.names.lookup y ≠ _; rw [k]; decide)] at q
      exact q
  · exact e0.hok.fresh (Nat.le_of_lt (x.above y c (PySem.mem_of_lookup h)))
  · unfold start
    show _ = N.length
    rw [List.length_append, List.length_map, List.length_replicate]
    omega

/-- THE RULE: a def (or a method) of the text, by its body. The body's reading t is chosen for each entry; it is run at the parameters' values -/
theorem fn_of {CX : CXT} {P : Program} {w : World} {K : PySem.W.Frag} {mg : Str → Option Value} {base : Heap} {k : Nat} {f : Addr} {name qual : Str} {params : Arguments} {body : List Stmt} {scope : Scope} {dV kV doc pm cdv ct oc : Value} {an od : Option Addr}
    {osl : Array (Option Value)} {N ps : List Str} {sp : Sp} (lk : K.lookup f = some ⟨oc, od, .func (PySem.W.fnOf name qual params body scope dV kV doc pm an cdv ct), osl⟩) (hcd : PySem.W.codeIn K cdv qual = true) (S : FnScope N ps scope)
    (len : ∀ vs H Q E, sp vs H Q E → vs.length = ps.length)
    (hbody : ∀ (A : Around) (outer : List Env) (s : Shared) (H : Hp) (vs : List V) (Q : VK) (E : XK), Room k (A.deeper (envOfC qual scope s.heap.objs.size f cdv)) → sp vs H Q E →
      ∃ t, PSs (cxOf CX P w K mg base N qual scope f cdv A outer s H E) body t ∧ t { nx := fun _ H' => Q .non H', rt := Q } (start N vs) H) :
    FnOk P w K mg base CX (k + 1) f (PySem.W.fnOf name qual params body scope dV kV doc pm an cdv ct) ps sp := by
  refine ⟨len, fun A outer s H args us vs Q E hr e0 hb r hsp => ?_⟩
  have hl := len _ _ _ _ hsp
  have KX : K.In s.heap := e0.mod.kin.keeps fun b o e => (e0.bs b o e).1
  have lim : s.heap.NoLimit := e0.mod.nolimit.keeps fun b o e => (e0.bs b o e).1
  have hkind : ∀ y ∈ ps.zip us, scope.names.lookup y.1 = some .local ∨ (scope.names.lookup y.1 = some .cell ∧ ((cellsFrom (s.heap.objs.size + 1) scope.names []).lookup y.1).isSome = true) := fun ⟨n, v⟩ hy => by
    rcases S.par n (List.of_mem_zip hy).1 with q | q
    · exact .inl q
    · exact .inr ⟨q, PySem.W.cellsFrom_some _ _ _ (.inl q)⟩
  refine codeAny_call_function hr.depth (KX _ _ lk) rfl S.co S.gen rfl (PySem.W.codeRec_of KX hcd) (hb _ _ _ _ ?_)
  refine wpAny_newFunctionEnv_cells S.kind hkind fun env he s1 x => ?_
  subst he
  refine ⟨lim.keeps x.toInCall.keep, codeAny_func ?_⟩
  obtain ⟨t, ht, hq⟩ := hbody A outer s H vs Q E (hr.deeper _) hsp
  have I : Inv (cxOf CX P w K mg base N qual scope f cdv A outer s H E) [] (start N vs) H s1 := inv_start S hr.hd e0 hl r x
  refine wpAny_mono (ht [] s1 (start N vs) H _ I hq) (fun fl s' hs => ?_) fun e s' hs => hs
  have fin : ∀ {σ' : St} {H' : Hp} {v : V} {u : Value}, Inv (cxOf CX P w K mg base N qual scope f cdv A outer s H E) [] σ' H' s' → RelV v u → Q v H' → CE outer P w H s Q u s' :=
    fun {σ' H' v u} J rv q => ⟨v, H', J.os, J.bare, J.base, J.hok, rv, q⟩
  cases fl with
  | ret u =>
    obtain ⟨v, σ', H', J, rv, q⟩ := hs
    exact fin J rv q
  | next =>
    obtain ⟨σ', H', J, q⟩ := hs
    exact fin (v := V.non) (u := Value.none) J rfl q
  | brk =>
    obtain ⟨_, _, _, q⟩ := hs
    exact False.elim q
  | cont =>
    obtain ⟨_, _, _, q⟩ := hs
    exact False.elim q
end L2

namespace L2
open PySem PySem.Spec PyProof.Rows
section
variable {X : Cx} {x : Str} {p pos : Pos} {e : Expr} {es : List Expr} {t : TA} {id T : String} {r : List V → Hp → VK → Prop}

def tCB (r : List V → Hp → VK → Prop) (t : TA) : TE := fun σ H Q => t σ H fun vs H1 => r vs H1 Q
/-- f(e, ..), f a built-in function -/
theorem pe_callB (hc : CallR X (.builtin id) r) (hg : Gl X x) (hm : X.mg x = none) (hv : bootBuiltins x = some (.builtin id)) (ha : PA X (e :: es) t) (hn : x ≠ "__name__" := by decide) (hdb : (x == ("__debug__" : Str)) = false := by decide)
    (he : starEach (e :: es) X.env = (false, eval e X.env) :: starEach es X.env := by rfl) (hpl : (backTo pos (starEach es X.env)).any (·.1) = false := by rfl) : PE X (.Call (.Name x p) (e :: es) [] pos) (tCB r t) := by
  intro pins s σ H Q I h
  refine wpAny_Call_Name_kw (ld_blt I hg hm hv ?_ hn hdb)
  exact PyProof.Rows.callWith_builtin1 (thn (ha pos pins s σ H _ I h) fun us s1 ⟨vs, H1, I1, r1, q1⟩ => hc pins s1 σ H1 vs us Q I1 r1 q1) he hpl
/-- T(e, ..), T a built-in type -/
theorem pe_callTy (hc : CallR X (.type T) r) (hg : Gl X x) (hm : X.mg x = none) (hv : bootBuiltins x = some (.type T)) (ha : PA X (e :: es) t) (hn : x ≠ "__name__" := by decide) (hdb : (x == ("__debug__" : Str)) = false := by decide)
    (he : starEach (e :: es) X.env = (false, eval e X.env) :: starEach es X.env := by rfl) (hpl : (backTo pos (starEach es X.env)).any (·.1) = false := by rfl) : PE X (.Call (.Name x p) (e :: es) [] pos) (tCB r t) := by
  intro pins s σ H Q I h
  refine wpAny_Call_Name_kw (ld_blt I hg hm hv ?_ hn hdb)
  exact PyProof.Rows.callWith_type1 (thn (ha pos pins s σ H _ I h) fun us s1 ⟨vs, H1, I1, r1, q1⟩ => hc pins s1 σ H1 vs us Q I1 r1 q1) he hpl
/-- T() -/
theorem pe_callTy0 (hc : CallR X (.type T) r) (hg : Gl X x) (hm : X.mg x = none) (hv : bootBuiltins x = some (.type T)) (hn : x ≠ "__name__" := by decide) (hdb : (x == ("__debug__" : Str)) = false := by decide) :
    PE X (.Call (.Name x p) [] [] pos) (tCB r tNil) := by
  intro pins s σ H Q I h
  refine wpAny_Call_Name_kw (ld_blt I hg hm hv ?_ hn hdb)
  exact PyProof.Rows.callWith_type0 (hc pins s σ H [] [] Q I .nil h)
end
end L2

namespace HT
open PySem PyProof.Rows

/-- t < u of tuples of ints -/
def lexLt : List Int → List Int → Bool
  | [], [] => false
  | [], _ :: _ => true
  | _ :: _, [] => false
  | x :: xs, y :: ys => if x = y then lexLt xs ys else decide (x < y)
theorem lexLt_cons (x y : Int) (xs ys : List Int) : lexLt (x :: xs) (y :: ys) = if x = y then lexLt xs ys else decide (x < y) := rfl
theorem lexLt_nil_nil : lexLt [] [] = false := rfl
theorem lexLt_nil_cons (y : Int) (ys : List Int) : lexLt [] (y :: ys) = true := rfl
theorem lexLt_cons_nil (x : Int) (xs : List Int) : lexLt (x :: xs) [] = false := rfl

theorem eqAt_int (A : Around) (s : Shared) (a : Int) (t : Tok) (c : Int) (u : Tok) : ∃ e, SeqAt.EqAt A s (.int a t) (.int c u) e ∧ (e = true ↔ a = c) :=
  ⟨(a == c), SeqAt.EqAt.int_int a t c u, by simp⟩
theorem rcLt_int (A : Around) (s : Shared) (a : Int) (t : Tok) (c : Int) (u : Tok) (prog : Program) (w : World) (E : Value → Shared → Prop) (Q : Value → Shared → Prop) (h : Q (.bool (decide (a < c))) s) :
    wpAny (model prog w) A (richCompare .Lt (.int a t) (.int c u)) Q E s :=
  (PyProof.Rows.lt_int h : wpAny (model prog w) A (compareOp .Lt (.int a t) (.int c u)) Q E s)

section
open PySem.SeqAt
open PySem.AutoSeq1 (wpAny_loadPart')
open PySem.MeetsSeq PySem.MeetsSeq2 PySem.MeetsSeq3

theorem tuple_lt_ints (l b : Addr) (items items2 : Array Value) (n n2 : Nat) (dd dd2 : Option Addr) (sl sl2 : Array (Option Value)) (ns ms : List Int) (hi : IntsAre items.toList ns) (hj : IntsAre items2.toList ms) :
    Meets (Builtin.«tuple.__lt__» ⟨[.ref l, .ref b], []⟩)
      (fun _ R s => s.heap.get? l = some { cls := .type "tuple", dict := dd, data := .seq items n, slots := sl } ∧ s.heap.get? b = some { cls := .type "tuple", dict := dd2, data := .seq items2 n2, slots := sl2 } ∧
        R (.ok (.ret (.bool (lexLt ns ms)))) s) :=
  .of_wp fun prog w A R s h => by
    obtain ⟨hp, g, d, tk, os⟩ := s; obtain ⟨hl, hb, h⟩ := h
    have f2 := AutoSeq1.sub_tuple_tuple
    have z1 : items.size = ns.length := by rw [← hi.length]; simp
    have z2 : items2.size = ms.length := by rw [← hj.length]; simp
    wp_walk using wpAny_loadPart' hl, wpAny_loadPart' hb, wpAny_forIn_list _ (fun rest b s' => b.1 = none ∧ s' = ⟨hp, g, d, tk, os⟩ ∧ ∃ (vs ws : List Value) (ns' ms' : List Int), rest = vs.zip ws ∧
      IntsAre vs ns' ∧ IntsAre ws ms' ∧ ns'.length + items2.size = ms'.length + items.size ∧ R (.ok (.ret (.bool (lexLt ns' ms')))) ⟨hp, g, d, tk, os⟩) _
    case turn =>
      rintro ⟨y, x⟩ rest b s' ⟨hb', rfl, vs, ws, ns', ms', hz, hvi, hwi, hlen, hR⟩
      cases hvi with
      | nil => rw [List.zip_nil_left] at hz; cases hz
      | cons a t hvi' =>
        cases hwi with
        | nil => rw [List.zip_nil_right] at hz; cases hz
        | cons c u hwi' =>
          rw [List.zip_cons_cons] at hz
          injection hz with hyx hrest
          injection hyx with hy hx
          subst hy hx
          rw [lexLt_cons] at hR
          simp only [List.length_cons] at hlen
          obtain ⟨e, he, hiff⟩ := eqAt_int A.in1 ⟨hp, g, d, tk, os⟩ a t c u
          refine wpAny_bind (he prog w _ _ ?_)
          cases e with
          | true =>
            rw [if_pos (hiff.mp rfl)] at hR
            wp_walk
            exact ⟨rfl, rfl, _, _, _, _, hrest, hvi', hwi', by omega, hR⟩
          | false =>
            rw [if_neg (fun q => absurd (hiff.mpr q) Bool.false_ne_true)] at hR
            have hri := rcLt_int A.in1 ⟨hp, g, d, tk, os⟩ a t c u prog w
            wp_walk using hri
            exact ⟨_, rfl, by simpa using hR⟩
    case fin =>
      rintro ⟨b1, b2⟩ s' ⟨hb', rfl, vs, ws, ns', ms', hz, hvi, hwi, hlen, hR⟩
      simp only at hb'
      subst hb'
      have hv : lexLt ns' ms' = decide (items.size < items2.size) := by
        cases hvi with
        | nil =>
          cases hwi with
          | nil =>
            simp only [List.length_nil] at hlen
            rw [lexLt_nil_nil]
            exact (decide_eq_false (by omega)).symm
          | cons c u hw =>
            simp only [List.length_nil, List.length_cons] at hlen
            rw [lexLt_nil_cons]
            exact (decide_eq_true (by omega)).symm
        | cons a t hv =>
          cases hwi with
          | nil =>
            simp only [List.length_nil, List.length_cons] at hlen
            rw [lexLt_cons_nil]
            exact (decide_eq_false (by omega)).symm
          | cons c u hw =>
            rw [List.zip_cons_cons] at hz
            cases hz
      rw [hv] at hR
      wp_walk
      exact ⟨_, rfl, by simpa [Builtin.Tuple.tupleCompareSizes] using hR⟩
    case h =>
      exact ⟨rfl, rfl, items.toList, items2.toList, ns, ms, rfl, hi, hj, by omega, h⟩
end

section
variable {prog : Program} {w : World} {A : Around} {E : Value → Shared → Prop} {s : Shared}

theorem lt_tupInts {l b : Addr} {items items2 : Array Value} {ns ms : List Int} {Q : Value → Shared → Prop} (hl : IsTup s.heap l items) (hb : IsTup s.heap b items2) (hi : IntsAre items.toList ns) (hj : IntsAre items2.toList ms)
    (hu : A.units < cLine) (h : Q (.bool (lexLt ns ms)) s) : wpAny (model prog w) A (compareOp .Lt (.ref l) (.ref b)) Q E s := by
  obtain ⟨⟨cls, dd, data, sl⟩, ho, hc, n, hd⟩ := id hl
  obtain ⟨⟨cls2, dd2, data2, sl2⟩, ho2, hc2, n2, hd2⟩ := id hb
  simp only at hc hd hc2 hd2
  subst hc hd hc2 hd2
  exact richCompare_meets_room (op := .Lt) ⟨_, ho, rfl⟩ ⟨_, ho2, rfl⟩ PySem.F.slot_tuple_lt PySem.F.entry_tuple_lt (PySem.F.args_tuple_lt_2 _ _) (tuple_lt_ints l b items items2 n n2 dd dd2 sl sl2 ns ms hi hj)
    ⟨ho, ho2, show Value.bool (lexLt ns ms) ≠ Value.notImplemented ∧ Q (.bool (lexLt ns ms)) s from ⟨(fun x => nomatch x), h⟩⟩ hu

/-- t + u, t not empty -/
theorem cat_tup {t b : Addr} {vs ws : List Value} {Q : Value → Shared → Prop} (ht : IsTup s.heap t vs.toArray) (hb : IsTup s.heap b ws.toArray) (hv : vs ≠ [])
    (h1 : ws = [] → Q (.ref t) s) (h2 : ws ≠ [] → Q (.ref s.heap.objs.size) { s with heap := s.heap.push { cls := .type "tuple", data := .seq (vs ++ ws).toArray } })
    (hsz : vs.length + ws.length ≤ sizeLine) : wpAny (model prog w) A (binaryOp .Add (.ref t) (.ref b)) Q E s := by
  obtain ⟨⟨cls, dd, data, sl⟩, ho, hc, n, hd⟩ := id ht
  obtain ⟨⟨cls2, dd2, data2, sl2⟩, ho2, hc2, n2, hd2⟩ := id hb
  simp only at hc hd hc2 hd2
  subst hc hd hc2 hd2
  have e : vs.toArray ++ ws.toArray = (vs ++ ws).toArray := by simp
  by_cases hw : ws = []
  · exact concat_meets ⟨_, ho, rfl⟩ ⟨_, ho2, rfl⟩ noFill_tuple_add seq_tuple_add PySem.F.slot_tuple_add PySem.F.entry_tuple_add (PySem.F.args_tuple_add_2 _ _)
      (tuple_addW1 t b vs.toArray ws.toArray n n2 dd dd2 sl sl2 (by simpa using hv) (by simp [hw])) ⟨ho, ho2, h1 hw⟩
  · refine concat_meets ⟨_, ho, rfl⟩ ⟨_, ho2, rfl⟩ noFill_tuple_add seq_tuple_add PySem.F.slot_tuple_add PySem.F.entry_tuple_add (PySem.F.args_tuple_add_2 _ _)
      (tuple_addW2 t b vs.toArray ws.toArray n n2 dd dd2 sl sl2 (by simpa using hv) (by simpa using hw) (by rw [List.size_toArray, List.size_toArray]; exact hsz)) ⟨ho, ho2, ?_⟩
    rw [e]
    exact h2 hw

/-! ### t[a:b], not the whole -/
/-- a slice's bound as a place among n (d where it is left out) -/
def sIx (n d : Nat) : Option Int → Nat
  | none => d
  | some v => if v < 0 then (v + (n : Int)).toNat else min v.toNat n
theorem sIx_none (n d : Nat) : sIx n d none = d := rfl
theorem sIx_nat (n d k : Nat) : sIx n d (some (k : Int)) = min k n := by
  show (if (k : Int) < 0 then ((k : Int) + (n : Int)).toNat else min (k : Int).toNat n) = min k n
  rw [if_neg (by omega), Int.toNat_natCast]
theorem sIx_le (n d : Nat) (hd : d ≤ n) (o : Option Int) : sIx n d o ≤ n := by
  cases o with
  | none => exact hd
  | some v =>
    show (if v < 0 then (v + (n : Int)).toNat else min v.toNat n) ≤ n
    by_cases hv : v < 0
    · rw [if_pos hv]; omega
    · rw [if_neg hv]; exact Nat.min_le_right _ _
theorem clip_eq (v : Int) (n d : Nat) : (if v < 0 then max (v + (n : Int)) 0 else min v (n : Int)) = ((sIx n d (some v) : Nat) : Int) := by
  show (if v < 0 then max (v + (n : Int)) 0 else min v (n : Int)) = (((if v < 0 then (v + (n : Int)).toNat else min v.toNat n) : Nat) : Int)
  by_cases hv : v < 0
  · simp only [if_pos hv]; omega
  · simp only [if_neg hv]; omega
theorem adjust_gen (lo hi : Option Int) (n : Nat) : Builtin.Slice.sliceAdjust lo hi 1 (n : Int) = (((sIx n 0 lo : Nat) : Int), ((sIx n n hi : Nat) : Int)) := by
  have h1 : ¬ ((1 : Int) < 0) := by omega
  unfold Builtin.Slice.sliceAdjust
  simp only [h1, if_false]
  refine Prod.ext ?_ ?_
  · cases lo with
    | none => rfl
    | some v => exact clip_eq v n 0
  · cases hi with
    | none => rfl
    | some v => exact clip_eq v n n
theorem places_gen (i j : Nat) : Builtin.Slice.slicePlaces (i : Int) (j : Int) 1 = j - i := by
  unfold Builtin.Slice.slicePlaces
  have h1 : (1 : Int) > 0 := by omega
  simp only [h1, if_true, Int.ediv_one]
  split <;> omega
theorem slicePart_ {v : Value} {o : Option Int} {Q : Option Int → Shared → Prop} (p : IsPart v o) (h : Q o s) : wpAny (model prog w) A (Builtin.Slice.slicePartIndex v) Q E s := by
  cases p with
  | none => exact slicePart_none h
  | int i t => exact slicePart_int h
theorem sliceApplied_gen {sl : Addr} {vl vu : Value} {lo hi : Option Int} {n : Nat} {Q : Int × Int × Nat → Shared → Prop} (hs : s.heap.IsSliceOf sl vl vu .none) (pl : IsPart vl lo) (pu : IsPart vu hi)
    (h : Q (((sIx n 0 lo : Nat) : Int), 1, sIx n n hi - sIx n 0 lo) s) : wpAny (model prog w) A (Builtin.Slice.sliceApplied (.ref sl) (pure (n : Int))) Q E s := by
  obtain ⟨os, hos, hcs, hds⟩ := id hs
  unfold Builtin.Slice.sliceApplied Builtin.Slice.sliceFields
  refine wpAny_bind (wpAny_bind (wpAny_field hos hds (x := vl) rfl (wpAny_bind (wpAny_field hos hds (x := vu) rfl (wpAny_bind (wpAny_field hos hds (x := .none) rfl (wpAny_pure ?_)))))))
  refine wpAny_bind (slicePart_none ?_)
  show wpAny _ _ (if ((1 : Int) == 0) = true then _ else _) _ _ s
  rw [if_neg (by decide)]
  refine wpAny_bind (slicePart_ pl (wpAny_bind (slicePart_ pu (wpAny_bind (wpAny_pure ?_)))))
  show wpAny _ _ (match Builtin.Slice.sliceAdjust lo hi 1 (n : Int) with | (lo, hi) => pure (lo, (1 : Int), Builtin.Slice.slicePlaces lo hi 1)) _ _ s
  rw [adjust_gen lo hi n]
  show wpAny _ _ (pure (((sIx n 0 lo : Nat) : Int), (1 : Int), Builtin.Slice.slicePlaces ((sIx n 0 lo : Nat) : Int) ((sIx n n hi : Nat) : Int) 1)) _ _ s
  rw [places_gen]
  exact wpAny_pure h
theorem pick_gen (xs : Array Value) (i k : Nat) : ((List.range k).filterMap fun (m : Nat) => xs[((i : Int) + (m : Int) * 1).toNat]?).toArray = ((xs.toList.drop i).take k).toArray := by
  have e : (fun (m : Nat) => xs[((i : Int) + (m : Int) * 1).toNat]?) = fun m => xs[i + m]? := by
    funext m
    have : ((i : Int) + (m : Int) * 1).toNat = i + m := by omega
    rw [this]
  rw [e]
  have := pick_run xs i k
  rw [List.filterMap_map] at this
  have e2 : ((fun x => xs[x]?) ∘ fun x => i + x) = fun m => xs[i + m]? := rfl
  rw [e2] at this
  rw [this]

theorem getItem_tuple_cut {t sl : Addr} {items : Array Value} {vl vu : Value} {lo hi : Option Int} {Q : Value → Shared → Prop} (ht : IsTup s.heap t items) (hs : s.heap.IsSliceOf sl vl vu .none) (pl : IsPart vl lo) (pu : IsPart vu hi)
    (hw : ¬ (sIx items.size 0 lo = 0 ∧ sIx items.size items.size hi = items.size))
    (h : Q (.ref s.heap.objs.size) { s with heap := s.heap.push { cls := .type "tuple", data := .seq ((items.toList.drop (sIx items.size 0 lo)).take (sIx items.size items.size hi - sIx items.size 0 lo)).toArray } })
    (hsz : items.size ≤ sizeLine) : wpAny (model prog w) A (getItem (.ref t) (.ref sl)) Q E s := by
  have htake : sizeOk (.seq ((items.toList.drop (sIx items.size 0 lo)).take (sIx items.size items.size hi - sIx items.size 0 lo)).toArray) := by
    show ((items.toList.drop (sIx items.size 0 lo)).take (sIx items.size items.size hi - sIx items.size 0 lo)).toArray.size ≤ sizeLine
    rw [List.size_toArray, List.length_take, List.length_drop, Array.length_toList]
    omega
  have hj : sIx items.size items.size hi ≤ items.size := sIx_le _ _ (Nat.le_refl _) hi
  obtain ⟨os, hos, hcs, hds⟩ := id hs
  have hTs : s.TypeIs (.ref sl) "slice" := ⟨os, hos, hcs⟩
  unfold getItem
  try with_reducible refine wpAny_holding ?_
  first | refine wpAny_bind (wpAny_pure ?_) | skip
  refine wpAny_bind (wpAny_sequenceKey ht.typeIs (by decide) ?_)
  refine wpAny_bind (wpAny_callSpecial?_slot (name := Str.ofString "__getitem__") ht.typeIs PyProof.Rows.slot_tuple_getitem
    (wpAny_call_entry PyProof.Rows.slot_tuple_getitem ht.typeIs entry_tuple_getitem ?_ (args_tuple_getitem _ _)))
  show wpAny _ _ (Builtin.Tuple.tupleItemsOf (.ref t) >>= _) _ _ s
  refine wpAny_bind (tupleItemsOf_ ht ?_)
  refine wpAny_bind (wpAny_typeOf hTs ?_)
  rw [if_pos (by decide)]
  refine wpAny_bind (sliceApplied_gen hs pl pu ?_)
  have hno : ¬ ((((sIx items.size 0 lo : Nat) : Int) == 0 && (1 : Int) == 1 && (sIx items.size items.size hi - sIx items.size 0 lo) == items.size) = true) := by
    intro q
    rw [Bool.and_eq_true, Bool.and_eq_true] at q
    have q1 : ((sIx items.size 0 lo : Nat) : Int) = 0 := eq_of_beq q.1.1
    have q2 : sIx items.size items.size hi - sIx items.size 0 lo = items.size := eq_of_beq q.2
    exact hw ⟨by omega, by omega⟩
  show wpAny _ _ (if (((sIx items.size 0 lo : Nat) : Int) == 0 && (1 : Int) == 1 && (sIx items.size items.size hi - sIx items.size 0 lo) == items.size) = true then _ else _) _ _ s
  rw [if_neg hno, pick_gen]
  first
    | exact wpAny_bind (m := Builtin.Tuple.tupleExact _) (wpAny_newObj_type (wpAny_pure ⟨_, rfl, wpAny_pure h⟩) htake)
    | exact wpAny_bind (m := Builtin.Tuple.tupleExact _) (wpAny_newObj_type (wpAny_bind (wpAny_pure (wpAny_pure ⟨_, rfl, wpAny_pure h⟩))) htake)
    | exact wpAny_bind (wpAny_bind (m := Builtin.Tuple.tupleExact _) (wpAny_newObj_type (wpAny_pure (wpAny_pure ⟨_, rfl, wpAny_pure h⟩)) htake))
    | exact wpAny_bind (wpAny_bind (m := Builtin.Tuple.tupleExact _) (wpAny_newObj_type (wpAny_pure ⟨_, rfl, wpAny_pure h⟩) htake))
end
end HT

namespace L2
open PySem PySem.Spec PyProof.Rows

/-! ### the parts of a slice -/
abbrev TO := St → Hp → (Option Int → Hp → Prop) → Prop
/-- a slice's part (left out, or an int) -/
def PO (X : Cx) (e : Option Expr) (t : TO) : Prop :=
  ∀ (pins : List (Addr × Obj)) (s : Shared) (σ : St) (H : Hp) (Q : Option Int → Hp → Prop), Inv X pins σ H s → t σ H Q →
    wpAny (model X.prog X.w) X.A (evalPart e X.env) (fun u s' => ∃ o H', Inv X pins σ H' s' ∧ IsPart u o ∧ Q o H') X.xe s
def tNoPart : TO := fun _ H Q => Q none H
def tPart (t : TE) : TO := fun σ H Q => t σ H fun x H1 => ∃ i, x = .int i ∧ Q (some i) H1

theorem intsAre_of {ns : List Int} : ∀ {us : List Value}, Vals (ns.map V.int) us → IntsAre us ns := by
  induction ns with
  | nil => intro us r; rw [List.map_nil] at r; cases r; exact .nil
  | cons n ns ih =>
    intro us r
    rw [List.map_cons] at r
    cases r with
    | cons r1 r2 =>
      obtain ⟨t, e⟩ := r1
      subst e
      exact .cons n t (ih r2)

section
variable {X : Cx} {e : Expr} {te : TE} {lo hi : Option Expr} {tl th : TO} {pos p2 : Pos}

theorem po_none : PO X none tNoPart := by
  intro pins s σ H Q I h
  rw [evalPart_none]
  exact wpAny_pure ⟨none, H, I, .none, h⟩
theorem po_some (h : PE X e te) : PO X (some e) (tPart te) := by
  intro pins s σ H Q I hw
  rw [evalPart_some]
  refine thn (h pins s σ H _ I hw) fun u s1 ⟨x, H1, I1, r1, q1⟩ => ?_
  obtain ⟨i, rfl, q⟩ := q1
  obtain ⟨t, rfl⟩ := r1
  exact ⟨some i, H1, I1, .int i t, q⟩

/-- what a slice of a value is, by values: the slice object stands at sl -/
def SlR (X : Cx) (r : V → Option Int → Option Int → Hp → VK → Prop) : Prop :=
  ∀ (pins : List (Addr × Obj)) (s : Shared) (σ : St) (H : Hp) (x : V) (v vl vu : Value) (lo hi : Option Int) (sl : Addr) (Q : VK), Inv X pins σ H s → RelV x v → s.heap.IsSliceOf sl vl vu .none → IsPart vl lo → IsPart vu hi → r x lo hi H Q →
    ∃ T id, typeLookup (.type T) "__getitem__" = pure (some (.builtin id)) ∧ s.TypeIs v T ∧ wpAny (model X.prog X.w) X.A (getItem v (.ref sl)) (EP X pins σ Q) X.xe s
theorem SlR.or {r r' : V → Option Int → Option Int → Hp → VK → Prop} (h : SlR X r) (h' : SlR X r') : SlR X (fun x lo hi H Q => r x lo hi H Q ∨ r' x lo hi H Q) := by
  intro pins s σ H x v vl vu lo hi sl Q I rx hs pl pu q
  rcases q with q | q
  · exact h pins s σ H x v vl vu lo hi sl Q I rx hs pl pu q
  · exact h' pins s σ H x v vl vu lo hi sl Q I rx hs pl pu q
def tSl (r : V → Option Int → Option Int → Hp → VK → Prop) (te : TE) (tl th : TO) : TE := fun σ H Q => te σ H fun x H1 => tl σ H1 fun l H2 => th σ H2 fun u H3 => r x l u H3 Q
/-- a[lo:hi], any a -/
theorem pe_slice {r : V → Option Int → Option Int → Hp → VK → Prop} (hr : SlR X r) (he : PE X e te) (hl : PO X lo tl) (hu : PO X hi th) : PE X (.Subscript e (.Slice lo hi none p2) pos) (tSl r te tl th) := by
  intro pins s σ H Q I h
  refine Subscript_ (thn (he pins s σ H _ I h) fun v s1 ⟨x, H1, I1, r1, q1⟩ => ?_)
  refine wpAny_Slice (thn (hl pins s1 σ H1 _ I1 q1) fun vl s2 ⟨l, H2, I2, pl, q2⟩ => thn (hu pins s2 σ H2 _ I2 q2) fun vu s3 ⟨u, H3, I3, pu, q3⟩ => ?_)
  rw [evalPart_none]
  refine wpAny_pure ?_
  have I4 : Inv X pins σ H3 { s3 with heap := s3.heap.push { cls := .type "slice", data := .fields #[vl, vu, .none] } } := I3.kept (t' := s3.toks) fun b ob q => Heap.get?_push_of_some _ q
  obtain ⟨T, id, hT, ht, hg⟩ := hr pins { s3 with heap := s3.heap.push { cls := .type "slice", data := .fields #[vl, vu, .none] } } σ H3 x v vl vu l u s3.heap.objs.size Q I4 r1 (Heap.IsSliceOf.new ..) pl pu q3
  show wpAny (model X.prog X.w) X.A (subscriptTail e (.Slice lo hi none p2) v (.ref s3.heap.objs.size)) (EP X pins σ Q) X.xe { s3 with heap := s3.heap.push { cls := .type "slice", data := .fields #[vl, vu, .none] } }
  exact tail_any (ops := [.ref s3.heap.objs.size, v]) ht hT hg (by with_unfolding_all rfl)

/-- the items of xs[lo:hi] -/
def cutV (xs : List V) (lo hi : Option Int) : List V := (xs.drop (HT.sIx xs.length 0 lo)).take (HT.sIx xs.length xs.length hi - HT.sIx xs.length 0 lo)
theorem cutV_length (xs : List V) (lo hi : Option Int) : (cutV xs lo hi).length ≤ xs.length := by
  unfold cutV
  rw [List.length_take, List.length_drop]
  omega
/-- t[lo:hi], not the whole of it (the whole would be t itself) -/
def rSlT (K : PySem.W.Frag) : V → Option Int → Option Int → Hp → VK → Prop := fun x lo hi H Q => ∃ a xs, x = .ref a ∧ SqT K H a xs ∧
  ¬ (HT.sIx xs.length 0 lo = 0 ∧ HT.sIx xs.length xs.length hi = xs.length) ∧ ∀ p, H p = none → Q (.ref p) (upd H p (.tup (cutV xs lo hi)))
theorem sl_tup : SlR X (rSlT X.K) := by
  intro pins s σ H x v vl vu lo hi sl Q I rx hs pl pu h
  obtain ⟨a, xs, rfl, hx, hw, q⟩ := h
  cases rx
  obtain ⟨its, r, ht, hz⟩ := I.tuple hx
  have hlen : its.toArray.size = xs.length := by rw [List.size_toArray]; exact r.length.symm
  refine ⟨"tuple", _, PyProof.Rows.slot_tuple_getitem.lookup, ht.typeIs, ?_⟩
  refine HT.getItem_tuple_cut ht hs pl pu (by rw [hlen]; exact hw) ?_ (by rw [hlen]; exact hz)
  rw [hlen]
  refine ⟨.ref s.heap.objs.size, _, I.laid (t' := s.toks) (o := .tup (cutV xs lo hi)) (fun b ob q => Heap.get?_push_of_some _ q) (Nat.le_refl _) ?_, rfl, q _ (I.hok.fresh (Nat.le_refl _))⟩
  exact ⟨Nat.le_trans (cutV_length xs lo hi) hz, _, (r.drop (HT.sIx xs.length 0 lo)).take (HT.sIx xs.length xs.length hi - HT.sIx xs.length 0 lo), IsTup.new _ _⟩

/-! ### t < u, t + u -/
def rLtT (K : PySem.W.Frag) : R2 := fun x y H Q => ∃ a b ns ms, x = .ref a ∧ y = .ref b ∧ SqT K H a (ns.map V.int) ∧ SqT K H b (ms.map V.int) ∧ Q (.bl (HT.lexLt ns ms)) H
theorem op_ltT (hu : X.A.units < cLine) : OpR X (compareOp .Lt) (rLtT X.K) := by
  intro pins s σ H x y v u Q I rx ry h
  obtain ⟨a, b, ns, ms, rfl, rfl, ha, hb, q⟩ := h
  cases rx
  cases ry
  obtain ⟨its, r1, p1, _⟩ := I.tuple ha
  obtain ⟨its2, r2, p2, _⟩ := I.tuple hb
  have i1 : IntsAre its.toArray.toList ns := intsAre_of r1
  have i2 : IntsAre its2.toArray.toList ms := intsAre_of r2
  exact HT.lt_tupInts p1 p2 i1 i2 hu ⟨.bl (HT.lexLt ns ms), H, I, rfl, q⟩
/-- t + u, t not empty: u empty gives t itself -/
def rCatT (K : PySem.W.Frag) : R2 := fun x y H Q => ∃ a b xs ys, x = .ref a ∧ y = .ref b ∧ SqT K H a xs ∧ SqT K H b ys ∧ xs ≠ [] ∧ xs.length + ys.length ≤ sizeLine ∧
  (ys = [] → Q (.ref a) H) ∧ (ys ≠ [] → ∀ p, H p = none → Q (.ref p) (upd H p (.tup (xs ++ ys))))
theorem Vals.nil_iff {xs : List V} {us : List Value} (r : Vals xs us) : us = [] ↔ xs = [] := by
  cases r with
  | nil => simp
  | cons _ _ => simp
theorem op_catT : OpR X (binaryOp .Add) (rCatT X.K) := by
  intro pins s σ H x y v u Q I rx ry h
  obtain ⟨a, b, xs, ys, rfl, rfl, ha, hb, hx, hz, q1, q2⟩ := h
  cases rx
  cases ry
  obtain ⟨its, r1, p1, _⟩ := I.tuple ha
  obtain ⟨its2, r2, p2, _⟩ := I.tuple hb
  refine HT.cat_tup p1 p2 (fun z => hx (r1.nil_iff.mp z)) (fun z => ⟨.ref a, H, I, rfl, q1 (r2.nil_iff.mp z)⟩) (fun z => ?_) (by rw [← r1.length, ← r2.length]; exact hz)
  refine ⟨.ref s.heap.objs.size, _, I.laid (t' := s.toks) (o := .tup (xs ++ ys)) (fun b ob q => Heap.get?_push_of_some _ q) (Nat.le_refl _) ?_, rfl, q2 (fun w => z (r2.nil_iff.mpr w)) _ (I.hok.fresh (Nat.le_refl _))⟩
  exact ⟨by rw [List.length_append]; exact hz, _, r1.append r2, IsTup.new _ _⟩
/-- tuple(t) -/
theorem call_tupleT : CallR X (.type "tuple") (fun xs H Q => ∃ a ys, xs = [.ref a] ∧ SqT X.K H a ys ∧ Q (.ref a) H) := by
  intro pins s σ H xs us Q I r h
  obtain ⟨a, ys, rfl, ha, q⟩ := h
  obtain ⟨u, rfl, ru⟩ := vals1 r
  cases ru
  obtain ⟨its, _, p1, _⟩ := I.tuple ha
  exact call_tuple_same (items := its.toArray) p1 ⟨.ref a, H, I, rfl, q⟩
end
end L2

namespace L2
open PySem PySem.Spec PyProof.Rows

/-! ### places -/
/-- the place that an index of any sign means -/
def ixN (n : Nat) (i : Int) : Option Nat := if 0 ≤ i then (if i < n then some i.toNat else none) else if -(n : Int) ≤ i then some (i + n).toNat else none
def atI {α : Type} (xs : List α) (i : Int) : Option α := (ixN xs.length i).bind fun j => xs[j]?
theorem ixN_seq {n : Nat} {i : Int} {j : Nat} (h : ixN n i = some j) : seqIndex? i n = some j ∧ j < n ∧ -(n : Int) ≤ i ∧ i < n := by
  unfold ixN at h
  by_cases h0 : 0 ≤ i
  · rw [if_pos h0] at h
    by_cases h1 : i < n
    · rw [if_pos h1] at h
      have e : i.toNat = j := Option.some.inj h
      exact ⟨by rw [seqIndex_of h0 h1, e], by omega, by omega, h1⟩
    · rw [if_neg h1] at h; cases h
  · rw [if_neg h0] at h
    by_cases h1 : -(n : Int) ≤ i
    · rw [if_pos h1] at h
      have e : (i + n).toNat = j := Option.some.inj h
      exact ⟨by rw [seqIndex_neg (by omega) h1, e], by omega, h1, by omega⟩
    · rw [if_neg h1] at h; cases h
theorem atI_get {α : Type} {xs : List α} {i : Int} {v : α} (h : atI xs i = some v) : ∃ j, seqIndex? i xs.length = some j ∧ xs[j]? = some v ∧ j < xs.length ∧ -(xs.length : Int) ≤ i ∧ i < xs.length := by
  unfold atI at h
  cases e : ixN xs.length i with
  | none => rw [e] at h; cases h
  | some j =>
    rw [e] at h
    obtain ⟨h1, h2, h3, h4⟩ := ixN_seq e
    exact ⟨j, h1, h, h2, h3, h4⟩
theorem atI_nat {α : Type} {xs : List α} {j : Nat} {v : α} (h : xs[j]? = some v) : atI xs (j : Int) = some v := by
  have hj : j < xs.length := (List.getElem?_eq_some_iff.mp h).1
  have e : ixN xs.length (j : Int) = some j := by
    unfold ixN
    rw [if_pos (by omega), if_pos (by omega)]; simp
  unfold atI; rw [e]; exact h
theorem atI_last {α : Type} (xs : List α) (v : α) : atI (xs ++ [v]) (-1) = some v := by
  have hl : (xs ++ [v]).length = xs.length + 1 := by simp
  have e : ixN (xs ++ [v]).length (-1) = some xs.length := by
    unfold ixN
    rw [hl, if_neg (by decide), if_pos (by omega)]
    congr 1
    omega
  unfold atI
  rw [e]
  show (xs ++ [v])[xs.length]? = some v
  simp

/-! ### what may be subscripted -/
/-- what stands as an index of a plain subscript -/
def PlainIx (b : Expr) : Prop := ∀ o i, subscripted b false o i = operate [o, i] (getItem o i)
/-- a subscript by values -/
def IxR (X : Cx) (r : R2) : Prop :=
  ∀ (value slice : Expr) (pins : List (Addr × Obj)) (s : Shared) (σ : St) (H : Hp) (x y : V) (v u : Value) (Q : VK), Inv X pins σ H s → RelV x v → RelV y u → r x y H Q →
    subscripted slice false v u = operate [v, u] (getItem v u) → wpAny (model X.prog X.w) X.A (subscriptTail value slice v u) (EP X pins σ Q) X.xe s
/-- a call of a builtin's method by values: the receiver, the arguments -/
def MtR (X : Cx) (id : String) (r : V → List V → Hp → VK → Prop) : Prop :=
  ∀ (pins : List (Addr × Obj)) (s : Shared) (σ : St) (H : Hp) (x : V) (xs : List V) (v : Value) (us : List Value) (Q : VK), Inv X pins σ H s → RelV x v → Vals xs us → r x xs H Q →
    wpAny (model X.prog X.w) X.A (call (.builtin id) (v :: us)) (EP X pins σ Q) X.xe s
section
variable {X : Cx} {a b : Expr} {ta tb : TE} {pos : Pos}
theorem IxR.or {r r' : R2} (h : IxR X r) (h' : IxR X r') : IxR X (fun x y H Q => r x y H Q ∨ r' x y H Q) := by
  intro value slice pins s σ H x y v u Q I rx ry q hs
  rcases q with q | q
  · exact h value slice pins s σ H x y v u Q I rx ry q hs
  · exact h' value slice pins s σ H x y v u Q I rx ry q hs
theorem MtR.or {id : String} {r r' : V → List V → Hp → VK → Prop} (h : MtR X id r) (h' : MtR X id r') : MtR X id (fun x xs H Q => r x xs H Q ∨ r' x xs H Q) := by
  intro pins s σ H x xs v us Q I rx rs q
  rcases q with q | q
  · exact h pins s σ H x xs v us Q I rx rs q
  · exact h' pins s σ H x xs v us Q I rx rs q
/-- a[b] -/
theorem pe_ix {r : R2} (hr : IxR X r) (ha : PE X a ta) (hb : PE X b tb) (hs : PlainIx b) : PE X (.Subscript a b pos) (tOp r ta tb) := by
  intro pins s σ H Q I h
  exact Subscript_ (binT ha hb I h fun v u s2 x y H2 I2 rx ry q => hr a b pins s2 σ H2 x y v u Q I2 rx ry q (hs _ _))

def rIxL (K : PySem.W.Frag) : R2 := fun x y H Q => ∃ p xs i v, x = .ref p ∧ y = .int i ∧ SqL K H p xs ∧ atI xs i = some v ∧ Q v H
def rIxT (K : PySem.W.Frag) : R2 := fun x y H Q => ∃ p xs i v, x = .ref p ∧ y = .int i ∧ SqT K H p xs ∧ atI xs i = some v ∧ Q v H
def rIxS : R2 := fun x y H Q => ∃ z i c, x = .str z ∧ y = .int i ∧ z.length ≤ sizeLine ∧ atI z.cps.toList i = some c ∧ Q (.str ⟨#[c]⟩) H
theorem ix_list : IxR X (rIxL X.K) := by
  intro value slice pins s σ H x y v u Q I rx ry h hs
  obtain ⟨p, xs, i, z, rfl, rfl, hq, he, q⟩ := h
  cases rx
  obtain ⟨t, rfl⟩ := ry
  obtain ⟨its, r, pl, hz⟩ := I.list hq
  obtain ⟨j, h1, h2, h3, h4, h5⟩ := atI_get he
  obtain ⟨w, ew, rw'⟩ := r.get h2
  have hl := r.length
  have hn := line63
  have fin : EP X pins σ Q w s := ⟨z, H, I, rw', q⟩
  by_cases h0 : 0 ≤ i
  · have hj : i.toNat = j := by
      rw [seqIndex_of h0 h5] at h1
      exact Option.some.inj h1
    exact item_listR pl.isList h0 (by omega) (by rw [hj]; simpa using ew) fin hs
  · have hj : (i + (its.toArray.size : Int)).toNat = j := by
      rw [seqIndex_neg (by omega) h4] at h1
      rw [List.size_toArray, ← hl]
      exact Option.some.inj h1
    exact subscriptTail_builtinR (x := w) pl.isList.typeIs slot_list_getitem.lookup
      (wpAny_getItem_list_neg (Q := fun r s' => r = w ∧ EP X pins σ Q r s') pl.isList (by omega) (by rw [List.size_toArray] <;> omega) (by omega) (by rw [hj]; simpa using ew) ⟨rfl, fin⟩) hs
theorem ix_tup : IxR X (rIxT X.K) := by
  intro value slice pins s σ H x y v u Q I rx ry h hs
  obtain ⟨p, xs, i, z, rfl, rfl, hq, he, q⟩ := h
  cases rx
  obtain ⟨t, rfl⟩ := ry
  obtain ⟨its, r, pl, hz⟩ := I.tuple hq
  obtain ⟨j, h1, h2, h3, h4, h5⟩ := atI_get he
  obtain ⟨w, ew, rw'⟩ := r.get h2
  have hl := r.length
  have hn := line63
  have fin : EP X pins σ Q w s := ⟨z, H, I, rw', q⟩
  exact subscriptTail_builtinR (x := w) pl.typeIs slot_tuple_getitem.lookup
    (getItem_tuple (j := j) (Q := fun r s' => r = w ∧ EP X pins σ Q r s') pl (by omega) (by omega) (by rw [List.size_toArray, ← hl]; exact h1) (by simpa using ew) ⟨rfl, fin⟩) hs
theorem ix_str : IxR X rIxS := by
  intro value slice pins s σ H x y v u Q I rx ry h hs
  obtain ⟨z, i, c, rfl, rfl, hz, he, q⟩ := h
  obtain ⟨t, rfl⟩ := rx
  obtain ⟨t', rfl⟩ := ry
  obtain ⟨j, h1, h2, h3, h4, h5⟩ := atI_get he
  have hl : z.cps.toList.length = z.length := by simp [Str.length]
  rw [hl] at h1 h4 h5
  have hn := line63
  exact tail_any (typeIs_str s z t) slot_str_getitem.lookup (getItem_str (c := c) (by
    have e1 : decide (i < -(2 ^ 63 : Int)) = false := decide_eq_false (by omega)
    have e2 : decide (i ≥ 2 ^ 63) = false := decide_eq_false (by omega)
    rw [e1, e2, Bool.or_false]) (by rw [h1]; simpa using h2) ⟨.str ⟨#[c]⟩, H, I.tok _, ⟨_, rfl⟩, q⟩) hs
/-- list, tuple or str -/
def rIx (K : PySem.W.Frag) : R2 := fun x y H Q => rIxL K x y H Q ∨ rIxT K x y H Q ∨ rIxS x y H Q
theorem ix_seq : IxR X (rIx X.K) := ix_list.or (ix_tup.or ix_str)

/-! ### xs[i] = v, any sign -/
/-- the list's object behind a store -/
theorem mapSeq_set (its : List Value) (n j : Nat) (u : Value) : Obj.mapSeq (·.setIfInBounds j u) { cls := .type "list", data := .seq its.toArray n } = { cls := .type "list", data := .seq (its.set j u).toArray n } := by
  simp [Obj.mapSeq]
theorem Inv.lst {pins : List (Addr × Obj)} {σ : St} {H : Hp} {s : Shared} {p : Addr} {xs : List V} (I : Inv X pins σ H s) (h : H p = some (.lst xs)) :
    ∃ (its : List Value) (n : Nat), Vals xs its ∧ s.heap.get? p = some { cls := .type "list", data := .seq its.toArray n } ∧ xs.length ≤ sizeLine := by
  obtain ⟨z, its, n, r, e⟩ := I.hok p _ h
  exact ⟨its, n, r, e, z⟩
/-- the list at p is written by an update of its object -/
theorem Inv.lstUpd {pins : List (Addr × Obj)} {σ : St} {H : Hp} {s : Shared} {p : Addr} {xs ys : List V} {its its' : List Value} {n n' : Nat} {f : Obj → Obj} (I : Inv X pins σ H s) (h : H p = some (.lst xs))
    (ho : s.heap.get? p = some { cls := .type "list", data := .seq its.toArray n }) (hf : f { cls := .type "list", data := .seq its.toArray n } = { cls := .type "list", data := .seq its'.toArray n' }) (r : Vals ys its') (hz : ys.length ≤ sizeLine) (t : Nat) :
    Inv X pins σ (upd H p (.lst ys)) { s with heap := s.heap.update p f, toks := t } := by
  have e : (s.heap.update p f).get? p = some { cls := .type "list", data := .seq its'.toArray n' } := by
    rw [Heap.get?_update_self f ho (by rw [hf] <;> rfl), hf]
  refine I.write (x := p) (e := p) (by rw [h]; trivial) (.inl rfl) (fun b u hb q => (Heap.get?_update_other _ _ (Ne.symm hb)).trans q) ⟨_, e⟩ ?_
  exact ⟨hz, its', n', r, e⟩
def rSetL : V → V → V → Hp → (Hp → Prop) → Prop := fun o i v H Q => ∃ p xs k j, o = .ref p ∧ i = .int k ∧ H p = some (.lst xs) ∧ ixN xs.length k = some j ∧ Q (upd H p (.lst (xs.set j v)))
theorem set_list : PSet X rSetL := by
  intro pins s σ H o i v ov iv u Q I ro ri rv h
  obtain ⟨p, xs, k, j, rfl, rfl, hp, hj, q⟩ := h
  cases ro
  obtain ⟨t, rfl⟩ := ri
  obtain ⟨its, n, r, ho, hz⟩ := I.lst hp
  obtain ⟨h1, h2, h3, h4⟩ := ixN_seq hj
  have hl := r.length
  have hn := line63
  have I' : Inv X pins σ (upd H p (.lst (xs.set j v))) { s with heap := s.heap.update p (Obj.mapSeq (·.setIfInBounds j u)) } :=
    I.lstUpd hp ho (mapSeq_set its n j u) (r.set rv j) (by rw [List.length_set]; exact hz) s.toks
  by_cases h0 : 0 ≤ k
  · have hk : k.toNat = j := by
      rw [seqIndex_of h0 h4] at h1
      exact Option.some.inj h1
    exact PySem.W.ki_setAt ho h0 (by omega) (by rw [List.size_toArray, ← hl]; exact h4) (by rw [hk]; exact ⟨_, I', q⟩)
  · have hk : (k + (its.toArray.size : Int)).toNat = j := by
      rw [seqIndex_neg (by omega) h3] at h1
      rw [List.size_toArray, ← hl]
      exact Option.some.inj h1
    exact PySem.W.ki_setBack ho (by omega) (by rw [List.size_toArray, ← hl]; exact h3) (by omega) (by rw [hk]; exact ⟨_, I', q⟩)

/-! ### slices -/
theorem slice_bounds (lo hi : Option Int) (n : Nat) : (sliceBounds lo hi none n).1 = ((HT.sIx n 0 lo : Nat) : Int) ∧ (sliceBounds lo hi none n).2.1 = ((HT.sIx n n hi : Nat) : Int) ∧ (sliceBounds lo hi none n).2.2 = 1 := by
  refine ⟨?_, ?_, rfl⟩
  · cases lo with
    | none => simp [sliceBounds, HT.sIx]
    | some i =>
      simp only [sliceBounds, HT.sIx, Option.getD_none, show (1 : Int) > 0 by decide, if_true]
      by_cases h : i < 0
      · simp only [h, if_true] <;> omega
      · simp only [h, if_false] <;> omega
  · cases hi with
    | none => simp [sliceBounds, HT.sIx]
    | some i =>
      simp only [sliceBounds, HT.sIx, Option.getD_none, show (1 : Int) > 0 by decide, if_true]
      by_cases h : i < 0
      · simp only [h, if_true] <;> omega
      · simp only [h, if_false] <;> omega
theorem slicePick_cut (its : List Value) (lo hi : Option Int) : slicePick its.toArray lo hi none = ((its.drop (HT.sIx its.length 0 lo)).take (HT.sIx its.length its.length hi - HT.sIx its.length 0 lo)).toArray := by
  obtain ⟨h1, h2, h3⟩ := slice_bounds lo hi its.toArray.size
  unfold slicePick
  rw [h1, h2, h3]
  simp only [sliceRange_one, pick_run, List.size_toArray] <;> rfl
/-- xs[lo:hi] of a list: a new list -/
def rSlL (K : PySem.W.Frag) : V → Option Int → Option Int → Hp → VK → Prop := fun x lo hi H Q => ∃ a xs, x = .ref a ∧ SqL K H a xs ∧ ∀ p, H p = none → Q (.ref p) (upd H p (.lst (cutV xs lo hi)))
theorem sl_list : SlR X (rSlL X.K) := by
  intro pins s σ H x v vl vu lo hi sl Q I rx hs pl pu h
  obtain ⟨a, xs, rfl, hx, q⟩ := h
  cases rx
  obtain ⟨its, r, ht, hz⟩ := I.list hx
  have hlen := r.length
  refine ⟨"list", _, slot_list_getitem.lookup, ht.isList.typeIs, ?_⟩
  refine wpAny_getItem_list_slice ht.isList hs pl pu .none (by simp) ?_ (by rw [List.size_toArray] <;> omega)
  rw [slicePick_cut, ← hlen]
  refine ⟨.ref s.heap.objs.size, _, I.laid (t' := s.toks) (o := .lst (cutV xs lo hi)) (fun b ob q => Heap.get?_push_of_some _ q) (Nat.le_refl _) ?_, rfl, q _ (I.hok.fresh (Nat.le_refl _))⟩
  exact ⟨Nat.le_trans (cutV_length xs lo hi) hz, _, 0, (r.drop (HT.sIx xs.length 0 lo)).take (HT.sIx xs.length xs.length hi - HT.sIx xs.length 0 lo), Heap.get?_push_size _ rfl⟩

/-! ### in, not in: flat items -/
def flatV : V → Bool
  | .non => true
  | .bl _ => true
  | .int _ => true
  | .str _ => true
  | _ => false
/-- == of flat values -/
def eqV : V → V → Bool
  | .non, .non => true
  | .bl a, .bl b => a == b
  | .bl a, .int b => (if a then 1 else 0) == b
  | .int a, .bl b => a == (if b then 1 else 0)
  | .int a, .int b => a == b
  | .str a, .str b => a == b
  | _, _ => false
theorem eqAt_V {A : Around} {s : Shared} {y x : V} {u v : Value} (ry : RelV y u) (rx : RelV x v) (fy : flatV y = true) (fx : flatV x = true) : SeqAt.EqAt A s u v (eqV y x) := by
  cases y with
  | non =>
    cases ry
    cases x with
    | non => cases rx; exact SeqAt.EqAt.same _
    | bl b => cases rx; exact SeqAt.EqAt.none_bool b
    | int b => obtain ⟨t, rfl⟩ := rx; exact SeqAt.EqAt.none_int b t
    | str b => obtain ⟨t, rfl⟩ := rx; exact SeqAt.EqAt.none_str b t
    | _ => exact absurd (show false = true from fx) Bool.false_ne_true
  | bl a =>
    cases ry
    cases x with
    | non => cases rx; exact SeqAt.EqAt.bool_none a
    | bl b => cases rx; exact SeqAt.EqAt.bool_bool a b
    | int b => obtain ⟨t, rfl⟩ := rx; exact SeqAt.EqAt.bool_int a b t
    | str b => obtain ⟨t, rfl⟩ := rx; exact SeqAt.EqAt.bool_str a b t
    | _ => exact absurd (show false = true from fx) Bool.false_ne_true
  | int a =>
    obtain ⟨t', rfl⟩ := ry
    cases x with
    | non => cases rx; exact SeqAt.EqAt.int_none a t'
    | bl b => cases rx; exact SeqAt.EqAt.int_bool a t' b
    | int b => obtain ⟨t, rfl⟩ := rx; exact SeqAt.EqAt.int_int a t' b t
    | str b => obtain ⟨t, rfl⟩ := rx; exact SeqAt.EqAt.int_str a t' b t
    | _ => exact absurd (show false = true from fx) Bool.false_ne_true
  | str a =>
    obtain ⟨t', rfl⟩ := ry
    cases x with
    | non => cases rx; exact SeqAt.EqAt.str_none a t'
    | bl b => cases rx; exact SeqAt.EqAt.str_bool a t' b
    | int b => obtain ⟨t, rfl⟩ := rx; exact SeqAt.EqAt.str_int a t' b t
    | str b => obtain ⟨t, rfl⟩ := rx; exact SeqAt.EqAt.str_str a t' b t
    | _ => exact absurd (show false = true from fx) Bool.false_ne_true
  | _ => exact absurd (show false = true from fy) Bool.false_ne_true
/-- the items' answers, read off the values (a value's own answer does not lean on its token) -/
def eqU (x : V) (u : Value) : Bool := match u with
  | .none => eqV .non x
  | .bool b => eqV (.bl b) x
  | .int i _ => eqV (.int i) x
  | .str z _ => eqV (.str z) x
  | _ => false
theorem eqU_of {x y : V} {u : Value} (r : RelV y u) (f : flatV y = true) : eqU x u = eqV y x := by
  cases y with
  | non => cases r; rfl
  | bl b => cases r; rfl
  | int i => obtain ⟨t, rfl⟩ := r; rfl
  | str z => obtain ⟨t, rfl⟩ := r; rfl
  | _ => exact absurd (show false = true from f) Bool.false_ne_true
theorem any_eqU {x : V} : ∀ {xs : List V} {us : List Value}, Vals xs us → xs.all flatV = true → us.any (eqU x) = xs.any fun y => eqV y x
  | _, _, .nil, _ => rfl
  | y :: xs, u :: us, .cons r t, f => by
    rw [List.all_cons, Bool.and_eq_true] at f
    rw [List.any_cons, List.any_cons, eqU_of r f.1, any_eqU t f.2]
theorem mem_eqAt {A : Around} {s : Shared} {x : V} {v : Value} (rx : RelV x v) (fx : flatV x = true) : ∀ {xs : List V} {us : List Value}, Vals xs us → xs.all flatV = true → ∀ u ∈ us, SeqAt.EqAt A s u v (eqU x u)
  | _, _, .nil, _ => fun u hu => by cases hu
  | y :: xs, u :: us, .cons r t, f => fun u' hu => by
    rw [List.all_cons, Bool.and_eq_true] at f
    rcases List.mem_cons.mp hu with rfl | hu
    · rw [eqU_of r f.1]; exact eqAt_V r rx f.1 fx
    · exact mem_eqAt rx fx t f.2 u' hu
def inV (x : V) (xs : List V) : Bool := xs.any fun y => eqV y x
/-- x in a list or tuple of flat items -/
def rIn (K : PySem.W.Frag) (neg : Bool) : R2 := fun x y H Q => ∃ p xs, y = .ref p ∧ (SqL K H p xs ∨ SqT K H p xs) ∧ flatV x = true ∧ xs.all flatV = true ∧ Q (.bl (if neg then !inV x xs else inV x xs)) H
theorem op_in_seq : OpR X (compareOp .In) (rIn X.K false) := by
  intro pins s σ H x y v u Q I rx ry h
  obtain ⟨p, xs, rfl, hq, fx, fs, q⟩ := h
  cases ry
  rcases hq with hq | hq
  · obtain ⟨its, r, pl, hz⟩ := I.list hq
    refine SeqAt.in_listAt (eqU x) pl.isList (fun w hw => mem_eqAt rx fx r fs w (by simpa using hw)) ⟨.bl _, H, I, rfl, ?_⟩
    rw [show its.toArray.any (eqU x) = its.any (eqU x) by simp, any_eqU r fs]
    exact q
  · obtain ⟨its, r, pl, hz⟩ := I.tuple hq
    refine SeqAt.in_tupleAt (eqU x) pl (fun w hw => mem_eqAt rx fx r fs w (by simpa using hw)) ⟨.bl _, H, I, rfl, ?_⟩
    rw [show its.toArray.any (eqU x) = its.any (eqU x) by simp, any_eqU r fs]
    exact q
theorem op_notIn_seq : OpR X (compareOp .NotIn) (rIn X.K true) := by
  intro pins s σ H x y v u Q I rx ry h
  obtain ⟨p, xs, rfl, hq, fx, fs, q⟩ := h
  cases ry
  rcases hq with hq | hq
  · obtain ⟨its, r, pl, hz⟩ := I.list hq
    refine SeqAt.notIn_listAt (eqU x) pl.isList (fun w hw => mem_eqAt rx fx r fs w (by simpa using hw)) ⟨.bl _, H, I, rfl, ?_⟩
    rw [show its.toArray.any (eqU x) = its.any (eqU x) by simp, any_eqU r fs]
    exact q
  · obtain ⟨its, r, pl, hz⟩ := I.tuple hq
    refine SeqAt.notIn_tupleAt (eqU x) pl (fun w hw => mem_eqAt rx fx r fs w (by simpa using hw)) ⟨.bl _, H, I, rfl, ?_⟩
    rw [show its.toArray.any (eqU x) = its.any (eqU x) by simp, any_eqU r fs]
    exact q
theorem op_notIn_str : OpR X (compareOp .NotIn) (fun x y H Q => ∃ i j, x = .str i ∧ y = .str j ∧ Q (.bl (!(!(Builtin.Str.occurrences j i 0 j.length 1).isEmpty))) H) := by
  intro pins s σ H x y v u Q I rx ry h
  obtain ⟨i, j, rfl, rfl, q⟩ := h
  obtain ⟨t, rfl⟩ := rx
  obtain ⟨t', rfl⟩ := ry
  exact notIn_str ⟨.bl _, H, I, rfl, q⟩

/-! ### len, list(x), tuple(x) of any list or tuple that is read -/
theorem call_len_seq : CallR X (.builtin "len") (fun xs H Q => ∃ p ys, xs = [.ref p] ∧ (SqL X.K H p ys ∨ SqT X.K H p ys) ∧ Q (.int ys.length) H) := by
  intro pins s σ H xs us Q I r h
  obtain ⟨p, ys, rfl, hq, q⟩ := h
  obtain ⟨u, rfl, rx⟩ := vals1 r
  cases rx
  have hn := line63
  rcases hq with hq | hq
  · obtain ⟨its, r', pl, hz⟩ := I.list hq
    have hlen := r'.length
    exact Calls.call_len_list pl.isList (by simp only [List.size_toArray] <;> omega) ⟨.int ys.length, H, I.tok _, ⟨s.toks + 1, by rw [List.size_toArray, hlen]⟩, q⟩
  · obtain ⟨its, r', pl, hz⟩ := I.tuple hq
    have hlen := r'.length
    exact len_tuple pl (by simp only [List.size_toArray] <;> omega) ⟨.int ys.length, H, I.tok _, ⟨s.toks + 1, by rw [List.size_toArray, hlen]⟩, q⟩
theorem call_len_str : CallR X (.builtin "len") (fun xs H Q => ∃ z, xs = [.str z] ∧ z.length ≤ sizeLine ∧ Q (.int z.length) H) := by
  intro pins s σ H xs us Q I r h
  obtain ⟨z, rfl, hz, q⟩ := h
  obtain ⟨u, rfl, t, rfl⟩ := vals1 r
  have hn := line63
  exact len_str (by omega) ⟨.int z.length, H, I.tok _, ⟨_, rfl⟩, q⟩
theorem CallR.or {f : Value} {r r' : List V → Hp → VK → Prop} (h : CallR X f r) (h' : CallR X f r') : CallR X f (fun xs H Q => r xs H Q ∨ r' xs H Q) := by
  intro pins s σ H xs us Q I rs q
  rcases q with q | q
  · exact h pins s σ H xs us Q I rs q
  · exact h' pins s σ H xs us Q I rs q
theorem call_list_of : CallR X (.type "list") (fun xs H Q => ∃ p ys, xs = [.ref p] ∧ (SqL X.K H p ys ∨ SqT X.K H p ys) ∧ ∀ l, H l = none → Q (.ref l) (upd H l (.lst ys))) := by
  intro pins s σ H xs us Q I r h
  obtain ⟨p, ys, rfl, hq, q⟩ := h
  obtain ⟨u, rfl, rx⟩ := vals1 r
  cases rx
  have fin : ∀ (its : List Value), Vals ys its → ys.length ≤ sizeLine → ∀ (h' : Heap) (c' : Nat), (∀ b o', s.heap.get? b = some o' → h'.get? b = some o') →
      h'.get? s.heap.objs.size = some { cls := .type "list", dict := none, data := .seq its.toArray c', slots := #[] } → EP X pins σ Q (.ref s.heap.objs.size) { s with heap := h' } := fun its r' hz h' c' kp e =>
    ⟨.ref s.heap.objs.size, _, I.laid (t' := s.toks) kp (Nat.le_refl _) (show ObjOk X.prog X.w _ h' _ (.lst ys) from ⟨hz, its, c', r', e⟩), rfl, q _ (I.hok.fresh (Nat.le_refl _))⟩
  rcases hq with hq | hq
  · obtain ⟨its, r', pl, hz⟩ := I.list hq
    have hlen := r'.length
    obtain ⟨o, ho, hc, n, hd⟩ := pl.isList
    exact call_list_seq p (.inl rfl) ho hc hd (fun h' c' kp e => fin its r' hz h' c' kp e) (by simp only [List.size_toArray] <;> omega)
  · obtain ⟨its, r', pl, hz⟩ := I.tuple hq
    have hlen := r'.length
    obtain ⟨o, ho, hc, n, hd⟩ := pl
    exact call_list_seq p (.inr rfl) ho hc hd (fun h' c' kp e => fin its r' hz h' c' kp e) (by simp only [List.size_toArray] <;> omega)
theorem call_tuple_of : CallR X (.type "tuple") (fun xs H Q => ∃ p ys, xs = [.ref p] ∧ ((SqL X.K H p ys ∧ ∀ l, H l = none → Q (.ref l) (upd H l (.tup ys))) ∨ (SqT X.K H p ys ∧ Q (.ref p) H))) := by
  intro pins s σ H xs us Q I r h
  obtain ⟨p, ys, rfl, h⟩ := h
  obtain ⟨u, rfl, rx⟩ := vals1 r
  cases rx
  rcases h with ⟨hq, q⟩ | ⟨hq, q⟩
  · obtain ⟨its, r', pl, hz⟩ := I.list hq
    have hlen := r'.length
    refine call_tuple_list pl.isList (fun h' kp => ?_) (by simp only [List.size_toArray] <;> omega)
    have I1 : Inv X pins σ H { s with heap := h' } := I.kept (t' := s.toks) kp
    have I2 : Inv X pins σ (upd H h'.objs.size (.tup ys)) { s with heap := h'.push { cls := .type "tuple", data := .seq its.toArray } } :=
      I1.laid (t' := s.toks) (fun b o e => Heap.get?_push_of_some _ e) (Nat.le_refl _) (show ObjOk X.prog X.w _ _ _ (.tup ys) from ⟨hz, its, r', IsTup.new _ _⟩)
    exact ⟨.ref h'.objs.size, _, I2, rfl, q _ (I1.hok.fresh (Nat.le_refl _))⟩
  · obtain ⟨its, r', pl, hz⟩ := I.tuple hq
    exact call_tuple_same pl ⟨.ref p, H, I, rfl, q⟩

/-! ### the call of a builtin's method: o.m(..) -/
/-- the value is of that builtin type -/
def tyV (K : PySem.W.Frag) (T : String) (x : V) (H : Hp) : Prop := match x with
  | .str _ => T = "str"
  | .int _ => T = "int"
  | .ref p => (T = "list" ∧ ∃ xs, SqL K H p xs) ∨ (T = "tuple" ∧ ∃ o, K.lookup p = some o ∧ o.cls = .type "tuple" ∧ o.dict = none) ∨
      (T = "dict" ∧ ((∃ kvs, H p = some (.dK kvs)) ∨ ∃ kvs, H p = some (.dT kvs))) ∨ (T = "set" ∧ ∃ S n, H p = some (.set S n))
  | _ => False
theorem tyV_is {pins : List (Addr × Obj)} {σ : St} {H : Hp} {s : Shared} {T : String} {x : V} {v : Value} (I : Inv X pins σ H s) (r : RelV x v) (ty : tyV X.K T x H) :
    s.TypeIs v T ∧ ∀ a, v = .ref a → ∃ ob, s.heap.get? a = some ob ∧ ob.dict = none := by
  cases x with
  | str z =>
    obtain ⟨t, rfl⟩ := r
    cases (show T = "str" from ty)
    exact ⟨typeIs_str s z t, fun _ e => nomatch e⟩
  | int i =>
    obtain ⟨t, rfl⟩ := r
    cases (show T = "int" from ty)
    exact ⟨typeIs_int s i t, fun _ e => nomatch e⟩
  | ref p =>
    cases r
    rcases ty with ⟨rfl, xs, hq⟩ | ⟨rfl, o, hk, hc, hd⟩ | ⟨rfl, hk⟩ | ⟨rfl, S, n, hk⟩
    · obtain ⟨its, _, pl, _⟩ := I.list hq
      refine ⟨pl.isList.typeIs, fun a e => ?_⟩
      cases e
      obtain ⟨o, n, e, c, hd, _⟩ := pl
      exact ⟨o, e, hd⟩
    · refine ⟨⟨o, I.kIn p o hk, hc⟩, fun a e => ?_⟩
      cases e
      exact ⟨o, I.kIn _ o hk, hd⟩
    · have z : ∃ o, s.heap.get? p = some o ∧ o.ExactDict := by
        rcases hk with ⟨kvs, hk⟩ | ⟨kvs, hk⟩
        · obtain ⟨_, _, _, _, o, _, _, e, ex, _⟩ := I.hok p _ hk
          exact ⟨o, e, ex⟩
        · obtain ⟨_, _, _, _, o, _, _, e, ex, _⟩ := I.hok p _ hk
          exact ⟨o, e, ex⟩
      obtain ⟨o, e, ex⟩ := z
      refine ⟨⟨o, e, ex.1⟩, fun a e2 => ?_⟩
      cases e2
      exact ⟨o, e, ex.2.1⟩
    · obtain ⟨o, _, _, _, e, ex, _⟩ := I.hok p _ hk
      refine ⟨⟨o, e, ex.1⟩, fun a e2 => ?_⟩
      cases e2
      exact ⟨o, e, ex.2.1⟩
  | _ => exact False.elim ty
def tBM0 (K : PySem.W.Frag) (T : String) (r : V → List V → Hp → VK → Prop) (to : TE) : TE := fun σ H Q => to σ H fun x H1 => tyV K T x H1 ∧ r x [] H1 Q
def tBM (K : PySem.W.Frag) (T : String) (r : V → List V → Hp → VK → Prop) (to : TE) (t : TA) : TE := fun σ H Q => to σ H fun x H1 => tyV K T x H1 ∧ t σ H1 fun xs H2 => r x xs H2 Q
variable {o e : Expr} {es : List Expr} {to : TE} {t : TA} {name : Str} {apos cpos : Pos} {T id : String} {r : V → List V → Hp → VK → Prop}
theorem pe_bm0 (pa : PlainAttrs T) (slot : Slot T name id) (hty : typeOf (.builtin id) = pure (.type "method_descriptor")) (hm : MtR X id r) (ho : PE X o to)
    (hbase : attributeBase o name X.env (eval o X.env) = eval o X.env := by rfl) (hline : (apos.endLine == cpos.line) = true := by rfl) : PE X (.Call (.Attribute o name apos) [] [] cpos) (tBM0 X.K T r to) := by
  intro pins s σ H Q I h
  refine wpAny_Call_method0_late hbase hline (thn (ho pins s σ H _ I h) fun v s1 ⟨x, H1, I1, r1, ty, q1⟩ => ?_)
  obtain ⟨h1, h2⟩ := tyV_is I1 r1 ty
  exact ⟨T, id, pa, slot, hty, h1, h2, Calls.callWith_builtin rfl (PySem.evalArgs_none (hm pins s1 σ H1 x [] v [] Q I1 r1 .nil q1))⟩
theorem pe_bm (pa : PlainAttrs T) (slot : Slot T name id) (hty : typeOf (.builtin id) = pure (.type "method_descriptor")) (hm : MtR X id r) (ho : PE X o to) (ha : PA X (e :: es) t)
    (hbase : attributeBase o name X.env (eval o X.env) = eval o X.env := by rfl)
    (hfew : ((backTo cpos (starEach (e :: es) X.env)).all (fun x => !x.1) && (backToKw cpos (keywordEach [] X.env)).all (fun x => x.1.isSome)
      && decide ((e :: es).length + ([] : List Keyword).length + (if ([] : List Keyword).isEmpty then 0 else 1) < 30)) = true := by rfl)
    (hline : (apos.endLine == cpos.line) = true := by rfl) (hs : starEach (e :: es) X.env = (false, eval e X.env) :: starEach es X.env := by rfl) (hplain : (backTo cpos (starEach es X.env)).any (·.1) = false := by rfl) :
    PE X (.Call (.Attribute o name apos) (e :: es) [] cpos) (tBM X.K T r to t) := by
  intro pins s σ H Q I h
  refine wpAny_Call_method_late hbase hfew hline rfl (thn (ho pins s σ H _ I h) fun v s1 ⟨x, H1, I1, r1, ty, q1⟩ => ?_)
  obtain ⟨h1, h2⟩ := tyV_is I1 r1 ty
  refine ⟨T, id, pa, slot, hty, h1, h2, ?_⟩
  have hA := ha cpos pins s1 σ H1 _ I1 q1
  rw [hs] at hA ⊢
  refine Calls.callWith_builtin (by show (false || (backTo cpos (starEach es X.env)).any (·.1)) = false; rw [hplain] <;> rfl) (Calls.evalArgs_plain ?_)
  exact thn hA fun us s2 ⟨vs, H2, I2, r2, q2⟩ => hm pins s2 σ H2 x vs v us Q I2 r1 r2 q2
/- xs.append(e), list.index on a module's tuple .. are MtR facts of 06m -/
end
end L2

namespace L2
open PySem PySem.Spec PyProof.Rows

def MtM (X : Cx) (id : String) (r : V → List V → Hp → VK → Prop) : Prop :=
  ∀ (pins : List (Addr × Obj)) (s : Shared) (σ : St) (H : Hp) (x : V) (xs : List V) (v : Value) (us : List Value) (Q : VK), Inv X pins σ H s → RelV x v → Vals xs us → r x xs H Q →
    wpAny (model X.prog X.w) X.A (call (.builtin id) (v :: us)) (EP X pins σ Q) X.xe s

/-! ### lists of values -/
theorem Vals.one : ∀ {x : V} {us : List Value}, Vals [x] us → ∃ u, us = [u] ∧ RelV x u
  | _, _, .cons r .nil => ⟨_, rfl, r⟩
theorem Vals.two : ∀ {x y : V} {us : List Value}, Vals [x, y] us → ∃ u v, us = [u, v] ∧ RelV x u ∧ RelV y v
  | _, _, _, .cons r (.cons q .nil) => ⟨_, _, rfl, r, q⟩
theorem Vals.zero : ∀ {us : List Value}, Vals [] us → us = []
  | _, .nil => rfl
theorem Vals.dropLast {xs : List V} {us : List Value} (h : Vals xs us) : Vals xs.dropLast us.dropLast := by
  induction h with
  | nil => exact .nil
  | cons r t ih =>
    cases t with
    | nil => exact .nil
    | cons q t' => exact .cons r ih
theorem Vals.eraseIdx : ∀ {xs : List V} {us : List Value} (i : Nat), Vals xs us → Vals (xs.eraseIdx i) (us.eraseIdx i)
  | _, _, _, .nil => .nil
  | _, _, 0, .cons _ t => t
  | _, _, i + 1, .cons r t => .cons r (Vals.eraseIdx i t)
theorem Vals.reverse {xs : List V} {us : List Value} (h : Vals xs us) : Vals xs.reverse us.reverse := by
  induction h with
  | nil => exact .nil
  | cons r t ih => rw [List.reverse_cons, List.reverse_cons]; exact Vals.append ih (.cons r .nil)
theorem Vals.rep {xs : List V} {us : List Value} (h : Vals xs us) : ∀ k : Nat, Vals (List.replicate k xs).flatten (List.replicate k us).flatten
  | 0 => .nil
  | k + 1 => by
    rw [List.replicate_succ, List.replicate_succ, List.flatten_cons, List.flatten_cons]
    exact Vals.append h (Vals.rep h k)
theorem erase_last {α : Type} (l : List α) : l.eraseIdx (l.length - 1) = l.dropLast := by
  induction l with
  | nil => rfl
  | cons a r ih =>
    cases r with
    | nil => rfl
    | cons b r =>
      have e : (a :: b :: r).length - 1 = ((b :: r).length - 1) + 1 := by
        have h1 : (a :: b :: r).length = r.length + 2 := rfl
        have h2 : (b :: r).length = r.length + 1 := rfl
        omega
      rw [e, List.eraseIdx_cons_succ, ih]
      all_goals rfl
theorem len_erase {α : Type} : ∀ (l : List α) (i : Nat), (l.eraseIdx i).length ≤ l.length
  | [], _ => Nat.le_refl _
  | _ :: _, 0 => Nat.le_succ _
  | _ :: r, i + 1 => Nat.succ_le_succ (len_erase r i)
theorem foldl_rep (its : List Value) : ∀ (k : Nat) (acc : List Value),
    List.foldl (fun x1 x2 => x1 ++ x2) acc.toArray (List.replicate k its.toArray) = (acc ++ (List.replicate k its).flatten).toArray
  | 0, acc => by simp
  | k + 1, acc => by
    have e : acc.toArray ++ its.toArray = (acc ++ its).toArray := by simp
    have e2 : (acc ++ its) ++ (List.replicate k its).flatten = acc ++ (List.replicate (k + 1) its).flatten := by
      rw [List.replicate_succ, List.flatten_cons, List.append_assoc]
    rw [← e2, ← foldl_rep its k (acc ++ its), ← e, List.replicate_succ, List.foldl_cons]

section
variable {X : Cx} {pins : List (Addr × Obj)} {σ : St} {H : Hp} {s : Shared} {l b : Addr} {xs ys zs : List V}

/-! ### the two steps: a tracked list is rewritten, a new list is laid -/
theorem Inv.lset {its its' : List Value} {n : Nat} {f : Array Value → Array Value} {t' : Nat} (I : Inv X pins σ H s) (hH : H l = some (.lst xs))
    (e : s.heap.get? l = some { cls := .type "list", data := .seq its.toArray n }) (hf : f its.toArray = its'.toArray) (hv : Vals ys its') (hz : ys.length ≤ sizeLine) :
    Inv X pins σ (upd H l (.lst ys)) { s with heap := s.heap.update l (Obj.mapSeq f), toks := t' } := by
  have q := PySem.IsL.update e f
  rw [hf] at q
  refine I.write (x := l) (e := l) (by rw [hH]; exact trivial) (.inl rfl) (fun b' u hb hu => (Heap.get?_update_other s.heap (Obj.mapSeq f) (Ne.symm hb)).trans hu) ⟨_, q⟩ ?_
  exact ⟨hz, its', _, hv, q⟩
theorem Inv.lnew {its : List Value} {t' : Nat} (I : Inv X pins σ H s) (hv : Vals ys its) (hz : ys.length ≤ sizeLine) :
    Inv X pins σ (upd H s.heap.objs.size (.lst ys)) { s with heap := s.heap.push { cls := .type "list", data := .seq its.toArray }, toks := t' } :=
  I.laid (fun _ _ q => Heap.get?_push_of_some _ q) (Nat.le_refl _) ⟨hz, its, 0, hv, Heap.get?_push_size _ rfl⟩
theorem Inv.fresh (I : Inv X pins σ H s) : H s.heap.objs.size = none := I.hok.fresh (Nat.le_refl _)
theorem Inv.lstM (I : Inv X pins σ H s) (hH : H l = some (.lst xs)) : xs.length ≤ sizeLine ∧ ∃ (its : List Value) (n : Nat), Vals xs its ∧ xs.length = its.length ∧ s.heap.get? l = some { cls := .type "list", data := .seq its.toArray n } := by
  obtain ⟨z, its, n, r, e⟩ := I.hok l _ hH
  exact ⟨z, its, n, r, r.length, e⟩

theorem notLongL {n : Nat} (h : n ≤ sizeLine) : Builtin.List.listTooLong n = false := by
  unfold Builtin.List.listTooLong
  exact decide_eq_false (by omega)
end

section
variable {X : Cx}

/-! ### methods -/
def rAppend : V → List V → Hp → VK → Prop := fun x vs H Q => ∃ l xs y, x = .ref l ∧ vs = [y] ∧ H l = some (.lst xs) ∧ xs.length < sizeLine ∧ Q .non (upd H l (.lst (xs ++ [y])))
theorem mt_append : MtM X "list.append" rAppend := by
  intro pins s σ H x vs v us Q I rx rv h
  obtain ⟨l, xs, y, rfl, rfl, hH, hz, q⟩ := h
  cases rx
  obtain ⟨u, rfl, ru⟩ := rv.one
  obtain ⟨z, its, n, r, hl, e⟩ := I.lstM hH
  refine call_meets F.slot_list_append ⟨_, e, rfl⟩ F.entry_list_append (F.args_list_append_2 _ _) (PySem.list_append l its.toArray n u (by rw [List.size_toArray]; omega)) ⟨e, ?_⟩
  refine ⟨.non, _, I.lset (its' := its ++ [u]) hH e (by simp) (r.append (.cons ru .nil)) ?_, rfl, q⟩
  rw [List.length_append, List.length_singleton]
  omega

def rExtend : V → List V → Hp → VK → Prop := fun x vs H Q => ∃ l b xs zs, x = .ref l ∧ vs = [.ref b] ∧ H l = some (.lst xs) ∧ H b = some (.lst zs) ∧ xs.length + zs.length ≤ sizeLine ∧ Q .non (upd H l (.lst (xs ++ zs)))
theorem mt_extend : MtM X "list.extend" rExtend := by
  intro pins s σ H x vs v us Q I rx rv h
  obtain ⟨l, b, xs, zs, rfl, rfl, hH, hB, hz, q⟩ := h
  cases rx
  obtain ⟨u, rfl, ru⟩ := rv.one
  cases ru
  obtain ⟨z, its, n, r, hl, e⟩ := I.lstM hH
  obtain ⟨z2, its2, n2, r2, hl2, e2⟩ := I.lstM hB
  have hsz : its.toArray.size + its2.toArray.size ≤ sizeLine := by rw [List.size_toArray, List.size_toArray]; omega
  have hlong : ¬ (!its.toArray.isEmpty && Builtin.List.listTooLong (its.toArray.size + its2.toArray.size)) = true := by
    rw [notLongL hsz, Bool.and_false]
    exact Bool.false_ne_true
  refine call_meets F.slot_list_extend ⟨_, e, rfl⟩ F.entry_list_extend (F.args_list_extend_2 _ _)
    (AutoSeq1.list_extend_list_list_0 l its.toArray n b its2.toArray n2 hlong (by rw [List.size_toArray]; omega) (by omega)) ⟨e, e2, ?_⟩
  refine ⟨.non, _, I.lset (its' := its ++ its2) hH e (by simp) (r.append r2) ?_, rfl, q⟩
  rw [List.length_append]
  omega

def rPop : V → List V → Hp → VK → Prop := fun x vs H Q => ∃ l xs y, x = .ref l ∧ vs = [] ∧ H l = some (.lst xs) ∧ xs[xs.length - 1]? = some y ∧ Q y (upd H l (.lst xs.dropLast))
theorem mt_pop : MtM X "list.pop" rPop := by
  intro pins s σ H x vs v us Q I rx rv h
  obtain ⟨l, xs, y, rfl, rfl, hH, hy, q⟩ := h
  cases rx
  have hus := rv.zero
  subst hus
  obtain ⟨z, its, n, r, hl, e⟩ := I.lstM hH
  obtain ⟨u, hu, ru⟩ := r.get hy
  have hy' : its.toArray[its.toArray.size - 1]? = some u := by
    show its.toArray[its.length - 1]? = some u
    rw [← Array.getElem?_toList, ← hl]
    exact hu
  refine call_meets F.slot_list_pop ⟨_, e, rfl⟩ F.entry_list_pop (F.args_list_pop_1 _) (MeetsSeq.list_pop_last l its.toArray n u hy' (by rw [List.size_toArray]; omega)) ⟨e, ?_⟩
  refine ⟨y, _, I.lset (its' := its.dropLast) hH e ?_ r.dropLast ?_, ru, q⟩
  · show its.toArray.eraseIdxIfInBounds (its.toArray.size - 1) = its.dropLast.toArray
    rw [List.size_toArray, List.eraseIdxIfInBounds_toArray, erase_last]
  · rw [List.length_dropLast]
    omega

def rPopAt : V → List V → Hp → VK → Prop := fun x vs H Q => ∃ l xs i k y, x = .ref l ∧ vs = [.int i] ∧ H l = some (.lst xs) ∧ -(2 ^ 63) ≤ i ∧ i < 2 ^ 63 ∧ seqIndex? i xs.length = some k ∧ xs[k]? = some y ∧ Q y (upd H l (.lst (xs.eraseIdx k)))
theorem mt_popAt : MtM X "list.pop" rPopAt := by
  intro pins s σ H x vs v us Q I rx rv h
  obtain ⟨l, xs, i, k, y, rfl, rfl, hH, h1, h2, hk, hy, q⟩ := h
  cases rx
  obtain ⟨u, rfl, ru⟩ := rv.one
  obtain ⟨t, rfl⟩ := ru
  obtain ⟨z, its, n, r, hl, e⟩ := I.lstM hH
  obtain ⟨w, hw, rw'⟩ := r.get hy
  refine call_meets F.slot_list_pop ⟨_, e, rfl⟩ F.entry_list_pop (F.args_list_pop_2 _ _)
    (MeetsSeq.list_pop_at l its.toArray n i t k w (fitsIndex_both h1 h2) (by rw [List.size_toArray, ← hl]; exact hk) (by rw [← Array.getElem?_toList]; exact hw) (by rw [List.size_toArray]; omega)) ⟨e, ?_⟩
  refine ⟨y, _, I.lset (its' := its.eraseIdx k) hH e ?_ (r.eraseIdx k) ?_, rw', q⟩
  · show its.toArray.eraseIdxIfInBounds k = (its.eraseIdx k).toArray
    rw [List.eraseIdxIfInBounds_toArray]
  · have := len_erase xs k
    omega

def rReverse : V → List V → Hp → VK → Prop := fun x vs H Q => ∃ l xs, x = .ref l ∧ vs = [] ∧ H l = some (.lst xs) ∧ Q .non (upd H l (.lst xs.reverse))
theorem mt_reverse : MtM X "list.reverse" rReverse := by
  intro pins s σ H x vs v us Q I rx rv h
  obtain ⟨l, xs, rfl, rfl, hH, q⟩ := h
  cases rx
  have hus := rv.zero
  subst hus
  obtain ⟨z, its, n, r, hl, e⟩ := I.lstM hH
  refine call_meets F.slot_list_reverse ⟨_, e, rfl⟩ F.entry_list_reverse (F.args_list_reverse_1 _) (AutoSeq1.list_reverse_list_0 l its.toArray n (by rw [List.size_toArray]; omega)) ⟨e, ?_⟩
  refine ⟨.non, _, I.lset (its' := its.reverse) hH e (by simp) r.reverse ?_, rfl, q⟩
  rw [List.length_reverse]
  omega

def rClear : V → List V → Hp → VK → Prop := fun x vs H Q => ∃ l xs, x = .ref l ∧ vs = [] ∧ H l = some (.lst xs) ∧ Q .non (upd H l (.lst []))
theorem mt_clear : MtM X "list.clear" rClear := by
  intro pins s σ H x vs v us Q I rx rv h
  obtain ⟨l, xs, rfl, rfl, hH, q⟩ := h
  cases rx
  have hus := rv.zero
  subst hus
  obtain ⟨z, its, n, r, hl, e⟩ := I.lstM hH
  refine call_meets F.slot_list_clear ⟨_, e, rfl⟩ F.entry_list_clear (F.args_list_clear_1 _) (AutoSeq1.list_clear_list_0 l its.toArray n (by rw [List.size_toArray]; omega)) ⟨e, ?_⟩
  exact ⟨.non, _, I.lset (its' := []) (ys := []) hH e rfl .nil (Nat.zero_le _), rfl, q⟩

/-! ### list + list, list += list, list * int -/
def rCat : R2 := fun x y H Q => ∃ l b xs zs, x = .ref l ∧ y = .ref b ∧ H l = some (.lst xs) ∧ H b = some (.lst zs) ∧ xs.length + zs.length ≤ sizeLine ∧ ∀ p, H p = none → Q (.ref p) (upd H p (.lst (xs ++ zs)))
theorem op_cat : OpR X (binaryOp .Add) rCat := by
  intro pins s σ H x y v u Q I rx ry h
  obtain ⟨l, b, xs, zs, rfl, rfl, hH, hB, hz, q⟩ := h
  cases rx
  cases ry
  obtain ⟨z, its, n, r, hl, e⟩ := I.lstM hH
  obtain ⟨z2, its2, n2, r2, hl2, e2⟩ := I.lstM hB
  refine PySem.P.add_list e e2 ?_ (by rw [List.size_toArray, List.size_toArray]; omega)
  have ea : its.toArray ++ its2.toArray = (its ++ its2).toArray := by simp
  rw [ea]
  exact ⟨.ref _, _, I.lnew (t' := s.toks) (r.append r2) (by rw [List.length_append]; omega), rfl, q _ I.fresh⟩
/-- a list times an int (a negative one is nothing) -/
def rRep : R2 := fun x y H Q => ∃ l k xs, x = .ref l ∧ y = .int k ∧ H l = some (.lst xs) ∧ -(2 ^ 63) ≤ k ∧ k < 2 ^ 63 ∧ xs.length * k.toNat ≤ sizeLine ∧
  ∀ p, H p = none → Q (.ref p) (upd H p (.lst (List.replicate k.toNat xs).flatten))
theorem len_rep {α : Type} (xs : List α) (k : Nat) : (List.replicate k xs).flatten.length = k * xs.length := by
  induction k with
  | zero => simp
  | succ k ih => rw [List.replicate_succ, List.flatten_cons, List.length_append, ih, Nat.succ_mul, Nat.add_comm]
theorem op_rep : OpR X (binaryOp .Mult) rRep := by
  intro pins s σ H x y v u Q I rx ry h
  obtain ⟨l, k, xs, rfl, rfl, hH, h1, h2, hz, q⟩ := h
  cases rx
  obtain ⟨t, rfl⟩ := ry
  obtain ⟨z, its, n, r, hl, e⟩ := I.lstM hH
  have hlen : its.toArray.size * k.toNat ≤ sizeLine := by rw [List.size_toArray, ← hl]; exact hz
  have hcap : ¬ its.toArray.size * k.toNat > (2 ^ 63 - 1) / 8 := by
    have : (sizeLine : Nat) ≤ (2 ^ 63 - 1) / 8 := by decide
    omega
  have hfit : ¬ (!Builtin.List.listFitsIndex k) = true := by
    rw [fitsIndex_both h1 h2]
    exact Bool.false_ne_true
  have hlong : ¬ Builtin.List.listTooLong (its.toArray.size * k.toNat) = true := by
    rw [notLongL hlen]
    exact Bool.false_ne_true
  have hnew : List.foldl (fun x1 x2 => x1 ++ x2) #[] (List.replicate (if its.toArray.isEmpty = true then 0 else k.toNat) its.toArray) = (List.replicate k.toNat its).flatten.toArray := by
    have f0 : ∀ m : Nat, List.foldl (fun x1 x2 => x1 ++ x2) #[] (List.replicate m its.toArray) = (List.replicate m its).flatten.toArray := fun m => by
      have := foldl_rep its m []
      rw [List.nil_append] at this
      exact this
    rw [f0]
    cases its with
    | nil => simp
    | cons a r' => rw [if_neg (by simp)]
  refine wpAny_binaryOp_repeat_ref (T := "list") (U := "int") (by decide) ⟨_, e, rfl⟩ (fun s' => typeIs_int s' k t) noFill_list_mul F.fills_int_mul F.slot_int_rmul repeat_list F.slot_int_index.lookup
    (call_meets F.slot_int_rmul (typeIs_int s k t) F.entry_int_rmul (F.args_int_rmul_2 _ _) (int___rmul___int_list k t l its.toArray n)
      ⟨e, rfl, ⟨_, e, rfl⟩, call_meets F.slot_list_mul ⟨_, e, rfl⟩ F.entry_list_mul (F.args_list_mul_2 _ _) (AutoListH.list___mul___list_int_3 l its.toArray n k t hfit hcap hlong) ⟨e, ?_⟩⟩)
  rw [hnew]
  exact ⟨.ref _, _, I.lnew (t' := s.toks) (r.rep k.toNat) (by rw [len_rep, Nat.mul_comm]; exact hz), rfl, q _ I.fresh⟩

/-! ### del xs[i] -/
theorem del_list {pins : List (Addr × Obj)} {s : Shared} {σ : St} {H : Hp} {l : Addr} {xs : List V} {i : Int} {t : Tok} {k : Nat} {Q : Unit → Shared → Prop} (I : Inv X pins σ H s) (hH : H l = some (.lst xs))
    (h1 : -(2 ^ 63) ≤ i) (h2 : i < 2 ^ 63) (hk : seqIndex? i xs.length = some k) (h : ∀ s', Inv X pins σ (upd H l (.lst (xs.eraseIdx k))) s' → Q () s') :
    wpAny (model X.prog X.w) X.A (delItem (.ref l) (.int i t)) Q X.xe s := by
  obtain ⟨z, its, n, r, hl, e⟩ := I.lstM hH
  refine PySem.P.delItem_list (k := k) e (fitsIndex_both h1 h2) (by rw [List.size_toArray, ← hl]; exact hk) (h _ ?_) (by rw [List.size_toArray]; omega)
  refine I.lset (its' := its.eraseIdx k) (t' := s.toks) hH e ?_ (r.eraseIdx k) ?_
  · show its.toArray.eraseIdxIfInBounds k = (its.eraseIdx k).toArray
    rw [List.eraseIdxIfInBounds_toArray]
  · have := len_erase xs k
    omega
end

/-! ### xs[a:b] = ys -/
section
variable {prog : Program} {w : World} {A : Around} {E : Value → Shared → Prop} {s : Shared}
theorem splice_eq (its its2 : List Value) (a c : Nat) : its.toArray.extract 0 a ++ its2.toArray ++ its.toArray.extract c its.toArray.size = (its.take a ++ its2 ++ its.drop c).toArray := by
  apply Array.toList_inj.mp
  first
    | (simp
       exact List.take_of_length_le (by simp))
    | simp [List.take_of_length_le]
    | simp
theorem bounds_run {a c n : Nat} (hac : a ≤ c) (hc : c ≤ n) : sliceBounds (some (a : Int)) (some (c : Int)) none n = ((a : Int), (c : Int), 1) := by
  simp only [sliceBounds, Option.getD_none]
  have h1 : ¬ ((a : Int) < 0) := by omega
  have h2 : ¬ ((c : Int) < 0) := by omega
  simp only [h1, h2, if_false, show (1 : Int) > 0 by decide, if_true]
  congr 1
  · omega
  · congr 1; omega
set_option maxRecDepth 100000 in
/-- list.__setitem__ with a slice of step one and another list -/
theorem setItem_slice {l b sl : Addr} {items new : Array Value} {n n2 : Nat} {vl vu : Value} {a c : Nat} {Q : Unit → Shared → Prop}
    (e : s.heap.get? l = some { cls := .type "list", data := .seq items n }) (e2 : s.heap.get? b = some { cls := .type "list", data := .seq new n2 }) (hne : l ≠ b)
    (hs : s.heap.IsSliceOf sl vl vu .none) (pl : IsPart vl (some (a : Int))) (pu : IsPart vu (some (c : Int))) (hac : a ≤ c) (hc : c ≤ items.size)
    (hsz : items.size + new.size ≤ sizeLine) (h : Q () { s with heap := s.heap.update l (Obj.mapSeq fun xs => xs.extract 0 a ++ new ++ xs.extract c xs.size) }) :
    wpAny (model prog w) A (setItem (.ref l) (.ref sl) (.ref b)) Q E s := by
  have hl : s.heap.IsList l items := PySem.IsL.isList e
  have hb : s.heap.IsList b new := PySem.IsL.isList e2
  obtain ⟨os, hos, hcs, hds⟩ := id hs
  have hTs : s.TypeIs (.ref sl) "slice" := ⟨os, hos, hcs⟩
  have hstep : ¬ ((rawPart none == rawInt 0) = true) := Bool.false_ne_true
  have hsame : Builtin.List.listSameRef (.ref l) (.ref b) = false := by
    unfold Builtin.List.listSameRef
    exact beq_eq_false_iff_ne.mpr hne
  have hmax : (max (a : Int) (c : Int)).toNat = c := by omega
  have hz' : ((fun xs : Array Value => xs.extract 0 a ++ new ++ xs.extract c xs.size) items).size ≤ sizeLine + 1 := by
    simp only [Array.size_append, Array.size_extract]
    omega
  unfold setItem
  try with_reducible refine wpAny_holding ?_
  first | refine wpAny_bind (wpAny_pure ?_) | skip
  refine wpAny_bind (wpAny_sequenceKey hl.typeIs (by decide) ?_)
  refine wpAny_bind (wpAny_callSpecial?_slot (name := Str.ofString "__setitem__") hl.typeIs slot_list_setitem
    (wpAny_call_entry slot_list_setitem hl.typeIs entry_list_setitem ?_ (args_list_setitem _ _ _)))
  show wpAny _ _ (Builtin.List.listSubscript? (.ref sl) >>= _) _ _ s
  refine wpAny_bind ?_
  unfold Builtin.List.listSubscript?
  refine wpAny_bind (wpAny_specialOf hTs slice_no_index ?_)
  simp only [Option.isNone_none, if_true]
  refine wpAny_pure ?_
  show wpAny _ _ (typeOf (.ref sl) >>= _) _ _ s
  refine wpAny_bind (wpAny_typeOf hTs ?_)
  first
    | rw [if_neg (by decide)]
    | refine PySem.W.KFB.if_not (by decide) ?_
  rw [listSliceParts_eq]
  refine wpAny_bind (wpAny_bind (wpAny_field hos hds (x := .none) rfl (wpAny_bind (wpAny_listPart .none ?_))))
  rw [if_neg hstep]
  refine wpAny_bind (wpAny_field hos hds (x := vl) rfl (wpAny_bind (wpAny_listPart pl ?_)))
  refine wpAny_bind (wpAny_field hos hds (x := vu) rfl (wpAny_bind (wpAny_listPart pu (wpAny_pure ?_))))
  first
    | simp only [hsame, Bool.false_eq_true, if_false]
    | refine PySem.W.KFB.if_not hsame ?_
    | (dsimp only
       rw [if_neg (by rw [hsame]; exact Bool.false_ne_true)])
  refine wpAny_bind (m := Builtin.List.listAllItems (.ref b) "must assign iterable to extended slice") ?_
  unfold Builtin.List.listAllItems
  refine wpAny_bind (wpAny_typeOf hb.typeIs ?_)
  first
    | refine PySem.W.KFB.if_so (by decide) ?_
    | rw [if_pos (by decide)]
    | simp only [beq_self_eq_true, Bool.true_or, if_true]
  unfold Builtin.List.listItems
  refine wpAny_bind (wpAny_seqItems e2 rfl (wpAny_pure ?_))
  refine wpAny_bind (wpAny_bind (wpAny_seqItems e rfl (wpAny_pure ?_)))
  refine wpAny_bind (wpAny_of_eq ((sliceIndices_raw (some (a : Int)) (some (c : Int)) none items.size (by simp)).trans (congrArg (pure : Int × Int × Int → Sem (Int × Int × Int)) (bounds_run hac hc))) ?_)
  show wpAny _ _ (if ((1 : Int) == 1) = true then _ else _) _ _ s
  rw [if_pos (by decide)]
  refine wpAny_bind (wpAny_rule ?_)
  first
    | simp only [notLongL hsz, Bool.false_eq_true, if_false]
    | refine PySem.W.KFB.if_not (notLongL hsz) ?_
  first | refine wpAny_bind (wpAny_pure ?_) | skip
  show wpAny _ _ (updateSeq l (fun xs => xs.extract 0 ((a : Int)).toNat ++ new ++ xs.extract (max (a : Int) (c : Int)).toNat xs.size) >>= _) _ _ s
  rw [hmax, Int.toNat_natCast]
  refine wpAny_bind (wpAny_updateSeq (hz := Nat.le_trans (Nat.le_add_right _ _) hsz) (_hz' := hz') e rfl ?_)
  refine wpAny_bind (wpAny_letGo ?_)
  first
    | exact wpAny_bind (wpAny_pure (wpAny_pure ⟨.none, rfl, wpAny_pure h⟩))
    | exact wpAny_pure ⟨.none, rfl, wpAny_pure h⟩
end

section
variable {X : Cx}
/-- xs[a:c] = ys of another list, at the value level: sl is the slice object that was just made -/
theorem set_slice {pins : List (Addr × Obj)} {s : Shared} {σ : St} {H : Hp} {l b sl : Addr} {xs ys : List V} {a c : Int} {vl vu : Value} {Q : Unit → Shared → Prop} (I : Inv X pins σ H s)
    (hH : H l = some (.lst xs)) (hB : H b = some (.lst ys)) (hne : l ≠ b) (hs : s.heap.IsSliceOf sl vl vu .none) (ra : RelV (.int a) vl) (rc : RelV (.int c) vu) (h0 : 0 ≤ a) (hac : a ≤ c) (hc : c ≤ xs.length)
    (hz : xs.length + ys.length ≤ sizeLine) (h : ∀ s', Inv X pins σ (upd H l (.lst (xs.take a.toNat ++ ys ++ xs.drop c.toNat))) s' → Q () s') :
    wpAny (model X.prog X.w) X.A (setItem (.ref l) (.ref sl) (.ref b)) Q X.xe s := by
  obtain ⟨ta, rfl⟩ := ra
  obtain ⟨tc, rfl⟩ := rc
  obtain ⟨z, its, n, r, hl, e⟩ := I.lstM hH
  obtain ⟨z2, its2, n2, r2, hl2, e2⟩ := I.lstM hB
  obtain ⟨a', rfl⟩ := Int.eq_ofNat_of_zero_le h0
  obtain ⟨c', rfl⟩ := Int.eq_ofNat_of_zero_le (Int.le_trans h0 hac)
  simp only [Int.toNat_natCast] at h
  refine setItem_slice (a := a') (c := c') e e2 hne hs (.int _ _) (.int _ _) (by omega) (by rw [List.size_toArray]; omega) (by rw [List.size_toArray, List.size_toArray]; omega) (h _ ?_)
  refine I.lset (its' := its.take a' ++ its2 ++ its.drop c') (t' := s.toks) hH e ?_ (Vals.append (Vals.append (r.take _) r2) (r.drop _)) ?_
  · exact splice_eq its its2 a' c'
  · rw [List.length_append, List.length_append, List.length_take, List.length_drop]
    omega
end
end L2

namespace L2
open PySem PySem.Spec PyProof.Rows

/-! ### lists of pairs as tables -/
section
variable {κ : Type} [DecidableEq κ]
def valV (kvs : List (κ × V)) (k : κ) : Option V := (kvs.find? fun kv => decide (kv.1 = k)).map (·.2)
/-- in its place, or at the end -/
def putK (kvs : List (κ × V)) (k : κ) (v : V) : List (κ × V) :=
  if (kvs.any fun kv => decide (kv.1 = k)) = true then kvs.map (fun kv => if kv.1 = k then (kv.1, v) else kv) else kvs ++ [(k, v)]
def dropK (kvs : List (κ × V)) (k : κ) : List (κ × V) := kvs.filter fun kv => decide (kv.1 ≠ k)

theorem valV_nil {k : κ} : valV ([] : List (κ × V)) k = none := rfl
theorem valV_pos {p : κ × V} {r : List (κ × V)} {k : κ} (e : p.1 = k) : valV (p :: r) k = some p.2 := by simp [valV, List.find?_cons, e]
theorem valV_neg {p : κ × V} {r : List (κ × V)} {k : κ} (e : ¬ p.1 = k) : valV (p :: r) k = valV r k := by simp [valV, List.find?_cons, e]
theorem valV_any (k : κ) : ∀ kvs : List (κ × V), (kvs.any fun kv => decide (kv.1 = k)) = (valV kvs k).isSome
  | [] => rfl
  | p :: r => by
    rw [List.any_cons]
    by_cases e : p.1 = k
    · simp only [valV_pos e, decide_eq_true e, Bool.true_or, Option.isSome_some]
    · rw [valV_neg e, decide_eq_false e, Bool.false_or]; exact valV_any k r
theorem valV_map (k j : κ) (y : V) : ∀ kvs : List (κ × V), valV (kvs.map fun kv => if kv.1 = k then (kv.1, y) else kv) j = (valV kvs j).map fun x => if j = k then y else x
  | [] => rfl
  | p :: r => by
    have ih := valV_map k j y r
    rw [List.map_cons]
    by_cases h : p.1 = k
    · rw [if_pos h]
      by_cases e : p.1 = j
      · rw [valV_pos (p := (p.1, y)) e, valV_pos e, Option.map_some, if_pos (e.symm.trans h)]
      · rw [valV_neg (p := (p.1, y)) e, valV_neg e, ih]
    · rw [if_neg h]
      by_cases e : p.1 = j
      · rw [valV_pos (p := p) e, valV_pos e, Option.map_some, if_neg (fun z => h (e.trans z))]
      · rw [valV_neg (p := p) e, valV_neg e, ih]
theorem valV_snoc (k j : κ) (y : V) : ∀ kvs : List (κ × V), valV kvs k = none → valV (kvs ++ [(k, y)]) j = if j = k then some y else valV kvs j
  | [], _ => by
    by_cases e : k = j
    · rw [if_pos e.symm]; exact valV_pos (p := (k, y)) e
    · rw [if_neg (fun z => e z.symm)]; exact valV_neg (p := (k, y)) e
  | p :: r, hn => by
    rw [List.cons_append]
    have hk : ¬ p.1 = k := fun z => by rw [valV_pos z] at hn; cases hn
    rw [valV_neg hk] at hn
    have ih := valV_snoc k j y r hn
    by_cases e : p.1 = j
    · rw [valV_pos e, valV_pos e, if_neg (fun z => hk (e.trans z))]
    · rw [valV_neg e, valV_neg e, ih]
theorem valV_put (kvs : List (κ × V)) (k j : κ) (y : V) : valV (putK kvs k y) j = if j = k then some y else valV kvs j := by
  unfold putK
  by_cases a : (kvs.any fun kv => decide (kv.1 = k)) = true
  · rw [if_pos a, valV_map]
    rw [valV_any] at a
    by_cases e : j = k
    · obtain ⟨x, hx⟩ := Option.isSome_iff_exists.mp a
      rw [if_pos e, e, hx, Option.map_some, if_pos rfl]
    · rw [if_neg e]
      cases valV kvs j with
      | none => rfl
      | some x => rw [Option.map_some, if_neg e]
  · rw [if_neg a]
    refine valV_snoc k j y kvs ?_
    rw [valV_any] at a
    cases q : valV kvs k with
    | none => rfl
    | some x => rw [q] at a; exact (a rfl).elim
theorem length_putK (kvs : List (κ × V)) (k : κ) (v : V) : (putK kvs k v).length ≤ kvs.length + 1 := by
  unfold putK
  split
  · rw [List.length_map]; omega
  · rw [List.length_append, List.length_cons, List.length_nil]; omega
theorem putK_new {kvs : List (κ × V)} {k : κ} (v : V) (h : valV kvs k = none) : putK kvs k v = kvs ++ [(k, v)] := by
  unfold putK
  rw [valV_any, h]
  exact if_neg (by decide)

theorem RelO.isSome_eq {o : Option V} {u : Option Value} (r : RelO o u) : o.isSome = u.isSome := by
  cases o with
  | none => cases u with
    | none => rfl
    | some _ => exact (show False from r).elim
  | some _ => cases u with
    | none => exact (show False from r).elim
    | some _ => rfl
theorem RelO.getD {o : Option V} {u : Option Value} {d : V} {d' : Value} (r : RelO o u) (rd : RelV d d') : RelV (o.getD d) (u.getD d') := by
  cases o with
  | none => cases u with
    | none => exact rd
    | some _ => exact (show False from r).elim
  | some _ => cases u with
    | none => exact (show False from r).elim
    | some _ => exact r

/-- raw tables of the same keys -/
theorem KV.val {kvs : List (κ × V)} {vs : List (κ × Value)} (r : KV kvs vs) (k : κ) : RelO (valV kvs k) (valueAt vs k) := by
  unfold KV at r
  induction r with
  | nil => exact True.intro
  | @cons p q ps qs h t ih =>
    obtain ⟨h1, h2⟩ := h
    by_cases e : p.1 = k
    · have e' : q.1 = k := h1.symm.trans e
      have b : valueAt (q :: qs) k = some q.2 := by simp [valueAt, List.find?_cons, e']
      rw [valV_pos e, b]; exact h2
    · have e' : ¬ q.1 = k := fun z => e (h1.trans z)
      have b : valueAt (q :: qs) k = valueAt qs k := by simp [valueAt, List.find?_cons, e']
      rw [valV_neg e, b]; exact ih
theorem KV.any {kvs : List (κ × V)} {vs : List (κ × Value)} (r : KV kvs vs) (k : κ) : (kvs.any fun kv => decide (kv.1 = k)) = vs.any fun kv => decide (kv.1 = k) := by
  unfold KV at r
  induction r with
  | nil => rfl
  | cons h t ih => rw [List.any_cons, List.any_cons, ih, h.1]
theorem KV.repl {kvs : List (κ × V)} {vs : List (κ × Value)} (r : KV kvs vs) (k : κ) {y : V} {u : Value} (ry : RelV y u) :
    KV (kvs.map fun kv => if kv.1 = k then (kv.1, y) else kv) (vs.map fun kv => if kv.1 = k then (kv.1, u) else kv) := by
  unfold KV at r ⊢
  induction r with
  | nil => exact .nil
  | @cons p q ps qs h t ih =>
    rw [List.map_cons, List.map_cons]
    refine .cons ?_ ih
    obtain ⟨h1, h2⟩ := h
    by_cases e : p.1 = k
    · rw [if_pos e, if_pos (h1.symm.trans e)]; exact ⟨h1, ry⟩
    · rw [if_neg e, if_neg (fun z => e (h1.trans z))]; exact ⟨h1, h2⟩
theorem KV.put {kvs : List (κ × V)} {vs : List (κ × Value)} (r : KV kvs vs) (k : κ) {y : V} {u : Value} (ry : RelV y u) : KV (putK kvs k y) (stored vs k u) := by
  unfold putK stored
  rw [r.any k]
  by_cases e : (vs.any fun kv => decide (kv.1 = k)) = true
  · rw [if_pos e, if_pos e]; exact r.repl k ry
  · rw [if_neg e, if_neg e]; exact Paired.snoc r ⟨rfl, ry⟩
theorem KV.drop {kvs : List (κ × V)} {vs : List (κ × Value)} (r : KV kvs vs) (k : κ) : KV (dropK kvs k) (without vs k) := by
  unfold KV at r ⊢
  unfold dropK without
  induction r with
  | nil => exact .nil
  | @cons p q ps qs h t ih =>
    obtain ⟨h1, h2⟩ := h
    rw [List.filter_cons, List.filter_cons]
    by_cases e : p.1 = k
    · have a : ¬ decide (p.1 ≠ k) = true := by simp [e]
      have b : ¬ decide (q.1 ≠ k) = true := by simp [h1.symm.trans e]
      rw [if_neg a, if_neg b]; exact ih
    · have e' : ¬ q.1 = k := fun z => e (h1.trans z)
      have a : decide (p.1 ≠ k) = true := by simp [e]
      have b : decide (q.1 ≠ k) = true := by simp [e']
      rw [if_pos a, if_pos b]; exact .cons ⟨h1, h2⟩ ih
theorem KV.keys {kvs : List (κ × V)} {vs : List (κ × Value)} (r : KV kvs vs) : kvs.map (·.1) = vs.map (·.1) := by
  unfold KV at r
  induction r with
  | nil => rfl
  | cons h t ih => rw [List.map_cons, List.map_cons, ih, h.1]
theorem KV.length {kvs : List (κ × V)} {vs : List (κ × Value)} (r : KV kvs vs) : kvs.length = vs.length := Paired.length r
theorem dropK_le (kvs : List (κ × V)) (k : κ) : (dropK kvs k).length ≤ kvs.length := List.length_filter_le _ _
end


/-! ### a tracked dict, its keys ints and texts or tuples of these -/
theorem kV_is {P : Program} {w : World} {k : Key} {u : Value} (r : RelV (kV k) u) : (mixKind P w).is k u = true := by
  cases k with
  | inl i => obtain ⟨t, e⟩ := (show ∃ t, u = Value.int i t from r); subst e; exact mixKind_int P w i t
  | inr x => obtain ⟨t, e⟩ := (show ∃ t, u = Value.str x t from r); subst e; exact mixKind_str P w x t
theorem kV_inj {a b : Key} (e : kV a = kV b) : a = b := by
  cases a with
  | inl i => cases b with
    | inl j => have e' : V.int i = V.int j := e; injection e' with e'; rw [e']
    | inr y => exact nomatch (show V.int i = V.str y from e)
  | inr x => cases b with
    | inl j => exact nomatch (show V.str x = V.int j from e)
    | inr y => have e' : V.str x = V.str y := e; injection e' with e'; rw [e']
theorem kVs_inj : ∀ {a b : List Key}, a.map kV = b.map kV → a = b
  | [], [], _ => rfl
  | [], _ :: _, e => by simp at e
  | _ :: _, [], e => by simp at e
  | x :: xs, y :: ys, e => by
    rw [List.map_cons, List.map_cons] at e
    injection e with e1 e2
    rw [kV_inj e1, kVs_inj e2]
theorem items_are {P : Program} {w : World} : ∀ {ks : List Key} {us : List Value}, Vals (ks.map kV) us → ItemsAre (mixKind P w) ks us
  | [], _, r => by rw [List.map_nil] at r; cases r; exact .nil
  | k :: ks, _, r => by
    rw [List.map_cons] at r
    cases r with
    | cons h t => exact .cons (kV_is h) (items_are t)

/-- raw entries of a dict with tuple keys -/
abbrev KT (H : Hp) : List (List Key × V) → List (List Key × Addr × Value) → Prop := Paired fun p q => p.1 = q.1 ∧ H q.2.1 = some (.tup (p.1.map kV)) ∧ RelV p.2 q.2.2
theorem KT.val {H : Hp} {kvs : List (List Key × V)} {xs : List (List Key × Addr × Value)} (r : KT H kvs xs) (k : List Key) : RelO (valV kvs k) ((atKey xs k).map (·.2)) := by
  induction r with
  | nil => exact True.intro
  | @cons p q ps qs h t ih =>
    obtain ⟨h1, _, h2⟩ := h
    by_cases e : p.1 = k
    · have e' : q.1 = k := h1.symm.trans e
      have b : atKey (q :: qs) k = some q.2 := by simp [atKey, List.find?_cons, e']
      rw [valV_pos e, b]; exact h2
    · have e' : ¬ q.1 = k := fun z => e (h1.trans z)
      have b : atKey (q :: qs) k = atKey qs k := by simp [atKey, List.find?_cons, e']
      rw [valV_neg e, b]; exact ih
theorem KT.repl {H : Hp} {kvs : List (List Key × V)} {xs : List (List Key × Addr × Value)} (r : KT H kvs xs) (k : List Key) {y : V} {u : Value} (ry : RelV y u) :
    KT H (kvs.map fun kv => if kv.1 = k then (kv.1, y) else kv) (xs.map (putAt k u)) := by
  induction r with
  | nil => exact .nil
  | @cons p q ps qs h t ih =>
    rw [List.map_cons, List.map_cons]
    refine .cons ?_ ih
    obtain ⟨h1, h2, h3⟩ := h
    unfold putAt
    by_cases e : p.1 = k
    · rw [if_pos e, if_pos (h1.symm.trans e)]; exact ⟨h1, h2, ry⟩
    · rw [if_neg e, if_neg (fun z => e (h1.trans z))]; exact ⟨h1, h2, h3⟩
theorem KT.put {H : Hp} {kvs : List (List Key × V)} {xs : List (List Key × Addr × Value)} (r : KT H kvs xs) (k : List Key) {b : Addr} {y : V} {u : Value} (hb : H b = some (.tup (k.map kV))) (ry : RelV y u) :
    KT H (putK kvs k y) (storedH xs k b u) := by
  have e : (kvs.any fun kv => decide (kv.1 = k)) = (atKey xs k).isSome := by
    rw [valV_any, (r.val k).isSome_eq, Option.isSome_map]
  unfold putK storedH
  rw [e]
  by_cases q : (atKey xs k).isSome = true
  · rw [if_pos q, if_pos q]; exact r.repl k ry
  · rw [if_neg q, if_neg q]; exact Paired.snoc r ⟨rfl, hb, ry⟩
theorem KT.keeps {H H' : Hp} {kvs : List (List Key × V)} {xs : List (List Key × Addr × Value)} (r : KT H kvs xs) (ht : ∀ b ys, H b = some (.tup ys) → H' b = some (.tup ys)) : KT H' kvs xs :=
  Paired.mapP r fun _ _ z => ⟨z.1, ht _ _ z.2.1, z.2.2⟩

section
variable {P : Program} {w : World} {H : Hp} {h : Heap} {a : Addr}
theorem rd_of {u : HO} (ok : HOk P w H h) (e : Rd H a u) : ObjOk P w H h a u := e.ok ok
theorem dk_rd {kvs : List (Key × V)} (ok : HOk P w H h) (e : Rd H a (.dK kvs)) : kvs.length ≤ sizeLine ∧ (a == sysModules) = false ∧ ∃ vs, KV kvs vs ∧ h.DictOf (mixKind P w) a vs :=
  show ObjOk P w H h a (.dK kvs) from rd_of ok e
theorem dk_of {kvs : List (Key × V)} (ok : HOk P w H h) (e : H a = some (.dK kvs)) : kvs.length ≤ sizeLine ∧ (a == sysModules) = false ∧ ∃ vs, KV kvs vs ∧ h.DictOf (mixKind P w) a vs := dk_rd ok (.inl e)
/-- a tracked tuple of ints and texts is a key -/
theorem key_of {ks : List Key} (ok : HOk P w H h) (e : H a = some (.tup (ks.map kV))) : (tupleKind (mixKind P w)).is h ks a := by
  obtain ⟨_, its, r, o, h1, h2, n, h3⟩ := (show ObjOk P w H h a (.tup (ks.map kV)) from ok a _ e)
  exact ⟨o, its.toArray, n, h1, h2, h3, by simpa using items_are r⟩
theorem dt_rd {kvs : List (List Key × V)} (ok : HOk P w H h) (e : Rd H a (.dT kvs)) : kvs.length ≤ sizeLine ∧ (a == sysModules) = false ∧
    ∃ xs, KT H kvs xs ∧ h.DictOfH (tupleKind (mixKind P w)) a xs := by
  obtain ⟨z, y, xs, r, o, es, ep, h1, h2, h3, h4, h5⟩ := (show ObjOk P w H h a (.dT kvs) from rd_of ok e)
  refine ⟨z, y, xs, r, o, es, ep, h1, h2, h3, h4, fun x hx => ?_, h5⟩
  have all : ∀ {l : List (List Key × V)} {m : List (List Key × Addr × Value)}, KT H l m → ∀ x ∈ m, (tupleKind (mixKind P w)).is h x.1 x.2.1 := by
    intro l m q
    induction q with
    | nil => intro x hx; exact nomatch hx
    | @cons p q ps qs hq t ih =>
      intro x hx
      rcases List.mem_cons.mp hx with e | hx
      · subst e
        exact key_of ok (by rw [← hq.1]; exact hq.2.1)
      · exact ih x hx
  exact all r x hx
theorem dt_of {kvs : List (List Key × V)} (ok : HOk P w H h) (e : H a = some (.dT kvs)) : kvs.length ≤ sizeLine ∧ (a == sysModules) = false ∧
    ∃ xs, KT H kvs xs ∧ h.DictOfH (tupleKind (mixKind P w)) a xs := dt_rd ok (.inl e)
end

/-- what the dict at a holds at the key y -/
def DGet (H : Hp) (a : Addr) (y : V) (r : Option V) : Prop :=
  (∃ kvs k, Rd H a (.dK kvs) ∧ y = kV k ∧ r = valV kvs k) ∨ ∃ kvs k b, Rd H a (.dT kvs) ∧ y = .ref b ∧ H b = some (.tup (k.map kV)) ∧ r = valV kvs k
/-- the heap behind a[y] = v -/
def DPut (H : Hp) (a : Addr) (y v : V) (H' : Hp) : Prop :=
  (∃ kvs k, H a = some (.dK kvs) ∧ y = kV k ∧ kvs.length < sizeLine ∧ H' = upd H a (.dK (putK kvs k v))) ∨
  ∃ kvs k b, H a = some (.dT kvs) ∧ y = .ref b ∧ H b = some (.tup (k.map kV)) ∧ kvs.length < sizeLine ∧ H' = upd H a (.dT (putK kvs k v))
theorem DGet.k {H : Hp} {a : Addr} {kvs : List (Key × V)} {k : Key} (e : H a = some (.dK kvs)) : DGet H a (kV k) (valV kvs k) := .inl ⟨kvs, k, .inl e, rfl, rfl⟩
theorem DGet.t {H : Hp} {a b : Addr} {kvs : List (List Key × V)} {k : List Key} (e : H a = some (.dT kvs)) (eb : H b = some (.tup (k.map kV))) : DGet H a (.ref b) (valV kvs k) := .inr ⟨kvs, k, b, .inl e, rfl, eb, rfl⟩
theorem DPut.k {H : Hp} {a : Addr} {kvs : List (Key × V)} {k : Key} {v : V} (e : H a = some (.dK kvs)) (hl : kvs.length < sizeLine) : DPut H a (kV k) v (upd H a (.dK (putK kvs k v))) := .inl ⟨kvs, k, e, rfl, hl, rfl⟩
theorem DPut.t {H : Hp} {a b : Addr} {kvs : List (List Key × V)} {k : List Key} {v : V} (e : H a = some (.dT kvs)) (eb : H b = some (.tup (k.map kV))) (hl : kvs.length < sizeLine) :
    DPut H a (.ref b) v (upd H a (.dT (putK kvs k v))) := .inr ⟨kvs, k, b, e, rfl, eb, hl, rfl⟩


section
variable {X : Cx} {pins : List (Addr × Obj)} {σ : St} {H : Hp} {s : Shared} {a : Addr} {y v : V} {u r : Value} {o : Option V} {A : Around} {E : Value → Shared → Prop}

theorem Inv.big (I : Inv X pins σ H s) : sysModules < s.heap.objs.size := by
  have h : mainGlobals < s.heap.objs.size := (I.mod.glob.keeps I.bk).lt
  exact Nat.lt_trans (by decide) h

/-- d[y], there -/
theorem d_getItem {Q : Value → Shared → Prop} (hu : A.units + 1 < cLine) (I : Inv X pins σ H s) (g : DGet H a y (some v)) (ry : RelV y u) (h : ∀ w' s', Inv X pins σ H s' → RelV v w' → Q w' s') :
    wpAny (model X.prog X.w) A (getItem (.ref a) u) Q E s := by
  rcases g with ⟨kvs, k, e, ey, l⟩ | ⟨kvs, k, b, e, ey, eb, l⟩
  · subst ey
    obtain ⟨z, hd, vs, rel, dd⟩ := dk_rd I.hok e
    obtain ⟨w', hw, rw'⟩ := RelO.some_of (v := v) (o := valueAt vs k) (by rw [l]; exact rel.val k)
    exact wpAny_getItem_of (kV_is ry) dd.mapOf hw (h w' _ (I.tok _) rw')
  · subst ey
    cases (show u = Value.ref b from ry)
    obtain ⟨z, hd, xs, rel, dd⟩ := dt_rd I.hok e
    obtain ⟨w', hw, rw'⟩ := RelO.some_of (v := v) (o := (atKey xs k).map (·.2)) (by rw [l]; exact rel.val k)
    obtain ⟨p, hp, hp2⟩ := Option.map_eq_some_iff.mp hw
    refine wpAny_getItem_heap (tupleKind_room_in1 hu) (key_of I.hok eb) dd hp ?_
    rw [hp2]
    exact h w' _ (I.tok _) rw'
/-- y in d -/
theorem d_in {Q : Value → Shared → Prop} (hu : A.units + 1 < cLine) (I : Inv X pins σ H s) (g : DGet H a y o) (ry : RelV y u) (h : ∀ s', Inv X pins σ H s' → Q (.bool o.isSome) s') :
    wpAny (model X.prog X.w) A (compareOp .In u (.ref a)) Q E s := by
  rcases g with ⟨kvs, k, e, ey, l⟩ | ⟨kvs, k, b, e, ey, eb, l⟩
  · subst ey
    obtain ⟨z, hd, vs, rel, dd⟩ := dk_rd I.hok e
    refine wpAny_in_of (kV_is ry) hd dd.mapOf ?_
    rw [← (rel.val k).isSome_eq, ← l]
    exact h _ (I.tok _)
  · subst ey
    cases (show u = Value.ref b from ry)
    obtain ⟨z, hd, xs, rel, dd⟩ := dt_rd I.hok e
    refine wpAny_in_heap (tupleKind_room_in1 hu) (key_of I.hok eb) hd dd ?_
    have q := (rel.val k).isSome_eq
    rw [Option.isSome_map] at q
    rw [← q, ← l]
    exact h _ (I.tok _)
theorem d_notIn {Q : Value → Shared → Prop} (hu : A.units + 1 < cLine) (I : Inv X pins σ H s) (g : DGet H a y o) (ry : RelV y u) (h : ∀ s', Inv X pins σ H s' → Q (.bool (!o.isSome)) s') :
    wpAny (model X.prog X.w) A (compareOp .NotIn u (.ref a)) Q E s := by
  rcases g with ⟨kvs, k, e, ey, l⟩ | ⟨kvs, k, b, e, ey, eb, l⟩
  · subst ey
    obtain ⟨z, hd, vs, rel, dd⟩ := dk_rd I.hok e
    refine wpAny_notIn_of (kV_is ry) hd dd.mapOf ?_
    rw [← (rel.val k).isSome_eq, ← l]
    exact h _ (I.tok _)
  · subst ey
    cases (show u = Value.ref b from ry)
    obtain ⟨z, hd, xs, rel, dd⟩ := dt_rd I.hok e
    refine wpAny_notIn_heap (tupleKind_room_in1 hu) (key_of I.hok eb) hd dd ?_
    have q := (rel.val k).isSome_eq
    rw [Option.isSome_map] at q
    rw [← q, ← l]
    exact h _ (I.tok _)
/-- a dict's object is replaced -/
theorem d_write {h' : Heap} {t' : Nat} {ob : HO} (I : Inv X pins σ H s) (mu : Mut (H a)) (hs : Heap.SameBut a s.heap h') (he : ∃ q, h'.get? a = some q) (new : ObjOk X.prog X.w (upd H a ob) h' a ob) :
    Inv X pins σ (upd H a ob) { s with heap := h', toks := t' } :=
  I.write (x := a) (e := a) mu (.inl rfl) (fun b q hb z => (hs.2 b hb).trans z) he new
theorem dk_new {P : Program} {w : World} {H' : Hp} {h' : Heap} {kvs : List (Key × V)} {vs : List (Key × Value)} (z : kvs.length ≤ sizeLine) (hd : (a == sysModules) = false) (rel : KV kvs vs) (dd : h'.DictOf (mixKind P w) a vs) :
    ObjOk P w H' h' a (.dK kvs) := ⟨z, hd, vs, rel, dd⟩
/-- d[y] = v -/
theorem d_setItem {H' : Hp} {Q : Unit → Shared → Prop} (hu : A.units + 1 < cLine) (I : Inv X pins σ H s) (g : DPut H a y v H') (ry : RelV y u) (rv : RelV v r) (h : ∀ s', Inv X pins σ H' s' → Q () s') :
    wpAny (model X.prog X.w) A (setItem (.ref a) u r) Q E s := by
  rcases g with ⟨kvs, k, e, ey, l, eH⟩ | ⟨kvs, k, b, e, ey, eb, l, eH⟩
  · subst ey eH
    obtain ⟨z, hd, vs, rel, dd⟩ := dk_of I.hok e
    have hz : vs.length ≤ sizeLine := by rw [← rel.length]; exact z
    have hl : (putK kvs k v).length ≤ sizeLine := by have := length_putK kvs k v; omega
    refine wpAny_setItem_pairs (hsz := hz) (kV_is ry) dd fun h' dd' hs => h _ ?_
    have he : ∃ q, h'.get? a = some q := let ⟨q, _, _, hq, _⟩ := dd'; ⟨q, hq⟩
    exact d_write I (by rw [e]; exact True.intro) hs he (dk_new hl hd (rel.put k rv) dd')
  · subst ey eH
    cases (show u = Value.ref b from ry)
    obtain ⟨z, hd, xs, rel, dd⟩ := dt_of I.hok e
    have hz : xs.length ≤ sizeLine := by rw [← Paired.length rel]; exact z
    have hl : (putK kvs k v).length ≤ sizeLine := by have := length_putK kvs k v; omega
    refine wpAny_setItem_heap (hsz := hz) (tupleKind_room_in1 hu) (key_of I.hok eb) dd fun h' dd' hs => h _ ?_
    obtain ⟨q, es, ep, hq, h2, h3, h4, _, h5⟩ := dd'
    refine d_write I (by rw [e]; exact True.intro) hs ⟨q, hq⟩ ⟨hl, hd, _, (rel.put k eb rv).keeps fun c ys ec => ?_, q, es, ep, hq, h2, h3, h4, h5⟩
    rw [upd_ne (ne_of ec e (fun z => nomatch z))]
    exact ec
end

section
variable {X : Cx} {pins : List (Addr × Obj)} {σ : St} {H : Hp} {s : Shared} {a : Addr} {kvs : List (Key × V)} {k : Key} {u : Value} {A : Around} {E : Value → Shared → Prop}
/-- del d[k] -/
theorem d_delItem {Q : Unit → Shared → Prop} (I : Inv X pins σ H s) (e : H a = some (.dK kvs)) (ry : RelV (kV k) u) (l : (valV kvs k).isSome = true) (h : ∀ s', Inv X pins σ (upd H a (.dK (dropK kvs k))) s' → Q () s') :
    wpAny (model X.prog X.w) A (delItem (.ref a) u) Q E s := by
  obtain ⟨z, hd, vs, rel, dd⟩ := dk_of I.hok e
  refine wpAny_delItem_slot dd.typeIs (by decide) PySem.F.slot_dict_delitem
    (call_meetsIn PySem.F.slot_dict_delitem dd.typeIs PySem.F.entry_dict_delitem (PySem.F.args_dict_delitem_2 _ _) (meets_dict_delitem_pairs (mixKind X.prog X.w) a (kV_is ry)) ⟨vs, dd, by rw [← rel.length]; exact z, by rw [← (rel.val k).isSome_eq]; exact l, fun h' dd' hs => h _ ?_⟩)
  have he : ∃ q, h'.get? a = some q := let ⟨q, _, _, hq, _⟩ := dd'; ⟨q, hq⟩
  exact d_write I (by rw [e]; exact True.intro) hs he (dk_new (Nat.le_trans (dropK_le kvs k) z) hd (rel.drop k) dd')
/-- d.pop(k[, x]), there -/
theorem d_pop {v : V} {more : List Value} {Q : Value → Shared → Prop} (I : Inv X pins σ H s) (e : H a = some (.dK kvs)) (ry : RelV (kV k) u) (l : valV kvs k = some v) (hm : more = [] ∨ ∃ x, more = [x])
    (h : ∀ w' s', Inv X pins σ (upd H a (.dK (dropK kvs k))) s' → RelV v w' → Q w' s') : wpAny (model X.prog X.w) A (call (.builtin "dict.pop") (.ref a :: u :: more)) Q E s := by
  obtain ⟨z, hd, vs, rel, dd⟩ := dk_of I.hok e
  obtain ⟨w', hw, rw'⟩ := RelO.some_of (v := v) (o := valueAt vs k) (by rw [← l]; exact rel.val k)
  have hp : (keyPart u).isSome = true := by
    cases k with
    | inl i => obtain ⟨t, q⟩ := (show ∃ t, u = Value.int i t from ry); subst q; rfl
    | inr x => obtain ⟨t, q⟩ := (show ∃ t, u = Value.str x t from ry); subst q; rfl
  have ha : argsOk "dict.pop" ⟨.ref a :: u :: more, []⟩ := by
    rcases hm with q | ⟨x, q⟩
    · subst q; exact PySem.F.args_dict_pop_2 _ _
    · subst q; exact PySem.F.args_dict_pop_3 _ _ _
  refine call_meetsIn PySem.F.slot_dict_pop dd.typeIs PySem.F.entry_dict_pop ha (meets_dict_pop_there (mixKind X.prog X.w) a (kV_is ry) more hm hp)
    ⟨vs, w', dd, by rw [← rel.length]; exact z, hw, fun h' dd' hs => h w' _ ?_ rw'⟩
  have he : ∃ q, h'.get? a = some q := let ⟨q, _, _, hq, _⟩ := dd'; ⟨q, hq⟩
  exact d_write I (by rw [e]; exact True.intro) hs he (dk_new (Nat.le_trans (dropK_le kvs k) z) hd (rel.drop k) dd')
/-- d.pop(k, x), not there -/
theorem d_popD {r : Value} {Q : Value → Shared → Prop} (I : Inv X pins σ H s) (e : H a = some (.dK kvs)) (ry : RelV (kV k) u) (l : valV kvs k = none) (h : ∀ s', Inv X pins σ H s' → Q r s') :
    wpAny (model X.prog X.w) A (call (.builtin "dict.pop") [.ref a, u, r]) Q E s := by
  obtain ⟨z, hd, vs, rel, dd⟩ := dk_of I.hok e
  have hn : valueAt vs k = none := RelO.none_of (by rw [← l]; exact rel.val k)
  have hp : (keyPart u).isSome = true := by
    cases k with
    | inl i => obtain ⟨t, q⟩ := (show ∃ t, u = Value.int i t from ry); subst q; rfl
    | inr x => obtain ⟨t, q⟩ := (show ∃ t, u = Value.str x t from ry); subst q; rfl
  exact call_meetsIn PySem.F.slot_dict_pop dd.typeIs PySem.F.entry_dict_pop (PySem.F.args_dict_pop_3 _ _ _) (meets_dict_pop_default (mixKind X.prog X.w) a (kV_is ry) hd hp r) ⟨vs, dd, hn, h _ (I.tok _)⟩
/-- d.clear() -/
theorem d_clear {Q : Value → Shared → Prop} (I : Inv X pins σ H s) (e : H a = some (.dK kvs)) (h : ∀ s', Inv X pins σ (upd H a (.dK [])) s' → Q .none s') : wpAny (model X.prog X.w) A (call (.builtin "dict.clear") [.ref a]) Q E s := by
  obtain ⟨z, hd, vs, rel, dd⟩ := dk_of I.hok e
  refine call_meetsIn PySem.F.slot_dict_clear dd.typeIs PySem.F.entry_dict_clear (PySem.F.args_dict_clear_1 _) (meets_dict_clear (mixKind X.prog X.w) a) ⟨vs, dd, by rw [← rel.length]; exact z, fun h' dd' hs => h _ ?_⟩
  have he : ∃ q, h'.get? a = some q := let ⟨q, _, _, hq, _⟩ := dd'; ⟨q, hq⟩
  exact d_write (t' := s.toks) I (by rw [e]; exact True.intro) hs he (dk_new (Nat.zero_le _) hd .nil dd')
/-- len(d) -/
theorem d_len {Q : Value → Shared → Prop} (I : Inv X pins σ H s) (e : Rd H a (.dK kvs)) (h : ∀ t s', Inv X pins σ H s' → Q (.int kvs.length t) s') : wpAny (model X.prog X.w) A (call (.builtin "len") [.ref a]) Q E s := by
  obtain ⟨z, hd, vs, rel, dd⟩ := dk_rd I.hok e
  refine call_len_dict hd dd (by rw [← rel.length]; rw [sizeLine_eq] at z; omega) ?_
  rw [← rel.length]
  exact h _ _ (I.tok _)
/-- if d -/
theorem d_truth {Q : Bool → Shared → Prop} (I : Inv X pins σ H s) (e : Rd H a (.dK kvs)) (h : ∀ s', Inv X pins σ H s' → Q (!kvs.isEmpty) s') : wpAny (model X.prog X.w) A (truthy (.ref a)) Q E s := by
  obtain ⟨z, hd, vs, rel, dd⟩ := dk_rd I.hok e
  refine wpAny_truthy_dict hd dd (by rw [← rel.length]; rw [sizeLine_eq] at z; omega) ?_
  have q : kvs.isEmpty = vs.isEmpty := by cases rel <;> rfl
  rw [← q]
  exact h _ (I.tok _)
end


/-! ### readings and rules -/
/-- the element of a subscription, not a slice -/
def NoSl (i : Expr) : Prop := ∀ ov iv, subscripted i false ov iv = operate [ov, iv] (getItem ov iv)
theorem subD_of {prog : Program} {w : World} {A : Around} {E : Value → Shared → Prop} {s : Shared} {env : Env} {value slice : Expr} {pos : Pos} {T id : String} {Q : Value → Shared → Prop}
    (hl : typeLookup (.type T) "__getitem__" = pure (some (.builtin id))) (hs : NoSl slice)
    (h : wpAny (model prog w) A (eval value env) (fun o s₁ => wpAny (model prog w) A (eval slice env) (fun i s₂ => s₂.TypeIs o T ∧ wpAny (model prog w) A (getItem o i) Q E s₂) E s₁) E s) :
    wpAny (model prog w) A (eval (.Subscript value slice pos) env) Q E s := by
  refine Subscript_ (wpAny_mono h (fun o s₁ h₁ => wpAny_mono h₁ (fun i s₂ h₂ => ?_) fun _ _ x => x) fun _ _ x => x)
  obtain ⟨hT, h₂⟩ := h₂
  unfold subscriptTail
  refine wpAny_bind ?_
  rw [getitemInPython_of_ne hT.not_modules]
  refine wpAny_bind (wpAny_specialOf hT hl ?_)
  have fin : wpAny (model prog w) A (subscripted slice false o i) (fun r s₃ => wpAny (model prog w) A (letTemporaryGo value o r >>= fun _ => pure r) Q E s₃) E s₂ := by
    rw [hs o i]
    exact wpAny_operating (wpAny_mono h₂ (fun r s₃ h₃ => wpAny_bind (wpAny_letTemporaryGo (wpAny_pure h₃))) fun _ _ x => x)
  first
    | exact wpAny_pure (wpAny_bind fin)
    | exact wpAny_bind (wpAny_pure (wpAny_bind fin))
    | exact wpAny_bind fin

theorem dict_typeIs {X : Cx} {pins : List (Addr × Obj)} {σ : St} {H : Hp} {s : Shared} {a : Addr} {y : V} {o : Option V} (I : Inv X pins σ H s) (g : DGet H a y o) : s.TypeIs (.ref a) "dict" := by
  rcases g with ⟨kvs, k, e, _, _⟩ | ⟨kvs, k, b, e, _, _, _⟩
  · obtain ⟨_, _, vs, _, dd⟩ := dk_rd I.hok e
    exact dd.typeIs
  · obtain ⟨_, _, xs, _, dd⟩ := dt_rd I.hok e
    exact dd.typeIs
theorem dict_noDict {X : Cx} {pins : List (Addr × Obj)} {σ : St} {H : Hp} {s : Shared} {a : Addr} {y : V} {o : Option V} (I : Inv X pins σ H s) (g : DGet H a y o) :
    ∀ b, Value.ref a = .ref b → ∃ ob, s.heap.get? b = some ob ∧ ob.dict = none := fun b q => by
  cases q
  rcases g with ⟨kvs, k, e, _, _⟩ | ⟨kvs, k, b, e, _, _, _⟩
  · obtain ⟨_, _, vs, _, ob, _, _, h1, h2, _⟩ := dk_rd I.hok e
    exact ⟨ob, h1, h2.2.1⟩
  · obtain ⟨_, _, xs, _, ob, _, _, h1, h2, _⟩ := dt_rd I.hok e
    exact ⟨ob, h1, h2.2.1⟩

/-- d[y] -/
def tDGet (td ty : TE) : TE := fun σ H Q => td σ H fun x H1 => ty σ H1 fun y H2 => ∃ a v, x = .ref a ∧ DGet H2 a y (some v) ∧ Q v H2
/-- y in d, y not in d -/
def tDIn (ty td : TE) : TE := fun σ H Q => ty σ H fun y H1 => td σ H1 fun x H2 => ∃ a o, x = .ref a ∧ DGet H2 a y o ∧ Q (.bl o.isSome) H2
def tDNotIn (ty td : TE) : TE := fun σ H Q => ty σ H fun y H1 => td σ H1 fun x H2 => ∃ a o, x = .ref a ∧ DGet H2 a y o ∧ Q (.bl (!o.isSome)) H2
/-- d[y] = v -/
def sDPut (td ty tv : TE) : TS := fun D σ H => tv σ H fun v H1 => td σ H1 fun x H2 => ty σ H2 fun y H3 => ∃ a H4, x = .ref a ∧ DPut H3 a y v H4 ∧ D.nx σ H4
/-- d[y] op= v -/
def sDAug (td ty tv : TE) (rd : V → V → Hp → VK → Prop) : TS := fun D σ H => td σ H fun x H1 => ty σ H1 fun y H2 => ∃ a v, x = .ref a ∧ DGet H2 a y (some v) ∧
  tv σ H2 fun y2 H3 => rd v y2 H3 fun z H4 => ∃ H5, DPut H4 a y z H5 ∧ D.nx σ H5
/-- del d[y] -/
def sDDel (td ty : TE) : TS := fun D σ H => td σ H fun x H1 => ty σ H1 fun y H2 => ∃ a kvs k, x = .ref a ∧ H2 a = some (.dK kvs) ∧ y = kV k ∧ (valV kvs k).isSome = true ∧ D.nx σ (upd H2 a (.dK (dropK kvs k)))

section
variable {X : Cx} {o i e value : Expr} {pos pos' tpos : Pos} {td ty tv : TE}
theorem pe_dget (hu : X.A.units + 1 < cLine) (ho : PE X o td) (hi : PE X i ty) (hs : NoSl i) : PE X (.Subscript o i pos) (tDGet td ty) := by
  intro pins s σ H Q I h
  refine subD_of PySem.F.slot_dict_getitem.lookup hs (thn (ho pins s σ H _ I h) fun u s1 ⟨x, H1, I1, rx, q1⟩ => thn (hi pins s1 σ H1 _ I1 q1) fun iv s2 ⟨y, H2, I2, ry, a, v, ex, g, q2⟩ => ?_)
  subst ex
  obtain rfl : u = Value.ref a := rx
  exact ⟨dict_typeIs I2 g, d_getItem hu I2 g ry fun w' s3 I3 rw' => ⟨v, H2, I3, rw', q2⟩⟩
theorem pc_din (hu : X.A.units + 1 < cLine) (hi : PE X i ty) (ho : PE X o td) : PC X .In i o (tDIn ty td) := by
  intro pins s σ H Q I h
  refine thn (hi pins s σ H _ I h) fun iv s1 ⟨y, H1, I1, ry, q1⟩ => thn (ho pins s1 σ H1 _ I1 q1) fun u s2 ⟨x, H2, I2, rx, a, ov, ex, g, q2⟩ => ?_
  subst ex
  obtain rfl : u = Value.ref a := rx
  exact d_in hu I2 g ry fun s3 I3 => ⟨.bl ov.isSome, H2, I3, rfl, q2⟩
theorem pc_dnotin (hu : X.A.units + 1 < cLine) (hi : PE X i ty) (ho : PE X o td) : PC X .NotIn i o (tDNotIn ty td) := by
  intro pins s σ H Q I h
  refine thn (hi pins s σ H _ I h) fun iv s1 ⟨y, H1, I1, ry, q1⟩ => thn (ho pins s1 σ H1 _ I1 q1) fun u s2 ⟨x, H2, I2, rx, a, ov, ex, g, q2⟩ => ?_
  subst ex
  obtain rfl : u = Value.ref a := rx
  exact d_notIn hu I2 g ry fun s3 I3 => ⟨.bl (!ov.isSome), H2, I3, rfl, q2⟩
theorem ps_dput (hu : X.A.units + 1 < cLine) (ho : PE X o td) (hi : PE X i ty) (hv : PE X value tv) (hs : swapsWith value (some (.Subscript o i pos')) pos.line X.env = pure false) :
    PS X (.Assign [.Subscript o i pos'] value pos) (sDPut td ty tv) := by
  intro pins s σ H D I h
  refine wpAny_Assign_Subscript (thn (hv pins s σ H _ I h) fun r s1 ⟨v, H1, I1, rv, q1⟩ => thn (ho pins s1 σ H1 _ I1 q1) fun u s2 ⟨x, H2, I2, rx, q2⟩ => thn (hi pins s2 σ H2 _ I2 q2) fun iv s3 ⟨y, H3, I3, ry, a, H4, ex, g, q3⟩ => ?_) hs
  subst ex
  obtain rfl : u = Value.ref a := rx
  exact d_setItem hu I3 g ry rv fun s4 I4 => ⟨σ, H4, I4, q3⟩
theorem ps_daug {op : Operator} {rd : V → V → Hp → VK → Prop} (hu : X.A.units + 1 < cLine) (ho : PE X o td) (hi : PE X i ty) (hv : PE X value tv) (hop : InOp X op rd)
    (ha : ∀ ov iv new, augStore i ov iv new = (do holding [new, ov, iv] (setItem ov iv new); release [new, ov, iv] []; pure .next)) : PS X (.AugAssign (.Subscript o i tpos) op value pos) (sDAug td ty tv rd) := by
  intro pins s σ H D I h
  refine wpAny_AugAssign_SubscriptAny (thn (ho pins s σ H _ I h) fun u s1 ⟨x, H1, I1, rx, q1⟩ => thn (hi pins s1 σ H1 _ I1 q1) fun iv s2 ⟨y, H2, I2, ry, a, v, ex, g, q2⟩ => ?_) ha
  subst ex
  obtain rfl : u = Value.ref a := rx
  refine d_getItem hu I2 g ry fun w' s3 I3 rw' => thn (hv pins s3 σ H2 _ I3 q2) fun w2 s4 ⟨y2, H3, I4, ry2, q3⟩ => thn (hop pins s4 σ H3 v y2 w' w2 _ I4 rw' ry2 q3) fun w3 s5 ⟨z, H4, I5, rz, H5, g5, q4⟩ => ?_
  exact d_setItem hu I5 g5 ry rz fun s6 I6 => ⟨σ, H5, I6, q4⟩
theorem ps_ddel (ho : PE X o td) (hi : PE X i ty) : PS X (.Delete [.Subscript o i tpos] pos) (sDDel td ty) := by
  intro pins s σ H D I h
  refine wpAny_Delete (wpAny_deleteEach_cons (wpAny_delete_Subscript (thn (ho pins s σ H _ I h) fun u s1 ⟨x, H1, I1, rx, q1⟩ => thn (hi pins s1 σ H1 _ I1 q1) fun iv s2 ⟨y, H2, I2, ry, a, kvs, k, ex, e, ey, l, q2⟩ => ?_)))
  subst ex ey
  obtain rfl : u = Value.ref a := rx
  exact d_delItem I2 e ry l fun s3 I3 => wpAny_deleteEach_nil ⟨σ, _, I3, q2⟩
end


/-! ### displays -/
theorem dk_empty {P : Program} {w : World} {H : Hp} (h : Heap) (hb : sysModules < h.objs.size) : ObjOk P w H (h.push { cls := .type "dict", data := .dict #[] }) h.objs.size (.dK []) :=
  ⟨Nat.zero_le _, beq_eq_false_iff_ne.mpr (Ne.symm (Nat.ne_of_lt hb)), [], .nil, Heap.DictOf.new h⟩
theorem dt_empty {P : Program} {w : World} {H : Hp} (h : Heap) (hb : sysModules < h.objs.size) : ObjOk P w H (h.push { cls := .type "dict", data := .dict #[] }) h.objs.size (.dT []) :=
  ⟨Nat.zero_le _, beq_eq_false_iff_ne.mpr (Ne.symm (Nat.ne_of_lt hb)), [], .nil, _, #[], 0, Heap.get?_push_size _ rfl, ⟨rfl, rfl, rfl⟩, rfl, rfl, List.nodup_nil⟩
/-- {}, to be a dict of the kind that is wanted -/
def tDNewK : TE := fun _ H Q => ∀ p, H p = none → Q (.ref p) (upd H p (.dK []))
def tDNewT : TE := fun _ H Q => ∀ p, H p = none → Q (.ref p) (upd H p (.dT []))
section
variable {X : Cx} {pos : Pos}
theorem pe_dnewK : PE X (.Dict [] [] pos) tDNewK := fun pins s σ H Q I h =>
  wpAny_Dict_empty ⟨.ref s.heap.objs.size, _, I.laid (a := s.heap.objs.size) (o := .dK []) (t' := s.toks) (fun _ _ q => Heap.get?_push_of_some _ q) (Nat.le_refl _) (dk_empty s.heap I.big), rfl, h _ (I.hok.fresh (Nat.le_refl _))⟩
theorem pe_dnewT : PE X (.Dict [] [] pos) tDNewT := fun pins s σ H Q I h =>
  wpAny_Dict_empty ⟨.ref s.heap.objs.size, _, I.laid (a := s.heap.objs.size) (o := .dT []) (t' := s.toks) (fun _ _ q => Heap.get?_push_of_some _ q) (Nat.le_refl _) (dt_empty s.heap I.big), rfl, h _ (I.hok.fresh (Nat.le_refl _))⟩
end

/-- the pairs of a display, from the left -/
def tPairs : List (TE × TE) → St → Hp → (List (V × V) → Hp → Prop) → Prop
  | [], _, H, Q => Q [] H
  | (tk, tv) :: r, σ, H, Q => tk σ H fun x H1 => tv σ H1 fun y H2 => tPairs r σ H2 fun ps H3 => Q ((x, y) :: ps) H3
abbrev VV : List (V × V) → List (Value × Value) → Prop := Paired fun p q => RelV p.1 q.1 ∧ RelV p.2 q.2
def PPs (X : Cx) (pos : Pos) (keys : List (Option Expr)) (values : List Expr) (trs : List (TE × TE)) : Prop :=
  ∀ (pins : List (Addr × Obj)) (s : Shared) (σ : St) (H : Hp) (Q : List (V × V) → Hp → Prop), Inv X pins σ H s → tPairs trs σ H Q →
    wpAny (model X.prog X.w) X.A (evalPairs (pairTrees keys values X.env pos)) (fun vs s' => ∃ ps H', Inv X pins σ H' s' ∧ VV ps vs ∧ Q ps H') X.xe s
theorem pps_nil {X : Cx} {pos : Pos} : PPs X pos [] [] [] := fun pins s σ H Q I h => pairTrees_nil_walk ⟨[], H, I, .nil, h⟩
theorem pps_cons {X : Cx} {pos : Pos} {k v : Expr} {ks : List (Option Expr)} {vs : List Expr} {tk tv : TE} {trs : List (TE × TE)} (hk : PE X k tk) (hv : PE X v tv) (hr : PPs X pos ks vs trs) :
    PPs X pos (some k :: ks) (v :: vs) ((tk, tv) :: trs) := fun pins s σ H Q I h =>
  pairTrees_cons_walk (thn (hk pins s σ H _ I h) fun u s1 ⟨x, H1, I1, rx, q1⟩ => thn (hv pins s1 σ H1 _ I1 q1) fun w2 s2 ⟨y, H2, I2, ry, q2⟩ =>
    thn (hr pins s2 σ H2 _ I2 q2) fun ws s3 ⟨ps, H3, I3, rel, q3⟩ => ⟨(x, y) :: ps, H3, I3, .cons ⟨rx, ry⟩ rel, q3⟩)

def mergeK (kvs more : List (Key × V)) : List (Key × V) := more.foldl (fun acc kv => putK acc kv.1 kv.2) kvs
theorem KV.merge : ∀ {more : List (Key × V)} {rs : List (Key × Value)} {kvs : List (Key × V)} {vs : List (Key × Value)}, KV more rs → KV kvs vs → KV (mergeK kvs more) (merged vs rs) := by
  intro more rs kvs vs r
  unfold KV at r
  induction r generalizing kvs vs with
  | nil => intro q; exact q
  | @cons p q ps qs h t ih =>
    intro r0
    have e : KV (putK kvs p.1 p.2) (stored vs q.1 q.2) := by
      have := r0.put p.1 h.2
      rw [← h.1]; exact this
    exact ih e
theorem length_mergeK : ∀ (more kvs : List (Key × V)), (mergeK kvs more).length ≤ kvs.length + more.length
  | [], kvs => by show kvs.length ≤ kvs.length + 0; omega
  | p :: r, kvs => by
    have h1 := length_mergeK r (putK kvs p.1 p.2)
    have h2 := length_putK kvs p.1 p.2
    show (mergeK (putK kvs p.1 p.2) r).length ≤ _
    rw [List.length_cons]; omega
theorem carries_of {P : Program} {w : World} : ∀ {kvs : List (Key × V)} {ws : List (Value × Value)}, VV (kvs.map fun kv => (kV kv.1, kv.2)) ws → ∃ rs, Carries (mixKind P w) ws rs ∧ KV kvs rs
  | [], _, r => by rw [List.map_nil] at r; cases r; exact ⟨[], True.intro, .nil⟩
  | p :: kvs, _, r => by
    rw [List.map_cons] at r
    cases r with
    | @cons a b as bs h t =>
      obtain ⟨rs, c, q⟩ := carries_of (P := P) (w := w) t
      obtain ⟨b1, b2⟩ := b
      exact ⟨(p.1, b2) :: rs, ⟨kV_is h.1, rfl, c⟩, .cons ⟨rfl, h.2⟩ q⟩
/-- {k: v, ..} with keys ints and texts; the new dict stands empty while the pairs are made -/
def tDisp (trs : List (TE × TE)) : TE := fun σ H Q => ∀ p, H p = none → tPairs trs σ (upd H p (.dK [])) fun ps H2 => H2 p = some (.dK []) ∧ ∃ kvs : List (Key × V), ps = kvs.map (fun kv => (kV kv.1, kv.2)) ∧ kvs.length ≤ 15 ∧ Q (.ref p) (upd H2 p (.dK (mergeK [] kvs)))
theorem pe_disp {X : Cx} {pos : Pos} {keys : List (Option Expr)} {values : List Expr} {trs : List (TE × TE)} (h : PPs X pos keys values trs) (hall : keys.all (·.isSome) = true) (hl : keys.length = values.length) (h0 : keys ≠ [])
    (h15 : keys.length ≤ 15) : PE X (.Dict keys values pos) (tDisp trs) := by
  intro pins s σ H Q I q
  have hn := I.hok.fresh (Nat.le_refl s.heap.objs.size)
  have I1 := I.laid (a := s.heap.objs.size) (o := .dK []) (h' := s.heap.push { cls := .type "dict", data := .dict #[] }) (t' := s.toks) (fun _ _ q => Heap.get?_push_of_some _ q) (Nat.le_refl _) (dk_empty s.heap I.big)
  refine wpAny_Dict_walk (knd := mixKind X.prog X.w) hall hl h0 h15 (thn (h pins _ σ _ _ I1 (q _ hn)) fun ws s2 ⟨ps, H2, I2, rel, e, kvs, ep, lk, q2⟩ => ?_)
  subst ep
  obtain ⟨rs, c, rk⟩ := carries_of (P := X.prog) (w := X.w) rel
  obtain ⟨z, hd, vs0, r0, dd⟩ := dk_of I2.hok e
  cases r0
  refine ⟨rs, c, dd, fun h' dd' hs => ⟨.ref s.heap.objs.size, _, ?_, rfl, q2⟩⟩
  have hz : (mergeK [] kvs).length ≤ sizeLine := by
    have h1 := length_mergeK kvs []
    rw [List.length_nil] at h1
    rw [sizeLine_eq]; omega
  have he : ∃ q, h'.get? s.heap.objs.size = some q := let ⟨q, _, _, hq, _⟩ := dd'; ⟨q, hq⟩
  exact d_write I2 (by rw [e]; exact True.intro) hs he (dk_new hz hd (rk.merge .nil) dd')


/-! ### methods -/
/-- a method call o.m(e) of a built-in, with one argument: what must be seen of the text -/
structure M1 (X : Cx) (o : Expr) (m : Str) (apos : Pos) (e : Expr) (cpos : Pos) : Prop where
  base : attributeBase o m X.env (eval o X.env) = eval o X.env
  few : ((backTo cpos (starEach [e] X.env)).all (fun x => !x.1) && (backToKw cpos (keywordEach [] X.env)).all (fun x => x.1.isSome)
    && decide (([e] : List Expr).length + ([] : List Keyword).length + (if ([] : List Keyword).isEmpty then 0 else 1) < 30)) = true
  line : (apos.endLine == cpos.line) = true
  trees : backTo cpos (starEach [e] X.env) = [(false, eval e X.env)]
structure M2 (X : Cx) (o : Expr) (m : Str) (apos : Pos) (e f : Expr) (cpos : Pos) : Prop where
  base : attributeBase o m X.env (eval o X.env) = eval o X.env
  few : ((backTo cpos (starEach [e, f] X.env)).all (fun x => !x.1) && (backToKw cpos (keywordEach [] X.env)).all (fun x => x.1.isSome)
    && decide (([e, f] : List Expr).length + ([] : List Keyword).length + (if ([] : List Keyword).isEmpty then 0 else 1) < 30)) = true
  line : (apos.endLine == cpos.line) = true
  trees : backTo cpos (starEach [e, f] X.env) = [(false, eval e X.env), (false, eval f X.env)]

/-- a is a dict, whatever its keys -/
def IsD (H : Hp) (a : Addr) : Prop := (∃ kvs, Rd H a (.dK kvs)) ∨ ∃ kvs, Rd H a (.dT kvs)
theorem isD_at {X : Cx} {pins : List (Addr × Obj)} {σ : St} {H : Hp} {s : Shared} {a : Addr} (I : Inv X pins σ H s) (d : IsD H a) :
    s.TypeIs (.ref a) "dict" ∧ (∀ b, Value.ref a = .ref b → ∃ ob, s.heap.get? b = some ob ∧ ob.dict = none) ∧ (a == sysModules) = false := by
  rcases d with ⟨kvs, e⟩ | ⟨kvs, e⟩
  · obtain ⟨_, hd, vs, _, dd⟩ := dk_rd I.hok e
    refine ⟨dd.typeIs, fun b q => ?_, hd⟩
    cases q
    obtain ⟨ob, _, _, h1, h2, _⟩ := dd
    exact ⟨ob, h1, h2.2.1⟩
  · obtain ⟨_, hd, xs, _, dd⟩ := dt_rd I.hok e
    refine ⟨dd.typeIs, fun b q => ?_, hd⟩
    cases q
    obtain ⟨ob, _, _, h1, h2, _⟩ := dd
    exact ⟨ob, h1, h2.2.1⟩

section
variable {X : Cx} {pins : List (Addr × Obj)} {σ : St} {H : Hp} {s : Shared} {a : Addr} {y d : V} {u r : Value} {o : Option V} {A : Around} {E : Value → Shared → Prop}
/-- d.get(y) -/
theorem d_get1 {Q : Value → Shared → Prop} (hu : A.units + 1 < cLine) (I : Inv X pins σ H s) (g : DGet H a y o) (ry : RelV y u) (h : ∀ w' s', Inv X pins σ H s' → RelV (o.getD .non) w' → Q w' s') :
    wpAny (model X.prog X.w) A (call (.builtin "dict.get") [.ref a, u]) Q E s := by
  rcases g with ⟨kvs, k, e, ey, l⟩ | ⟨kvs, k, b, e, ey, eb, l⟩
  · subst ey
    obtain ⟨z, hd, vs, rel, dd⟩ := dk_rd I.hok e
    refine call_meetsIn PySem.F.slot_dict_get dd.typeIs PySem.F.entry_dict_get (PySem.F.args_dict_get_2 _ _) (meets_dict_get (mixKind X.prog X.w) a (kV_is ry) hd) ⟨_, dd.mapOf, h _ _ (I.tok _) ?_⟩
    rw [l]
    exact (rel.val k).getD rfl
  · subst ey
    cases (show u = Value.ref b from ry)
    obtain ⟨z, hd, xs, rel, dd⟩ := dt_rd I.hok e
    refine call_meetsIn PySem.F.slot_dict_get dd.typeIs PySem.F.entry_dict_get (PySem.F.args_dict_get_2 _ _) (meetsH_dict_get (tupleKind (mixKind X.prog X.w)) a b hd) ⟨tupleKind_room_in1 hu, k, xs, key_of I.hok eb, dd, h _ _ (I.tok _) ?_⟩
    rw [l]
    exact (rel.val k).getD rfl
/-- d.get(y, x) -/
theorem d_get2 {Q : Value → Shared → Prop} (hu : A.units + 1 < cLine) (I : Inv X pins σ H s) (g : DGet H a y o) (ry : RelV y u) (rd : RelV d r) (h : ∀ w' s', Inv X pins σ H s' → RelV (o.getD d) w' → Q w' s') :
    wpAny (model X.prog X.w) A (call (.builtin "dict.get") [.ref a, u, r]) Q E s := by
  rcases g with ⟨kvs, k, e, ey, l⟩ | ⟨kvs, k, b, e, ey, eb, l⟩
  · subst ey
    obtain ⟨z, hd, vs, rel, dd⟩ := dk_rd I.hok e
    refine call_meetsIn PySem.F.slot_dict_get dd.typeIs PySem.F.entry_dict_get (PySem.F.args_dict_get_3 _ _ _) (meets_dict_get_default (mixKind X.prog X.w) a (kV_is ry) hd r) ⟨_, dd.mapOf, h _ _ (I.tok _) ?_⟩
    rw [l]
    exact (rel.val k).getD rd
  · subst ey
    cases (show u = Value.ref b from ry)
    obtain ⟨z, hd, xs, rel, dd⟩ := dt_rd I.hok e
    refine call_meetsIn PySem.F.slot_dict_get dd.typeIs PySem.F.entry_dict_get (PySem.F.args_dict_get_3 _ _ _) (meetsH_dict_get_default (tupleKind (mixKind X.prog X.w)) a b hd r) ⟨tupleKind_room_in1 hu, k, xs, key_of I.hok eb, dd, h _ _ (I.tok _) ?_⟩
    rw [l]
    exact (rel.val k).getD rd
end

def tDGet1 (td ty : TE) : TE := fun σ H Q => td σ H fun x H1 => ∃ a, x = .ref a ∧ IsD H1 a ∧ ty σ H1 fun y H2 => ∃ o, DGet H2 a y o ∧ Q (o.getD .non) H2
def tDGet2 (td ty tx : TE) : TE := fun σ H Q => td σ H fun x H1 => ∃ a, x = .ref a ∧ IsD H1 a ∧ ty σ H1 fun y H2 => tx σ H2 fun z H3 => ∃ o, DGet H3 a y o ∧ Q (o.getD z) H3
/-- d.pop(k): there; d.pop(k, x): there or not -/
def tDPop1 (td ty : TE) : TE := fun σ H Q => td σ H fun x H1 => ∃ a, x = .ref a ∧ IsD H1 a ∧ ty σ H1 fun y H2 => ∃ kvs k v, H2 a = some (.dK kvs) ∧ y = kV k ∧ valV kvs k = some v ∧ Q v (upd H2 a (.dK (dropK kvs k)))
def tDPop2 (td ty tx : TE) : TE := fun σ H Q => td σ H fun x H1 => ∃ a, x = .ref a ∧ IsD H1 a ∧ ty σ H1 fun y H2 => tx σ H2 fun z H3 => ∃ kvs k, H3 a = some (.dK kvs) ∧ y = kV k ∧
  (∀ v, valV kvs k = some v → Q v (upd H3 a (.dK (dropK kvs k)))) ∧ (valV kvs k = none → Q z H3)
section
variable {X : Cx} {o e f : Expr} {apos cpos : Pos} {td ty tx : TE}
theorem pe_dget1 (hu : X.A.units + 1 < cLine) (ho : PE X o td) (he : PE X e ty) (m : M1 X o "get" apos e cpos) : PE X (.Call (.Attribute o "get" apos) [e] [] cpos) (tDGet1 td ty) := by
  intro pins s σ H Q I h
  refine wpAny_Call_method m.base m.few m.line PySem.F.plainAttrs_dict PySem.F.slot_dict_get PySem.F.type_dict_get (thn (ho pins s σ H _ I h) fun u s1 ⟨x, H1, I1, rx, a, ex, d, q1⟩ => ?_)
  subst ex
  obtain rfl : u = Value.ref a := rx
  obtain ⟨t1, t2, _⟩ := isD_at I1 d
  refine ⟨t1, t2, ?_⟩
  rw [m.trees]
  refine Calls.callWith_builtin rfl (Calls.evalArgs_plain (Calls.spliced_cons (thn (he pins s1 σ H1 _ I1 q1) fun iv s2 ⟨y, H2, I2, ry, ov, g, q2⟩ => Calls.spliced_nil ?_)))
  exact d_get1 hu I2 g ry fun w' s3 I3 rw' => ⟨_, H2, I3, rw', q2⟩
theorem pe_dget2 (hu : X.A.units + 1 < cLine) (ho : PE X o td) (he : PE X e ty) (hf : PE X f tx) (m : M2 X o "get" apos e f cpos) : PE X (.Call (.Attribute o "get" apos) [e, f] [] cpos) (tDGet2 td ty tx) := by
  intro pins s σ H Q I h
  refine wpAny_Call_method m.base m.few m.line PySem.F.plainAttrs_dict PySem.F.slot_dict_get PySem.F.type_dict_get (thn (ho pins s σ H _ I h) fun u s1 ⟨x, H1, I1, rx, a, ex, d, q1⟩ => ?_)
  subst ex
  obtain rfl : u = Value.ref a := rx
  obtain ⟨t1, t2, _⟩ := isD_at I1 d
  refine ⟨t1, t2, ?_⟩
  rw [m.trees]
  refine Calls.callWith_builtin rfl (Calls.evalArgs_plain (Calls.spliced_cons (thn (he pins s1 σ H1 _ I1 q1) fun iv s2 ⟨y, H2, I2, ry, q2⟩ =>
    Calls.spliced_cons (thn (hf pins s2 σ H2 _ I2 q2) fun fv s3 ⟨z, H3, I3, rz, ov, g, q3⟩ => Calls.spliced_nil ?_))))
  exact d_get2 hu I3 g ry rz fun w' s4 I4 rw' => ⟨_, H3, I4, rw', q3⟩
theorem pe_dpop1 (ho : PE X o td) (he : PE X e ty) (m : M1 X o "pop" apos e cpos) : PE X (.Call (.Attribute o "pop" apos) [e] [] cpos) (tDPop1 td ty) := by
  intro pins s σ H Q I h
  refine wpAny_Call_method m.base m.few m.line PySem.F.plainAttrs_dict PySem.F.slot_dict_pop PySem.F.type_dict_pop (thn (ho pins s σ H _ I h) fun u s1 ⟨x, H1, I1, rx, a, ex, d, q1⟩ => ?_)
  subst ex
  obtain rfl : u = Value.ref a := rx
  obtain ⟨t1, t2, _⟩ := isD_at I1 d
  refine ⟨t1, t2, ?_⟩
  rw [m.trees]
  refine Calls.callWith_builtin rfl (Calls.evalArgs_plain (Calls.spliced_cons (thn (he pins s1 σ H1 _ I1 q1) fun iv s2 ⟨y, H2, I2, ry, kvs, k, v, ea, ey, l, q2⟩ => Calls.spliced_nil ?_)))
  subst ey
  exact d_pop I2 ea ry l (.inl rfl) fun w' s3 I3 rw' => ⟨v, _, I3, rw', q2⟩
theorem pe_dpop2 (ho : PE X o td) (he : PE X e ty) (hf : PE X f tx) (m : M2 X o "pop" apos e f cpos) : PE X (.Call (.Attribute o "pop" apos) [e, f] [] cpos) (tDPop2 td ty tx) := by
  intro pins s σ H Q I h
  refine wpAny_Call_method m.base m.few m.line PySem.F.plainAttrs_dict PySem.F.slot_dict_pop PySem.F.type_dict_pop (thn (ho pins s σ H _ I h) fun u s1 ⟨x, H1, I1, rx, a, ex, d, q1⟩ => ?_)
  subst ex
  obtain rfl : u = Value.ref a := rx
  obtain ⟨t1, t2, _⟩ := isD_at I1 d
  refine ⟨t1, t2, ?_⟩
  rw [m.trees]
  refine Calls.callWith_builtin rfl (Calls.evalArgs_plain (Calls.spliced_cons (thn (he pins s1 σ H1 _ I1 q1) fun iv s2 ⟨y, H2, I2, ry, q2⟩ =>
    Calls.spliced_cons (thn (hf pins s2 σ H2 _ I2 q2) fun fv s3 ⟨z, H3, I3, rz, kvs, k, ea, ey, q3, q4⟩ => Calls.spliced_nil ?_))))
  subst ey
  cases l : valV kvs k with
  | some v => exact d_pop I3 ea ry l (.inr ⟨fv, rfl⟩) fun w' s4 I4 rw' => ⟨v, _, I4, rw', q3 v l⟩
  | none => exact d_popD I3 ea ry l fun s4 I4 => ⟨z, H3, I4, rz, q4 l⟩
end

/-! ### dict(d): a copy -/
section
variable {X : Cx} {pins : List (Addr × Obj)} {σ : St} {H : Hp} {s : Shared} {a : Addr} {kvs : List (Key × V)} {A : Around} {E : Value → Shared → Prop}
theorem d_copyOf {Q : Value → Shared → Prop} (I : Inv X pins σ H s) (e : Rd H a (.dK kvs)) (h : ∀ p s', H p = none → Inv X pins σ (upd H p (.dK kvs)) s' → Q (.ref p) s') : wpAny (model X.prog X.w) A (call (.type "dict") [.ref a]) Q E s := by
  obtain ⟨z, hd, vs, rel, dd⟩ := dk_rd I.hok e
  refine kt_call_dict hd dd (by rw [← rel.length]; exact z) fun h' dd' hs => ?_
  refine h _ _ (I.hok.fresh (Nat.le_refl _)) (I.laid (a := s.heap.objs.size) (o := .dK kvs) (t' := s.toks) (fun b q hq => ?_) (Nat.le_refl _) (dk_new z (beq_eq_false_iff_ne.mpr (Ne.symm (Nat.ne_of_lt I.big))) rel dd'))
  exact (hs.2 b (Nat.ne_of_lt (Heap.lt_size hq))).trans (Heap.get?_push_of_some _ hq)
end


section
variable {X : Cx} {pins : List (Addr × Obj)} {σ : St} {H : Hp} {s : Shared} {a : Addr} {y : V} {u : Value} {A : Around} {E : Value → Shared → Prop}
/-- d[y], not there: a KeyError -/
theorem d_missing {Q : Value → Shared → Prop} (hu : A.units + 1 < cLine) (hh : A.handled = none) (I : Inv X pins σ H s) (g : DGet H a y none) (ry : RelV y u)
    (h : ∀ h' e t', Heap.NewExc s.heap h' e "KeyError" → E (.ref e) { s with heap := h', toks := t' }) : wpAny (model X.prog X.w) A (getItem (.ref a) u) Q E s := by
  rcases g with ⟨kvs, k, e, ey, l⟩ | ⟨kvs, k, b, e, ey, eb, l⟩
  · subst ey
    obtain ⟨z, hd, vs, rel, dd⟩ := dk_rd I.hok e
    have hn : valueAt vs k = none := RelO.none_of (by rw [l]; exact rel.val k)
    exact wpAny_getItem_missing_of (kV_is ry) hd hh dd.mapOf hn fun h' ex ne => h h' ex _ ne
  · subst ey
    cases (show u = Value.ref b from ry)
    obtain ⟨z, hd, xs, rel, dd⟩ := dt_rd I.hok e
    have hn : (atKey xs k).map (·.2) = none := RelO.none_of (by rw [l]; exact rel.val k)
    exact wpAny_getItem_missing_heap (tupleKind_room_in1 hu) (key_of I.hok eb) hd hh dd (Option.map_eq_none_iff.mp hn) fun h' ex ne => h h' ex _ ne
end
end L2

namespace Att
open PySem PySem.W PySem.Calls PyProof.Rows

/-! ### the script -/
theorem ints_of_wellAll {P : Params} {h : Heap} : ∀ (ns : List Int) (vs : List Value), WellAll P h vs (ns.map WData.int) → IntsAre vs ns := by
  intro ns
  induction ns with
  | nil =>
    intro vs w
    rw [List.map_nil] at w
    cases w
    exact .nil
  | cons n ns ih =>
    intro vs w
    rw [List.map_cons] at w
    cases w with
    | cons a b =>
      cases a
      exact .cons _ _ (ih _ b)

theorem script_of {l : OpenLaw} {n : Nat} (hn : l.most = some n) {P : Params} {h : Heap} {args : List WData} {vals : List Value}
    (hpre : l.row.toRowW.claim.pre args = true) (hwl : WellAll P h vals args) :
    ∃ a vs ns, vals = [Value.ref a] ∧ args = [WData.list (ns.map WData.int)] ∧ h.get? a = some { cls := .type "list", data := .seq vs.toArray } ∧ IntsAre vs ns ∧ ns.length ≤ n := by
  have hsh : WShape.hasAll [] args [.list .int] = true := (pre_splitW hpre).1
  have hc : l.pre.holds [] { args := args } = true := (pre_splitW hpre).2
  obtain ⟨d, r, rfl, h1, h2⟩ := hasAllW_cons hsh
  obtain rfl := hasAllW_nil h2
  obtain ⟨xs, rfl, h3⟩ := hasW_list h1
  obtain ⟨ns, rfl⟩ := items_int h3
  have hlen : ns.length ≤ n := by
    unfold OpenLaw.pre at hc
    have h4 : (WTm.not (.lt (.lit (.int (n : Int))) (.len (.arg 0)))).holds [] { args := [.list (ns.map .int)] } = true := by
      have h4 := (holds_andW hc).1
      rw [hn] at h4
      exact h4
    have h5 := condW_of h4 (w_not (w_lt w_lit (w_len_list (w_arg rfl))))
    rw [List.length_map] at h5
    refine Nat.le_of_not_lt fun q => ?_
    have q' : (n : Int) < ((ns.length : Nat) : Int) := by omega
    first
      | (rw [decide_eq_true q'] at h5; exact absurd h5 (by decide))
      | (simp at h5; omega)
  cases hwl with
  | cons w1 w2 =>
    cases w2
    cases w1 with
    | list ho hall => exact ⟨_, _, ns, rfl, rfl, ho, ints_of_wellAll ns _ hall, hlen⟩

theorem post_true (l : OpenLaw) (args : List WData) : l.row.toRowW.claim.post args (.bool true) args = true :=
  postW_of (r := l.row.toRowW) (X := (true == true))
    (show WShape.has [] (.bool true) .bool = true by first | rfl | decide | simp [WShape.has, WShape.arms, WShape.armsAll])
    (show (WTm.eq .res (.lit (.bool true))).value [] { args := args, res := some (.bool true), after := args } = some (.bool (true == true)) from w_eq_bool (w_res rfl) w_lit) rfl

/-! ### the attachment: holds_open's last premise (the goal 'hc' behind k_head) from a wpAny of the law's body -/
theorem attach {l : OpenLaw} {n : Nat} {q : Program} {loose : List Str} {XP : (Str → Option Value) → Heap → Prop} {YP : World → Heap → Prop} {d : DefRec} {x : Str}
    (hn : l.most = some n) (hdf : d.params.defaults = [])
    (hbind : ∀ pm cd doc v : Value, bindArgs (docDef d.name d.params d.body d.scope pm cd doc) ⟨[v], []⟩ = pure [(x, v)])
    (hx : d.scope.names.lookup x = some .local ∨ d.scope.names.lookup x = some .cell)
    (hk : d.scope.kind = .function) (hco : d.scope.isCoroutine = false) (hgen : d.scope.isGenerator = false)
    (body : ∀ (w : World) (s₀ s₁ s : Shared) (mg mb : Str → Option Value) (fa : Addr) (o : Obj) (pm cd doc : Value) (a : Addr) (vs : List Value) (ns : List Int),
      Ground q loose [] XP w s₀ mg mb s₁.heap → YP w s₁.heap →
      s₁.heap.get? fa = some o → o.data = .func (docDef d.name d.params d.body d.scope pm cd doc) → s₁.heap.CodeRec cd d.name → mg d.name = some (.ref fa) →
      s₁.heap.get? a = some { cls := .type "list", data := .seq vs.toArray } → IntsAre vs ns → ns.length ≤ n →
      s.gens = #[] → s.os = s₁.os →
      Fr s₁.heap s₁.heap.objs.size s.heap (bindL (envOfC d.name d.scope s₁.heap.objs.size fa cd).kindOf [(x, .ref a)] fun _ => none) →
      Cl s₁.heap.objs.size (cellsFrom (s₁.heap.objs.size + 1) d.scope.names []) s.heap (bindC (envOfC d.name d.scope s₁.heap.objs.size fa cd).kindOf [(x, .ref a)] fun _ => none) →
      wpAny (model l.prog w) (callerA.deeper (envOfC d.name d.scope s₁.heap.objs.size fa cd)) (execs d.body (envOfC d.name d.scope s₁.heap.objs.size fa cd))
        (fun f s' => f = .ret (.bool true) ∧ OldK s₁.heap s'.heap ∧ s'.os = s₁.os ∧ AllBare s'.gens) (fun _ _ => False) s) :
    WalkO q loose XP YP l.row.toRowW d [] (fun f vs => PySem.call f vs) := by
  intro w s₀ s₁ mg mb G Y fa o pm cd doc dV kV ho hd hcd hD hmg hg args vals as hpre hlay hrd hwl hlo
  obtain rfl : dV = .none := Dflts.none hD hdf
  obtain rfl : kV = .none := Dflts.noKw hD
  obtain ⟨a, vs, ns, rfl, rfl, hobj, hints, hlen⟩ := script_of hn hpre hwl
  refine enter_call ?_
  refine call_cells_ret (o := o) (by rw [depth_caller]; decide) ho (fd_plain hd) G.T.nolimit hcd (hbind pm cd doc (.ref a)) (fun y hy => ?_) (fun h₁ tk F X => ?_) hco hgen hk
  · obtain rfl : y = (x, Value.ref a) := List.mem_singleton.mp hy
    rcases hx with e | e
    · exact .inl e
    · exact .inr ⟨e, cellsFrom_some _ _ _ (.inl e)⟩
  · refine wpAny_mono (body w s₀ s₁ { s₁ with heap := h₁, toks := tk } mg mb fa o pm cd doc a vs ns G Y ho (fd_plain hd) hcd hmg hobj hints hlen hg rfl F X) (fun f s' hq => ?_) (fun _ _ hq => hq)
    obtain ⟨rfl, h2, h3, h4⟩ := hq
    exact ⟨.inl ⟨.bool true, .bool true, [], rfl, fun _ => rfl, .bool true, post_true l _, fun _ => ⟨List.Pairwise.nil, fun _ hm => (nomatch hm)⟩⟩, h2, h3, h4⟩

/-- the same from a codeAny of the CALL (for a layer whose function contracts speak of calls) -/
theorem attach_call {l : OpenLaw} {n : Nat} {q : Program} {loose : List Str} {XP : (Str → Option Value) → Heap → Prop} {YP : World → Heap → Prop} {d : DefRec}
    (hn : l.most = some n) (hdf : d.params.defaults = [])
    (call : ∀ (w : World) (s₀ s₁ : Shared) (mg mb : Str → Option Value) (fa : Addr) (o : Obj) (pm cd doc : Value) (a : Addr) (vs : List Value) (ns : List Int),
      Ground q loose [] XP w s₀ mg mb s₁.heap → YP w s₁.heap →
      s₁.heap.get? fa = some o → o.data = .func (docDef d.name d.params d.body d.scope pm cd doc) → s₁.heap.CodeRec cd d.name → mg d.name = some (.ref fa) →
      s₁.heap.get? a = some { cls := .type "list", data := .seq vs.toArray } → IntsAre vs ns → ns.length ≤ n → s₁.gens = #[] →
      codeAny (model l.prog w) callerA (.call (.ref fa) ⟨[.ref a], []⟩) (fun r s' => r = .ok (.ret (.bool true)) ∧ OldK s₁.heap s'.heap ∧ s'.os = s₁.os ∧ AllBare s'.gens) s₁) :
    WalkO q loose XP YP l.row.toRowW d [] (fun f vs => PySem.call f vs) := by
  intro w s₀ s₁ mg mb G Y fa o pm cd doc dV kV ho hd hcd hD hmg hg args vals as hpre hlay hrd hwl hlo
  obtain rfl : dV = .none := Dflts.none hD hdf
  obtain rfl : kV = .none := Dflts.noKw hD
  obtain ⟨a, vs, ns, rfl, rfl, hobj, hints, hlen⟩ := script_of hn hpre hwl
  refine enter_call (codeAny_mono (call w s₀ s₁ mg mb fa o pm cd doc a vs ns G Y ho (fd_plain hd) hcd hmg hobj hints hlen hg) fun r s' hq => ?_)
  obtain ⟨rfl, h2, h3, h4⟩ := hq
  exact ⟨.inl ⟨.bool true, .bool true, [], rfl, fun _ => rfl, .bool true, post_true l _, fun _ => ⟨List.Pairwise.nil, fun _ hm => (nomatch hm)⟩⟩, h2, h3, h4⟩

/-- the same where the top left finished generators (o_head chose holds_openN): nothing may have changed at all and no generator may be left -/
theorem attachN {l : OpenLaw} {n : Nat} {q : Program} {loose : List Str} {XP : (Str → Option Value) → Heap → Prop} {YP : World → Heap → Prop} {d : DefRec} {x : Str}
    (hn : l.most = some n) (hdf : d.params.defaults = [])
    (hbind : ∀ pm cd doc v : Value, bindArgs (docDef d.name d.params d.body d.scope pm cd doc) ⟨[v], []⟩ = pure [(x, v)])
    (hx : d.scope.names.lookup x = some .local ∨ d.scope.names.lookup x = some .cell)
    (hk : d.scope.kind = .function) (hco : d.scope.isCoroutine = false) (hgen : d.scope.isGenerator = false)
    (body : ∀ (w : World) (s₀ s₁ s : Shared) (mg mb : Str → Option Value) (fa : Addr) (o : Obj) (pm cd doc : Value) (a : Addr) (vs : List Value) (ns : List Int),
      Ground q loose [] XP w s₀ mg mb s₁.heap → YP w s₁.heap →
      s₁.heap.get? fa = some o → o.data = .func (docDef d.name d.params d.body d.scope pm cd doc) → s₁.heap.CodeRec cd d.name → mg d.name = some (.ref fa) →
      s₁.heap.get? a = some { cls := .type "list", data := .seq vs.toArray } → IntsAre vs ns → ns.length ≤ n →
      s.gens = #[] → s.os = s₁.os →
      Fr s₁.heap s₁.heap.objs.size s.heap (bindL (envOfC d.name d.scope s₁.heap.objs.size fa cd).kindOf [(x, .ref a)] fun _ => none) →
      Cl s₁.heap.objs.size (cellsFrom (s₁.heap.objs.size + 1) d.scope.names []) s.heap (bindC (envOfC d.name d.scope s₁.heap.objs.size fa cd).kindOf [(x, .ref a)] fun _ => none) →
      wpAny (model l.prog w) (callerA.deeper (envOfC d.name d.scope s₁.heap.objs.size fa cd)) (execs d.body (envOfC d.name d.scope s₁.heap.objs.size fa cd))
        (fun f s' => f = .ret (.bool true) ∧ (∀ b o, s₁.heap.get? b = some o → s'.heap.get? b = some o) ∧ s'.os = s₁.os ∧ s'.gens = #[]) (fun _ _ => False) s) :
    WalkN q loose XP YP l.row.toRowW d [] (fun f vs => PySem.call f vs) := by
  intro w s₀ s₁ mg mb G Y fa o pm cd doc dV kV ho hd hcd hD hmg hg args vals as hpre hlay hrd hwl hlo
  obtain rfl : dV = .none := Dflts.none hD hdf
  obtain rfl : kV = .none := Dflts.noKw hD
  obtain ⟨a, vs, ns, rfl, rfl, hobj, hints, hlen⟩ := script_of hn hpre hwl
  refine enter_callW ?_
  refine call_cells_ret (o := o) (by rw [depth_caller]; decide) ho (fd_plain hd) G.T.nolimit hcd (hbind pm cd doc (.ref a)) (fun y hy => ?_) (fun h₁ tk F X => ?_) hco hgen hk
  · obtain rfl : y = (x, Value.ref a) := List.mem_singleton.mp hy
    rcases hx with e | e
    · exact .inl e
    · exact .inr ⟨e, cellsFrom_some _ _ _ (.inl e)⟩
  · refine wpAny_mono (body w s₀ s₁ { s₁ with heap := h₁, toks := tk } mg mb fa o pm cd doc a vs ns G Y ho (fd_plain hd) hcd hmg hobj hints hlen hg rfl F X) (fun f s' hq => ?_) (fun _ _ hq => hq)
    obtain ⟨rfl, h2, h3, h4⟩ := hq
    exact ⟨.inl ⟨.bool true, .bool true, [], rfl, fun _ => rfl, .bool true, post_true l _, fun _ => ⟨List.Pairwise.nil, fun _ hm => (nomatch hm)⟩⟩, h2, h3, h4⟩

/-! ### rules over ANY heap (no ledger) from facts about the written part K: the library's own take a ledger (News) for what they write -/
section
variable {prog : Program} {w : World} {A : Around} {E : Value → Shared → Prop} {s : Shared} {K : Frag}

/-- a def of the module, or a method (qual 'C.m'), entered: the frame is the next address; cells behind it -/
theorem call_fn {R : Result → Shared → Prop} {name qual : Str} {params : Arguments} {body : List Stmt} {scope : Scope} {dV kV doc pm cdv ct oc : Value} {an od : Option Addr} {osl : Array (Option Value)} {f : Addr} {args : Args} {binds : List (Str × Value)}
    (X : K.In s.heap) (hlim : s.heap.NoLimit) (ho : K.lookup f = some ⟨oc, od, .func (fnOf name qual params body scope dV kV doc pm an cdv ct), osl⟩) (hcd : codeIn K cdv qual = true) (hroom : A.depth < recursionLimit)
    (hbind : BindsTo s (fnOf name qual params body scope dV kV doc pm an cdv ct) args binds)
    (hkind : (binds.all fun y => scope.names.lookup y.1 == some .local || scope.names.lookup y.1 == some .cell) = true)
    (h : ∀ s₁, InCallC s s.heap.objs.size (bindL (envOfC qual scope s.heap.objs.size f cdv).kindOf binds fun _ => none) (cellsFrom (s.heap.objs.size + 1) scope.names [])
        (bindC (envOfC qual scope s.heap.objs.size f cdv).kindOf binds fun _ => none) s₁ →
      wpAny (model prog w) (A.deeper (envOfC qual scope s.heap.objs.size f cdv)) (execs body (envOfC qual scope s.heap.objs.size f cdv))
        (fun fl s' => R (.ok (.ret (match fl with | .ret v => v | _ => .none))) s')
        (fun e s' => wpAny (model prog w) (A.deeper (envOfC qual scope s.heap.objs.size f cdv)) (leaving (envOfC qual scope s.heap.objs.size f cdv) e) (fun _ s'' => R (.error e) s'') (fun e' s'' => R (.error e') s'') s') s₁)
    (hco : scope.isCoroutine = false) (hgen : scope.isGenerator = false) (hk : scope.kind = .function) : codeAny (model prog w) A (.call (.ref f) args) R s := by
  refine codeAny_call_function hroom (X _ _ ho) rfl hco hgen rfl (codeRec_of X hcd) (hbind _ _ _ _ ?_)
  refine wpAny_newFunctionEnv_cells hk (kindsX hkind _) fun env he s₁ x => ?_
  subst he
  exact ⟨hlim.keeps x.toInCall.keep, codeAny_func (h s₁ x)⟩

/-- C(..): dict at size, instance at size + 1, then __init__ -/
theorem make_obj {R : Result → Shared → Prop} {C fI : Addr} {rest : List Value} {kw : List (Str × Value)}
    (X : K.In s.heap) (hm : makesIn K C = true) (hi : findIn K (.ref C) "__init__" = some (some (.ref fI))) (hf : isFn K (.ref fI) = true)
    (h : codeAny (model prog w) (A.under (.builtin "type.__call__" ⟨.ref C :: rest, kw⟩)) (.call (.ref fI) ⟨.ref (s.heap.objs.size + 1) :: rest, kw⟩) (InitBack (s.heap.objs.size + 1) R)
      { s with heap := (s.heap.push emptyDict).push (instObj C s.heap.objs.size) }) : codeAny (model prog w) A (.call (.ref C) ⟨rest, kw⟩) R s := by
  obtain ⟨hh, g, d, t, os⟩ := s
  exact make_core (makes_of X hm) (looks_findIn X hi) (fun self => bind_fn X self (beq_iff_eq.mp hf)) (.inl rfl) h

/-- x.name where the instance's dict holds the name and the class does not -/
theorem get_field {x C : Addr} {ox : Obj} {es : List DictEntry} {n : Nat} {name : Str} {expr : Bool} {v : Value} {Q : Value → Shared → Prop}
    (X : K.In s.heap) (I : PySem.W.InstAt s.heap x ox C (some (dictOf es n))) (hg : plainGet K C name = true) (hh : hasDictIn K C = true) (ha : findIn K (.ref C) name = some none)
    (hl : getL name es = some (some v)) (hv : handedIn v = true) (h : Q v { s with toks := s.toks + 1 }) : wpAny (model prog w) A (getAttr (.ref x) name expr) Q E s :=
  get_value X I (plainGet_of hg).1 (findObj_own hh ha rfl hl) hv h

/-- x.m(..): the method found in the class -/
theorem get_method {x C f : Addr} {ox : Obj} {es : List DictEntry} {n : Nat} {name : Str} {pl : Sem Bool} {Q : Value × List Value → Shared → Prop}
    (X : K.In s.heap) (I : PySem.W.InstAt s.heap x ox C (some (dictOf es n))) (hg : plainGet K C name = true) (hf : findIn K (.ref C) name = some (some (.ref f))) (ht : isFn K (.ref f) = true)
    (hl : getL name es = some none) (h : Q (.ref f, [.ref x]) s) : wpAny (model prog w) A (getMethod (.ref x) name pl) Q E s :=
  method_fn X I (plainGet_of hg).1 (plainGet_of hg).2 hf (beq_iff_eq.mp ht) (by show (lookIn name (dictOf es n)).map _ = _; rw [lookIn_dict, hl]; rfl) h

/-! the whole heap as the ledger: makes every rule that writes through a ledger a rule over any heap -/
def noObjs (h : Heap) : Heap := { h with objs := #[] }
theorem noObjs_get (h : Heap) (b : Addr) : (noObjs h).get? b = none := by
  cases e : (noObjs h).get? b with
  | none => rfl
  | some o => exact absurd (Heap.lt_size e) (Nat.not_lt_zero _)
def ledger (h : Heap) (L d : Addr) : List (Addr × Obj) := (List.range h.objs.size).filterMap fun a => if a = L ∨ a = d then none else (h.get? a).map fun o => (a, o)
theorem mem_ledger {h : Heap} {L d a : Addr} {o : Obj} : (a, o) ∈ ledger h L d ↔ a ≠ L ∧ a ≠ d ∧ h.get? a = some o := by
  unfold ledger
  rw [List.mem_filterMap]
  constructor
  · rintro ⟨b, _, e⟩
    split at e
    · cases e
    · rename_i hb
      obtain ⟨o', ho, e'⟩ := Option.map_eq_some_iff.mp e
      cases e'
      exact ⟨fun q => hb (.inl q), fun q => hb (.inr q), ho⟩
  · rintro ⟨n1, n2, ho⟩
    refine ⟨a, List.mem_range.mpr (Heap.lt_size ho), ?_⟩
    rw [if_neg (show ¬ (a = L ∨ a = d) from fun q => q.elim n1 n2), ho] <;> rfl
theorem news_ledger {h : Heap} {L d : Addr} {od : Obj} (hne : d ≠ L) (ho : h.get? d = some od) : News (noObjs h) L h ([] ++ (d, od) :: ledger h L d) := by
  rintro ⟨a, o⟩ hp
  rcases List.mem_cons.mp hp with e | hp
  · cases e
    exact ⟨ho, hne, noObjs_get _ _⟩
  · obtain ⟨n1, n2, e⟩ := mem_ledger.mp hp
    exact ⟨e, n1, noObjs_get _ _⟩
theorem fr_all {h : Heap} {L : Addr} {m : Str → Option Value} (n : h.Ns L m) : Fr (noObjs h) L h m :=
  ⟨n, fun b o e => (by rw [noObjs_get] at e; cases e), Nat.zero_le _⟩
/-- Upd of the head entry (for append_K, setItem_K ..) -/
theorem upd_ledger {h : Heap} {L d : Addr} {o o' : Obj} : Upd d o o' ((d, o) :: ledger h L d) ((d, o') :: ledger h L d) :=
  .head fun ⟨_, _⟩ hp => (mem_ledger.mp hp).2.1

/-- x.name = v over any heap: L is any namespace of the heap (the frame's, say): its map stays, its object is not told; all else but the dict stays -/
theorem set_field {x C dx L : Addr} {ox : Obj} {m : Str → Option Value} {es es' : List DictEntry} {n n' : Nat} {name : Str} {v : Value} {Q : Unit → Shared → Prop}
    (X : K.In s.heap) (I : PySem.W.InstAt s.heap x ox C (some (dictOf es n))) (hd : ox.dict = some dx) (hL : s.heap.Ns L m) (hne : dx ≠ L)
    (hs : findIn K (.ref C) "__setattr__" = some (some (.builtin "object.__setattr__"))) (hp : plainOver K C = true) (ht : takerIn K C name = some none) (hh : hasDictIn K C = true) (hl : (getL name es).isSome = true)
    (e : (putL name (PyData.keyHash w.params name) (.str name (s.toks + 1)) v es, putN name es n) = (es', n')) (hz : es'.length ≤ 1000)
    (h : ∀ h' : Heap, h'.Ns L m → h'.get? dx = some (dictOf es' n') → (∀ b o, b ≠ dx → b ≠ L → s.heap.get? b = some o → h'.get? b = some o) → Q () { s with heap := h', toks := s.toks + 2 }) :
    wpAny (model prog w) A (setAttr (.ref x) name v) Q E s := by
  obtain ⟨e1, e2⟩ := Prod.mk.inj e
  have hdx : s.heap.get? dx = some (dictOf es n) := by
    have := I.dict
    rw [hd] at this
    exact this
  refine set_plain X I hs (osa_dict (s := { s with toks := s.toks + 1 }) (h₀ := noObjs s.heap) (L := L) (m := m) (od := dictOf es n) (od' := dictOf es' n') (es := es') (n := n') (pre := []) (post := ledger s.heap L dx)
    (fr_all hL) (news_ledger hne hdx) X I hd hp ht hh hl (fun _ q => nomatch q) (fun ⟨_, _⟩ q => (mem_ledger.mp q).2.1) (by rw [putName_dict, e1, e2]) rfl hz fun h' F' N' => ?_)
  exact h h' F'.ns (N'.get (List.Mem.head _)) fun b o n1 n2 ho => N'.get (List.Mem.tail _ (mem_ledger.mpr ⟨n2, n1, ho⟩))
end
end Att

namespace L2
open PySem PySem.Spec PyProof.Rows

theorem vals_ints : ∀ {vs : List Value} {ns : List Int}, IntsAre vs ns → Vals (ns.map V.int) vs
  | _, _, .nil => .nil
  | _, _, .cons n t h => .cons ⟨t, rfl⟩ (vals_ints h)

/-- nothing is tracked but the script, known to the object (or it is an object of the module) -/
def Only (H : Hp) : Prop := ∀ b, H b = none ∨ ∃ o xs, H b = some (.frz o (.lst xs))

/-- THE HEAD: the law's promise, at the heap behind the top. F, the promise of the law's def, may use that base is part of the heap (so K.In base, base.Ns mainGlobals mg stand in Mod) -/
theorem law_call {P : Program} {w : World} {K : PySem.W.Frag} {mg mb : Str → Option Value} {CX : CXT} {k : Nat} {fa a : Addr} {fd : FuncData} {x : Str} {sp : Sp} {s₁ : Shared} {vs : List Value} {ns : List Int}
    (KX : K.In s₁.heap) (hns : s₁.heap.Ns mainGlobals mg) (hb : s₁.heap.Ns builtinsNs mb) (hbb : ∀ x : Str, x ≠ "__name__" → mb x = bootBuiltins x) (hlim : s₁.heap.NoLimit) (hbm : ∃ b o, mg "__builtins__" = some (.ref b) ∧ b ≠ builtinsNs ∧ s₁.heap.get? b = some o ∧ o.cls = .type "module" ∧ o.dict = some builtinsNs ∧ o.data = .plain) (hg : s₁.gens = #[])
    (ha : s₁.heap.get? a = some { cls := .type "list", data := .seq vs.toArray }) (hi : IntsAre vs ns) (hl : ns.length ≤ sizeLine) (hr : Room k callerA)
    (F : ∀ base : Heap, K.In base → base.Ns mainGlobals mg → FnOk P w K mg base CX k fa fd [x] sp) (hbind : ∀ (s : Shared) (u : Value), BindsTo s fd ⟨[u], []⟩ [(x, u)])
    (hsp : ∀ H : Hp, Only H → SqL K H a (ns.map V.int) → sp [.ref a] H (fun v _ => v = .bl true) fun _ _ _ => False)
    (hCX : ∀ H e s', CX [] H s₁ (fun _ _ _ => False) e s' → False) :
    codeAny (model P w) callerA (.call (.ref fa) ⟨[.ref a], []⟩) (fun r s' => r = .ok (.ret (.bool true)) ∧ OldK s₁.heap s'.heap ∧ s'.os = s₁.os ∧ AllBare s'.gens) s₁ := by
  have rv := vals_ints hi
  have lenV := hi.length
  -- from an abstract heap in which nothing but the script may be tracked
  have core : ∀ H : Hp, Only H → SqL K H a (ns.map V.int) → HOk P w H s₁.heap → (∀ b, H b ≠ none → b = a) → (H a ≠ none → K.lookup a = none) →
      codeAny (model P w) callerA (.call (.ref fa) ⟨[.ref a], []⟩) (fun r s' => r = .ok (.ret (.bool true)) ∧ OldK s₁.heap s'.heap ∧ s'.os = s₁.os ∧ AllBare s'.gens) s₁ := by
    intro H hO hS hok hA hK
    have base_of : ∀ {b : Addr} {o : Obj}, s₁.heap.get? b = some o → H b = none → (hidT s₁.heap H).get? b = some o := fun e n => hidT_get e n
    have noA : ∀ {b : Addr} {o : Obj} {es : Array DictEntry} {ep : Nat}, s₁.heap.get? b = some o → o.data = .dict es ep → H b = none := fun {b o es ep} e d => by
      cases q : H b with
      | none => rfl
      | some u =>
        have e' : b = a := hA b (by rw [q]; simp)
        subst e'
        rw [ha] at e; cases e
        have d' : Data.seq vs.toArray _ = Data.dict es ep := d
        cases d'
    have nsK : ∀ {b : Addr} {m : Str → Option Value}, s₁.heap.Ns b m → (hidT s₁.heap H).Ns b m := fun {b m} ⟨o, es, ep, e, d, r⟩ => ⟨o, es, ep, base_of e (noA e d), d, r⟩
    have hKb : K.In (hidT s₁.heap H) := fun b o e => base_of (KX b o e) (by
      cases q : H b with
      | none => rfl
      | some u =>
        have e' : b = a := hA b (by rw [q]; simp)
        subst e'
        rw [hK (by rw [q]; simp)] at e; cases e)
    have hM : Mod K mg (hidT s₁.heap H) := ⟨hKb, nsK hns, ⟨mb, nsK hb, hbb⟩, let ⟨mc, h1, h2⟩ := hlim; ⟨mc, nsK h1, h2⟩, let ⟨b, o, a1, a2, a3, a4⟩ := hbm; ⟨b, o, a1, a2, base_of a3 (by
      cases q : H b with
      | none => rfl
      | some u =>
        have e' : b = a := hA b (by rw [q]; simp)
        subst e'
        rw [ha] at a3; cases a3
        exact absurd a4.1 (by simp)), a4⟩⟩
    have e0 : Env0 P w K mg (hidT s₁.heap H) callerA [] s₁ H := ⟨rfl, hM, fun b o e => of_hidT e, Nat.le_of_eq (hidT_size _ _), trivial, fun b hb => absurd (show b ∈ ([] : List Addr) from hb) (by simp), hok, .of_eq hg⟩
    refine codeAny_mono ((F _ hKb (nsK hns)).run callerA [] s₁ H ⟨[.ref a], []⟩ [.ref a] [.ref a] _ _ hr e0 (hbind s₁ (.ref a)) (.cons rfl .nil) (hsp H hO hS)) fun r s' h => ?_
    cases r with
    | error e => exact (hCX H e s' h).elim
    | ok fl =>
      cases fl with
      | next => exact False.elim h
      | brk => exact False.elim h
      | cont => exact False.elim h
      | ret u =>
        obtain ⟨v, H', os, bare, un, hok', r', q⟩ := h
        have q' : v = .bl true := q
        subst q'
        obtain rfl : u = Value.bool true := r'
        refine ⟨rfl, OldK.of_keep fun b o e => ?_, os, bare⟩
        cases q : H b with
        | none => exact un.keep b o e q (by intro z; exact absurd (show b ∈ ([] : List Addr) from z) (by simp)) (by simp)
        | some u =>
          rcases hO b with z | ⟨ob, xs, z⟩
          · rw [q] at z; cases z
          · have z2 := un.fix b _ z trivial
            obtain ⟨e1, _⟩ := hok b _ z
            obtain ⟨e2, _⟩ := hok' b _ z2
            rw [e] at e1; cases e1
            exact e2
  cases hk : K.lookup a with
  | some o =>
    -- the script is one of the module's own objects
    have e := KX a o hk
    rw [ha] at e
    cases e
    refine core (fun _ => none) (fun _ => .inl rfl) (.inr ⟨_, vs.toArray, _, hk, rfl, rfl, rfl, by rw [List.size_toArray, lenV]; exact hl, by simpa using rv⟩) (fun b u z => by have z' : (none : Option HO) = some u := z; cases z') (fun b z => absurd rfl z) fun z => absurd rfl z
  | none =>
    refine core (fun b => if b = a then some (.frz { cls := .type "list", data := .seq vs.toArray } (.lst (ns.map V.int))) else none) (fun b => ?_) (.inl (.inr ⟨{ cls := .type "list", data := .seq vs.toArray }, if_pos rfl⟩)) (fun b u z => ?_) (fun b z => ?_) fun _ => hk
    · by_cases hb : b = a
      · exact .inr ⟨_, _, if_pos hb⟩
      · exact .inl (if_neg hb)
    · by_cases hb : b = a
      · have z' := (if_pos hb).symm.trans z
        cases z'
        subst hb
        exact ⟨ha, by rw [List.length_map]; exact hl, vs, _, rv, ha⟩
      · have z' := (if_neg hb).symm.trans z
        cases z'
    · by_cases hb : b = a
      · exact hb
      · exact absurd (if_neg hb) z
end L2

namespace L2
open PySem PySem.Spec PyProof.Rows

abbrev KOf {K : PySem.W.Frag} {h : Heap} (_ : K.In h) : PySem.W.Frag := K

/-- the goal that k_head leaves (case hc), from the law's promise. F gives the function object fd (K's own) once, then the promise over every base -/
theorem walk_of {l : PySem.W.OpenLaw} {n k : Nat} {q : Program} {loose : List Str} {XP : (Str → Option Value) → Heap → Prop} {YP : World → Heap → Prop} {d : DefRec} {K : Params → PySem.W.Frag} {CX : World → CXT} {sp : World → Sp} {x : Str}
    (hn : l.most = some n) (hn2 : n ≤ sizeLine) (hdf : d.params.defaults = []) (hr : Room k callerA)
    (hY : ∀ (w : World) (h : Heap), YP w h → (K w.params).In h)
    (F : ∀ (w : World) (mg : Str → Option Value) (fa : Addr) (h : Heap), (K w.params).In h → h.Ns mainGlobals mg → mg d.name = some (.ref fa) →
      ∃ fd : FuncData, (∀ (s : Shared) (u : Value), BindsTo s fd ⟨[u], []⟩ [(x, u)]) ∧
        ∀ base : Heap, (K w.params).In base → base.Ns mainGlobals mg → FnOk l.prog w (K w.params) mg base (CX w) k fa fd [x] (sp w))
    (hsp : ∀ (w : World) (H : Hp) (a : Addr) (ns : List Int), ns.length ≤ n → Only H → SqL (K w.params) H a (ns.map V.int) → sp w [.ref a] H (fun v _ => v = .bl true) fun _ _ _ => False)
    (hCX : ∀ (w : World) (H : Hp) (s : Shared) (e : Value) (s' : Shared), CX w [] H s (fun _ _ _ => False) e s' → False) :
    PySem.W.WalkO q loose XP YP l.row.toRowW d [] (fun f vs => PySem.call f vs) := by
  refine Att.attach_call hn hdf fun w s₀ s₁ mg mb fa o pm cd doc a vs ns G Y ho hd hcd hmg hobj hints hlen hg => ?_
  have KX := hY w _ Y
  obtain ⟨fd, hb, hF⟩ := F w mg fa _ KX G.T.g hmg
  exact law_call KX G.T.g G.T.b G.T.builtins G.T.nolimit G.T.bmain hg hobj hints (Nat.le_trans hlen hn2) hr hF hb (fun H hO hS => hsp w H a ns hlen hO hS) fun H e s' => hCX w H s₁ e s'
/-- the same where the promise hangs on the written part alone: (sp := My.sp_law), no hole under a binder -/
theorem walk_ofK {l : PySem.W.OpenLaw} {n k : Nat} {q : Program} {loose : List Str} {XP : (Str → Option Value) → Heap → Prop} {YP : World → Heap → Prop} {d : DefRec} {K : Params → PySem.W.Frag} {CX : CXT} {sp : PySem.W.Frag → Sp} {x : Str}
    (hn : l.most = some n) (hn2 : n ≤ sizeLine) (hdf : d.params.defaults = []) (hr : Room k callerA)
    (hY : ∀ (w : World) (h : Heap), YP w h → (K w.params).In h)
    (F : ∀ (w : World) (mg : Str → Option Value) (fa : Addr) (h : Heap), (K w.params).In h → h.Ns mainGlobals mg → mg d.name = some (.ref fa) →
      ∃ fd : FuncData, (∀ (s : Shared) (u : Value), BindsTo s fd ⟨[u], []⟩ [(x, u)]) ∧
        ∀ base : Heap, (K w.params).In base → base.Ns mainGlobals mg → FnOk l.prog w (K w.params) mg base CX k fa fd [x] (sp (K w.params)))
    (hsp : ∀ (K : PySem.W.Frag) (H : Hp) (a : Addr) (ns : List Int), ns.length ≤ n → Only H → SqL K H a (ns.map V.int) → sp K [.ref a] H (fun v _ => v = .bl true) fun _ _ _ => False)
    (hCX : ∀ (H : Hp) (s : Shared) (e : Value) (s' : Shared), CX [] H s (fun _ _ _ => False) e s' → False) :
    PySem.W.WalkO q loose XP YP l.row.toRowW d [] (fun f vs => PySem.call f vs) :=
  walk_of (K := K) (CX := fun _ => CX) (sp := fun w => sp (K w.params)) hn hn2 hdf hr hY F (fun w H a ns h1 h2 h3 => hsp (K w.params) H a ns h1 h2 h3) fun _ H s e s' => hCX H s e s'
end L2

/- THE LAST THEOREM (shape; LID, My.* are yours):
   My.Adr: a structure of the addresses that your layer names (classes, functions); My.Txt K t: a structure (Prop) of the equations over K;
   My.txt_mk : {K} {implicit addresses ..} (e1 : nsIn K mainGlobals "law" = some (some (.ref f))) (e2 : K.lookup f = some ⟨oc, od, .func (fnOf "law" "law" params body scope dV kV doc pm an cdv ct), sl⟩) (e3 : codeIn K cdv "law" = true) .. : ∃ t, My.Txt K t

set_option maxRecDepth 100000 in
set_option maxHeartbeats 0 in
theorem PySem.Challenge.cw_LID_holds : PySem.Challenge.rw_LID.Holds := by
  w_on; o_law; k_head; (case hw => w_witness2)
  k_fill
  refine L2.walk_of (l := PySem.Challenge.rw_LID) (n := 63) (k := 40) (x := "script") (CX := fun w => ..) (sp := fun _ => My.sp_law) rfl (by decide) rfl ⟨rfl, by decide, by decide⟩ (fun w h Y => PySem.W.kIn_of Y) ?F ?S ?C
  case F =>
    intro w mg fa h KX G hmg
    have T : ∃ t, My.Txt (L2.KOf KX) t := by
      dsimp only [L2.KOf]                          -- K must stand as «<heap const> w.params» for k_is
      refine' My.txt_mk ?e1 ?e2 ?e3 ..
      (case e1 => PySem.W.k_is)                    -- in the order: a name -> its address -> its object -> its parts
      (case e2 => PySem.W.k_is)
      ..
    obtain ⟨t, T⟩ := T
    have e0 := hmg.symm.trans (PySem.W.mg_of KX G T.law)
    cases e0                                       -- fa is the law's own address
    exact ⟨_, fun s u => .of_eq rfl, fun base kb nb => My.law_fn T kb nb⟩     -- if «.of_eq rfl» comes too early: refine' ⟨_, ?b, fun base kb nb => My.law_fn T kb nb⟩; exact fun s u => .of_eq rfl
  case S => exact fun w H a ns hl hO hS => ..
  case C => exact ..
(the tactic k_is has no namespace: write k_is) -/

/-! SHORT WORDS over the layer: a def of the text, its body, what a loop and a test want. -/
namespace L2
open PySem PySem.Spec PyProof.Rows

/-! ### the text by places -/
/-- the j-th statement of a class's body -/
def inClass (s : Stmt) (j : Nat) : Stmt := match s with
  | .ClassDef _ _ _ body _ _ _ _ _ _ _ => body.getD j (.Pass ⟨0, 0, 0, 0⟩)
  | _ => .Pass ⟨0, 0, 0, 0⟩
def defArgs (s : Stmt) : Arguments := match s with
  | .FunctionDef _ a _ _ _ _ _ _ _ _ => a
  | _ => { posonlyargs := [], args := [], vararg := none, kwonlyargs := [], kw_defaults := [], kwarg := none, defaults := [] }
def defBody (s : Stmt) : List Stmt := match s with
  | .FunctionDef _ _ b _ _ _ _ _ _ _ => b
  | _ => []
def defScope (s : Stmt) : Scope := match s with
  | .FunctionDef _ _ _ _ _ _ sc _ _ _ => sc
  | _ => { kind := .function, names := [], isGenerator := false, isCoroutine := false }

/-! ### no exception leaves a def -/
abbrev CX0 : CXT := fun _ _ _ _ _ _ => False
abbrev E0 : XK := fun _ _ _ => False
theorem pass0 {X : Cx} : Passes CX0 X E0 := fun _ _ _ _ _ _ _ h => h.elim

/-! ### a def (or method) of the text as it stands behind the top -/
structure Fun (K : PySem.W.Frag) (x qual : Str) (st : Stmt) (f : Addr) (fd : FuncData) : Prop where
  ex : ∃ (oc : Value) (od : Option Addr) (kV doc pm : Value) (an : Option Addr) (cdv ct : Value) (osl : Array (Option Value)),
    fd = PySem.W.fnOf x qual (defArgs st) (defBody st) (defScope st) .none kV doc pm an cdv ct ∧ K.lookup f = some ⟨oc, od, .func fd, osl⟩ ∧ PySem.W.codeIn K cdv qual = true
  kp : PySem.W.keepIn K (.ref f) = true
section
variable {P : Program} {w : World} {K : PySem.W.Frag} {mg : Str → Option Value} {base : Heap}
/-- THE RULE for a def: its body as a term of rules, and the reading of that term -/
theorem Fun.ok {x qual : Str} {st : Stmt} {f : Addr} {fd : FuncData} {N ps : List Str} {k : Nat} {sp : Sp} (F : Fun K x qual st f fd) (S : FnScope N ps (defScope st)) (len : ∀ vs H Q E, sp vs H Q E → vs.length = ps.length)
    (hbody : ∀ (cdv : Value) (A : Around) (outer : List Env) (s : Shared) (H : Hp) (vs : List V) (Q : VK) (E : XK), Room k (A.deeper (envOfC qual (defScope st) s.heap.objs.size f cdv)) → sp vs H Q E →
      ∃ t, PSs (cxOf CX0 P w K mg base N qual (defScope st) f cdv A outer s H E).nox (defBody st) t ∧ t { nx := fun _ H' => Q .non H', rt := Q } (start N vs) H) : FnOk P w K mg base CX0 (k + 1) f fd ps sp := by
  obtain ⟨oc, od, kV, doc, pm, an, cdv, ct, osl, rfl, lk, hcd⟩ := F.ex
  refine fn_of lk hcd S len fun A outer s H vs Q E hr hsp => ?_
  obtain ⟨t, h, q⟩ := hbody cdv A outer s H vs Q E hr hsp
  exact ⟨t, h.nox, q⟩
/-- how its arguments bind (no defaults): h is «fun _ _ _ _ _ _ us hl => match us, hl with | [_, _], _ => rfl», one _ a parameter -/
theorem Fun.binds {x qual : Str} {st : Stmt} {f : Addr} {fd : FuncData} {ps : List Str} (F : Fun K x qual st f fd)
    (h : ∀ (kV doc pm : Value) (an : Option Addr) (cdv ct : Value) (us : List Value), us.length = ps.length → bindArgs (PySem.W.fnOf x qual (defArgs st) (defBody st) (defScope st) .none kV doc pm an cdv ct) ⟨us, []⟩ = pure (ps.zip us)) : Binds K fd ps [] := by
  obtain ⟨oc, od, kV, doc, pm, an, cdv, ct, osl, rfl, lk, hcd⟩ := F.ex
  exact .all (h kV doc pm an cdv ct)
theorem fun_mk {x qual : Str} {st : Stmt} {f : Addr} {oc : Value} {od an : Option Addr} {osl : Array (Option Value)} {kV doc pm cdv ct : Value} (l : K.lookup f = some ⟨oc, od, .func (PySem.W.fnOf x qual (defArgs st) (defBody st) (defScope st) .none kV doc pm an cdv ct), osl⟩)
    (c : PySem.W.codeIn K cdv qual = true) (k : PySem.W.keepIn K (.ref f) = true) : Fun K x qual st f (PySem.W.fnOf x qual (defArgs st) (defBody st) (defScope st) .none kV doc pm an cdv ct) := ⟨⟨oc, od, kV, doc, pm, an, cdv, ct, osl, rfl, l, c⟩, k⟩
end
theorem hu_of {A : Around} {k : Nat} (hr : Room k A) : A.units + 1 < cLine := Nat.lt_of_le_of_lt (Nat.add_le_add_left (by decide : 1 ≤ 64) _) hr.units
theorem small1000 {n : Nat} (h : n ≤ 1000) : n < sizeLine := Nat.lt_of_le_of_lt h (by decide)

/-! ### expressions in short: the name that stands in the i-th slot -/
section
variable {X : Cx}
theorem pv (i : Nat) {x : Str} {pos : Pos} (hN : X.N[i]? = some x := by rfl) (hv : Vis X.env.scope x := by first | exact Or.inl rfl | exact Or.inr (Or.inl rfl) | exact Or.inr (Or.inr rfl)) (hd : (x == ("__debug__" : Str)) = false := by decide)
    (hcd : (x == ("__classdict__" : Str)) = false := by decide) : PE X (.Name x pos) (tVar i) := pe_var hN hv hd hcd
end

/-! ### tests -/
theorem iteF {A B : Prop} (h : B) : if false = true then A else B := by
  rw [if_neg Bool.false_ne_true]
  exact h
theorem iteT {A B : Prop} (h : A) : if true = true then A else B := by
  rw [if_pos rfl]
  exact h
theorem ite2 {c A B : Prop} [Decidable c] (h1 : c → A) (h2 : ¬ c → B) : if c then A else B := by
  by_cases h : c
  · rw [if_pos h]
    exact h1 h
  · rw [if_neg h]
    exact h2 h
theorem iteNS {c A B : Prop} [Decidable c] (hc : c) (h : B) : if (!decide c) = true then A else B := by
  rw [decide_eq_true hc]
  exact iteF h

/-! ### heaps -/
/-- all that was tracked is as it was -/
def Same (H H' : Hp) : Prop := ∀ b o, H b = some o → H' b = some o
theorem Same.refl (H : Hp) : Same H H := fun _ _ h => h
theorem Same.trans {H H1 H2 : Hp} (a : Same H H1) (b : Same H1 H2) : Same H H2 := fun c o h => b c o (a c o h)
theorem Same.free {H H' : Hp} (e : Same H H') {l : Addr} (h : H' l = Option.none) : H l = Option.none := by
  cases q : H l with
  | none => rfl
  | some o =>
    rw [e l o q] at h
    cases h
theorem Same.seq {K : PySem.W.Frag} {H H' : Hp} {a : Addr} {xs : List V} (e : Same H H') (h : SqL K H a xs) : SqL K H' a xs := by
  rcases h with (h | ⟨o, h⟩) | h
  · exact .inl (.inl (e _ _ h))
  · exact .inl (.inr ⟨o, e _ _ h⟩)
  · exact .inr h

section
variable {X : Cx}
/-- len of a dict -/
theorem call_lenD : CallR X (.builtin "len") (fun xs H Q => ∃ a kvs, xs = [V.ref a] ∧ H a = some (.dK kvs) ∧ Q (.int kvs.length) H) := by
  intro pins s σ H xs us Q I r h
  obtain ⟨a, kvs, rfl, ha, q⟩ := h
  obtain ⟨u, rfl, ru⟩ := vals1 r
  cases ru
  exact d_len I (.inl ha) fun t s' I' => ⟨.int kvs.length, H, I', ⟨t, rfl⟩, q⟩
end

/-! ### a dict's pairs: keys that differ -/
section
variable {κ : Type} [DecidableEq κ]
theorem valV_not {kvs : List (κ × V)} {k : κ} (h : valV kvs k = none) : ¬ k ∈ kvs.map (·.1) := by
  intro m
  obtain ⟨p, hp, e⟩ := List.mem_map.mp m
  have q : (kvs.any fun kv => decide (kv.1 = k)) = true := List.any_eq_true.mpr ⟨p, hp, decide_eq_true e⟩
  rw [valV_any, h] at q
  exact absurd q (by simp)
theorem valV_in {kvs : List (κ × V)} {k : κ} {v : V} (h : valV kvs k = some v) : k ∈ kvs.map (·.1) := by
  have q : (kvs.any fun kv => decide (kv.1 = k)) = true := by
    rw [valV_any, h]
    all_goals rfl
  obtain ⟨p, hp, e⟩ := List.any_eq_true.mp q
  exact List.mem_map.mpr ⟨p, hp, of_decide_eq_true e⟩
theorem nd_snoc : ∀ {l : List κ} {k : κ}, l.Nodup → ¬ k ∈ l → (l ++ [k]).Nodup
  | [], k, _, _ => by simp
  | a :: r, k, h, hk => by
    obtain ⟨h1, h2⟩ := List.nodup_cons.mp h
    show (a :: (r ++ [k])).Nodup
    refine List.nodup_cons.mpr ⟨fun m => ?_, nd_snoc h2 fun m => hk (List.mem_cons.mpr (Or.inr m))⟩
    rcases List.mem_append.mp m with q | q
    · exact h1 q
    · exact hk (List.mem_cons.mpr (Or.inl (List.mem_singleton.mp q).symm))
theorem nd_putK {kvs : List (κ × V)} {k : κ} (v : V) (hn : (kvs.map (·.1)).Nodup) (h : valV kvs k = none) : ((putK kvs k v).map (·.1)).Nodup := by
  rw [putK_new v h, List.map_append]
  exact nd_snoc hn (valV_not h)
theorem dropK_pos {p : κ × V} {r : List (κ × V)} {k : κ} (e : p.1 = k) : dropK (p :: r) k = dropK r k := by
  unfold dropK
  rw [List.filter_cons, if_neg (by simp [e])]
theorem dropK_neg {p : κ × V} {r : List (κ × V)} {k : κ} (e : ¬ p.1 = k) : dropK (p :: r) k = p :: dropK r k := by
  unfold dropK
  rw [List.filter_cons, if_pos (by simp [e])]
theorem dropK_no : ∀ {kvs : List (κ × V)} {k : κ}, ¬ k ∈ kvs.map (·.1) → dropK kvs k = kvs
  | [], _, _ => rfl
  | p :: r, k, h => by
    have h' : ¬ k ∈ r.map (·.1) := fun m => by
      obtain ⟨q, hq, e⟩ := List.mem_map.mp m
      exact h (List.mem_map.mpr ⟨q, List.mem_cons.mpr (Or.inr hq), e⟩)
    rw [dropK_neg fun e => h (List.mem_map.mpr ⟨p, List.mem_cons.mpr (Or.inl rfl), e⟩), dropK_no h']
theorem dropK_mem {kvs : List (κ × V)} {k : κ} {p : κ × V} (h : p ∈ dropK kvs k) : p ∈ kvs := (List.mem_filter.mp h).1
theorem nd_dropK : ∀ {kvs : List (κ × V)} {k : κ}, (kvs.map (·.1)).Nodup → ((dropK kvs k).map (·.1)).Nodup
  | [], _, _ => List.nodup_nil
  | p :: r, k, h => by
    have h : (p.1 :: r.map (·.1)).Nodup := h
    obtain ⟨h1, h2⟩ := List.nodup_cons.mp h
    by_cases e : p.1 = k
    · rw [dropK_pos e]
      exact nd_dropK h2
    · rw [dropK_neg e]
      show (p.1 :: (dropK r k).map (·.1)).Nodup
      refine List.nodup_cons.mpr ⟨fun m => h1 ?_, nd_dropK h2⟩
      obtain ⟨q, hq, eq⟩ := List.mem_map.mp m
      exact List.mem_map.mpr ⟨q, dropK_mem hq, eq⟩
theorem dropK_len : ∀ {kvs : List (κ × V)} {k : κ}, (kvs.map (·.1)).Nodup → k ∈ kvs.map (·.1) → (dropK kvs k).length + 1 = kvs.length
  | [], _, _, m => by simp at m
  | p :: r, k, h, m => by
    have h : (p.1 :: r.map (·.1)).Nodup := h
    have m : k = p.1 ∨ k ∈ r.map (·.1) := List.mem_cons.mp m
    obtain ⟨h1, h2⟩ := List.nodup_cons.mp h
    by_cases e : p.1 = k
    · subst e
      rw [dropK_pos rfl, dropK_no h1]
      all_goals rfl
    · have m' : k ∈ r.map (·.1) := m.resolve_left fun z => e z.symm
      have q := dropK_len h2 m'
      rw [dropK_neg e, List.length_cons, List.length_cons]
      omega
end
end L2


set_option maxHeartbeats 4000000
/-! ROWS OF OUR OWN over the hand layer: readings that compute. -/
namespace L2
open PySem PySem.Spec PyProof.Rows
section
variable {X : Cx}
theorem PE.imp {e : Expr} {t t' : TE} (h : PE X e t) (i : ∀ σ H Q, t' σ H Q → t σ H Q) : PE X e t' :=
  fun pins s σ H Q I q => h pins s σ H Q I (i σ H Q q)
theorem PT.imp {e : Expr} {t t' : TT} (h : PT X e t) (i : ∀ σ H Q, t' σ H Q → t σ H Q) : PT X e t' :=
  fun pins s σ H Q I q => h pins s σ H Q I (i σ H Q q)
theorem PW.imp {e : Expr} {t t' : TT} (h : PW X e t) (i : ∀ σ H Q, t' σ H Q → t σ H Q) : PW X e t' :=
  fun wh pins s σ H Q I q => h wh pins s σ H Q I (i σ H Q q)
theorem PS.imp {e : Stmt} {t t' : TS} (h : PS X e t) (i : ∀ D σ H, t' D σ H → t D σ H) : PS X e t' :=
  fun pins s σ H D I q => h pins s σ H D I (i D σ H q)
theorem PSs.imp {e : List Stmt} {t t' : TS} (h : PSs X e t) (i : ∀ D σ H, t' D σ H → t D σ H) : PSs X e t' :=
  fun pins s σ H D I q => h pins s σ H D I (i D σ H q)
theorem OpR.imp {f : Value → Value → Sem Value} {r r' : R2} (h : OpR X f r) (i : ∀ x y H Q, r' x y H Q → r x y H Q) : OpR X f r' :=
  fun pins s σ H x y v u Q I rx ry q => h pins s σ H x y v u Q I rx ry (i x y H Q q)
theorem UnR.imp {f : Value → Sem Value} {r r' : V → Hp → VK → Prop} (h : UnR X f r) (i : ∀ x H Q, r' x H Q → r x H Q) : UnR X f r' :=
  fun pins s σ H x v Q I rx q => h pins s σ H x v Q I rx (i x H Q q)
theorem CallR.imp {f : Value} {r r' : List V → Hp → VK → Prop} (h : CallR X f r) (i : ∀ xs H Q, r' xs H Q → r xs H Q) : CallR X f r' :=
  fun pins s σ H xs us Q I rv q => h pins s σ H xs us Q I rv (i xs H Q q)
/-- one of two readings of the same expression -/
theorem pe_alt {e : Expr} {t u : TE} (h : PE X e t) (k : PE X e u) : PE X e (fun σ H Q => t σ H Q ∨ u σ H Q) :=
  fun pins s σ H Q I q => q.elim (fun z => h pins s σ H Q I z) (fun z => k pins s σ H Q I z)

/-! names -/
def cVar (i : Nat) : TE := fun σ H Q => match σ[i]? with
  | some (some v) => Q v H
  | _ => False
theorem cVar_imp {i : Nat} {σ : St} {H : Hp} {Q : VK} (q : cVar i σ H Q) : tVar i σ H Q := by
  unfold cVar at q
  split at q
  · rename_i v e; exact ⟨v, e, q⟩
  · exact q.elim
theorem cv (i : Nat) {x : Str} {pos : Pos} (hN : X.N[i]? = some x := by rfl) (hv : Vis X.env.scope x := by first | exact Or.inl rfl | exact Or.inr (Or.inl rfl) | exact Or.inr (Or.inr rfl)) (hd : (x == ("__debug__" : Str)) = false := by decide)
    (hcd : (x == ("__classdict__" : Str)) = false := by decide) : PE X (.Name x pos) (cVar i) := (pe_var hN hv hd hcd).imp fun _ _ _ q => cVar_imp q

/-! ints -/
def kI (C : Int → Int → Prop) (g : Int → Int → V) : R2 := fun x y H Q => match x with
  | .int i => (match y with
    | .int j => C i j ∧ Q (g i j) H
    | _ => False)
  | _ => False
def kI0 (g : Int → Int → V) : R2 := fun x y H Q => match x with
  | .int i => (match y with
    | .int j => Q (g i j) H
    | _ => False)
  | _ => False
theorem kI_imp {C : Int → Int → Prop} {g : Int → Int → V} {x y : V} {H : Hp} {Q : VK} (q : kI C g x y H Q) : rI C g x y H Q := by
  cases x with
  | int i =>
    cases y with
    | int j => exact ⟨i, j, rfl, rfl, q.1, q.2⟩
    | _ => exact False.elim q
  | _ => exact False.elim q
theorem kI0_imp {g : Int → Int → V} {x y : V} {H : Hp} {Q : VK} (q : kI0 g x y H Q) : rI0 g x y H Q := by
  cases x with
  | int i =>
    cases y with
    | int j => exact ⟨i, j, rfl, rfl, q⟩
    | _ => exact False.elim q
  | _ => exact False.elim q
theorem o_add : OpR X (binaryOp .Add) (kI0 fun i j => .int (i + j)) := op_add.imp fun _ _ _ _ => kI0_imp
theorem o_sub : OpR X (binaryOp .Sub) (kI0 fun i j => .int (i - j)) := op_sub.imp fun _ _ _ _ => kI0_imp
theorem o_mul : OpR X (binaryOp .Mult) (kI CMul fun i j => .int (i * j)) := op_mul.imp fun _ _ _ _ => kI_imp
def CDivB (_i j : Int) : Prop := 0 < j ∧ j.natAbs.log2 < 9000
theorem o_fdiv : OpR X (binaryOp .FloorDiv) (kI CDivB fun i j => .int (i / j)) :=
  (opI (C := CDivB) (g := fun i j => i / j) fun i j _ _ _ _ _ hc q => by
    have h0 : 0 < j := hc.1
    rw [← Int.fdiv_eq_ediv_of_nonneg i (Int.le_of_lt h0)] at q
    exact floordiv_int (Int.ne_of_gt h0) q (.inl (PyProof.noPylong_of_log2 hc.2))).imp fun _ _ _ _ => kI_imp
theorem o_mod : OpR X (binaryOp .Mod) (kI (fun _ j => 0 < j) fun i j => .int (i % j)) := op_mod.imp fun _ _ _ _ => kI_imp
theorem o_pow : OpR X (binaryOp .Pow) (kI CPow fun i j => .int (i ^ j.toNat)) := op_pow.imp fun _ _ _ _ => kI_imp
theorem o_lt : OpR X (compareOp .Lt) (kI0 fun i j => .bl (decide (i < j))) := op_lt.imp fun _ _ _ _ => kI0_imp
theorem o_le : OpR X (compareOp .LtE) (kI0 fun i j => .bl (decide (i ≤ j))) := op_le.imp fun _ _ _ _ => kI0_imp
theorem o_gt : OpR X (compareOp .Gt) (kI0 fun i j => .bl (decide (j < i))) := op_gt.imp fun _ _ _ _ => kI0_imp
theorem o_ge : OpR X (compareOp .GtE) (kI0 fun i j => .bl (decide (j ≤ i))) := op_ge.imp fun _ _ _ _ => kI0_imp
theorem dec_V {a b : V} {p : Prop} [Decidable p] (h : a = b ↔ p) : decide (a = b) = decide p := by
  by_cases e : p
  · rw [decide_eq_true e, decide_eq_true (h.mpr e)]
  · rw [decide_eq_false e, decide_eq_false (fun q => e (h.mp q))]
theorem o_eqI : OpR X (compareOp .Eq) (kI0 fun i j => .bl (decide (i = j))) := op_eq.imp fun x y H Q q => by
  obtain ⟨i, j, rfl, rfl, q⟩ := kI0_imp q
  exact ⟨rfl, by rw [dec_V (p := i = j) ⟨fun e => V.int.inj e, fun e => by rw [e]⟩]; exact q⟩
theorem o_neI : OpR X (compareOp .NotEq) (kI0 fun i j => .bl (!decide (i = j))) := op_ne.imp fun x y H Q q => by
  obtain ⟨i, j, rfl, rfl, q⟩ := kI0_imp q
  exact ⟨rfl, by rw [dec_V (p := i = j) ⟨fun e => V.int.inj e, fun e => by rw [e]⟩]; exact q⟩
/-- == of two texts -/
def kS0 (g : Str → Str → V) : R2 := fun x y H Q => match x with
  | .str i => (match y with
    | .str j => Q (g i j) H
    | _ => False)
  | _ => False
theorem kS0_imp {g : Str → Str → V} {x y : V} {H : Hp} {Q : VK} (q : kS0 g x y H Q) : ∃ i j, x = .str i ∧ y = .str j ∧ Q (g i j) H := by
  cases x with
  | str i =>
    cases y with
    | str j => exact ⟨i, j, rfl, rfl, q⟩
    | _ => exact False.elim q
  | _ => exact False.elim q
theorem o_eqS : OpR X (compareOp .Eq) (kS0 fun i j => .bl (decide (i = j))) := op_eq.imp fun x y H Q q => by
  obtain ⟨i, j, rfl, rfl, q⟩ := kS0_imp q
  exact ⟨rfl, by rw [dec_V (p := i = j) ⟨fun e => V.str.inj e, fun e => by rw [e]⟩]; exact q⟩
theorem o_neS : OpR X (compareOp .NotEq) (kS0 fun i j => .bl (!decide (i = j))) := op_ne.imp fun x y H Q q => by
  obtain ⟨i, j, rfl, rfl, q⟩ := kS0_imp q
  exact ⟨rfl, by rw [dec_V (p := i = j) ⟨fun e => V.str.inj e, fun e => by rw [e]⟩]; exact q⟩
def kU (g : Int → V) : V → Hp → VK → Prop := fun x H Q => match x with
  | .int i => Q (g i) H
  | _ => False
theorem o_neg : UnR X (unaryOp .USub) (kU fun i => .int (-i)) := un_neg.imp fun x H Q q => by
  cases x with
  | int i => exact ⟨i, rfl, q⟩
  | _ => exact False.elim q

/-! tests, branches: two functions, one a way -/
def boolK (Q : Bool → Hp → Prop) : VK := fun x H1 => match x with
  | .bl k => Q k H1
  | _ => False
theorem boolK_of {Q : Bool → Hp → Prop} {x : V} {H1 : Hp} (q : boolK Q x H1) : ∃ k, x = .bl k ∧ Q k H1 := by
  cases x with
  | bl k => exact ⟨k, rfl, q⟩
  | _ => exact False.elim q
def cB (t : TE) : TT := fun σ H Q => t σ H (boolK Q)
variable {a b c : Expr} {ta tb tc : TE} {tA tB' : TT} {pos : Pos} {rest : List Expr}
theorem ct_cmp {op : CmpOp} {r : R2} (ho : OpR X (compareOp op) r) (ha : PE X a ta) (hb : PE X b tb) (hm : behindInMarks op b = false := by exact nomark _) : PT X (.Compare a [op] [b] pos) (cB (tOp r ta tb)) := by
  intro pins s σ H Q I h
  refine wpAny_isTrue_Compare1 (thn (ha pins s σ H _ I h) fun v s1 ⟨x, H1, I1, r1, q1⟩ => thn (hb pins s1 σ H1 _ I1 q1) fun u s2 ⟨y, H2, I2, r2, q2⟩ =>
    thn (ho pins s2 σ H2 x y v u _ I2 r1 r2 q2) fun c s3 ⟨z, H3, I3, r3, q3⟩ => ?_) hm
  obtain ⟨k, rfl, q⟩ := boolK_of q3
  cases r3
  exact wpAny_truthy_bool ⟨H3, I3, q⟩
theorem ce_cmp {op : CmpOp} {r : R2} (ho : OpR X (compareOp op) r) (ha : PE X a ta) (hb : PE X b tb) (hm : behindInMarks op b = false := by exact nomark _) : PE X (.Compare a [op] [b] pos) (tOp r ta tb) := pe_cmpR ho ha hb hm
theorem ct_val {e : Expr} {t : TE} (h : PE X e t) (he : ∀ whole, isTrue e X.env whole = (do let v ← whole; standAt e.pos; holding [v] (truthy v)) := by intro _; rfl) : PT X e (cB t) := by
  intro pins s σ H Q I hw
  refine isTrue_plain (thn (h pins s σ H _ I hw) fun v s1 ⟨x, H1, I1, r1, q1⟩ => ?_) (he _)
  obtain ⟨d, rfl, q⟩ := boolK_of q1
  cases r1
  exact wpAny_truthy_bool ⟨H1, I1, q⟩
def cAnd (t u : TT) : TT := fun σ H Q => t σ H fun c H1 => (c = true → u σ H1 Q) ∧ (c = false → Q false H1)
def cOr (t u : TT) : TT := fun σ H Q => t σ H fun c H1 => (c = true → Q true H1) ∧ (c = false → u σ H1 Q)
theorem cw_and (ha : PT X a tA) (hb : PW X (.BoolOp .And (b :: rest) pos) tB') : PW X (.BoolOp .And (a :: b :: rest) pos) (cAnd tA tB') := by
  intro wh pins s σ H Q I h
  refine isTrue_and (thn (ha pins s σ H _ I h) fun c s1 ⟨H1, I1, q1⟩ => ?_)
  cases c with
  | true => exact hb wh pins s1 σ H1 Q I1 (q1.1 rfl)
  | false => exact ⟨H1, I1, q1.2 rfl⟩
theorem cw_or (ha : PT X a tA) (hb : PW X (.BoolOp .Or (b :: rest) pos) tB') : PW X (.BoolOp .Or (a :: b :: rest) pos) (cOr tA tB') := by
  intro wh pins s σ H Q I h
  refine isTrue_or (thn (ha pins s σ H _ I h) fun c s1 ⟨H1, I1, q1⟩ => ?_)
  cases c with
  | true => exact ⟨H1, I1, q1.1 rfl⟩
  | false => exact hb wh pins s1 σ H1 Q I1 (q1.2 rfl)
/-- and, or as values (bools) -/
def cAndV (ta tb : TE) : TE := fun σ H Q => ta σ H (boolK fun c H1 => (c = true → tb σ H1 Q) ∧ (c = false → Q (.bl false) H1))
def cOrV (ta tb : TE) : TE := fun σ H Q => ta σ H (boolK fun c H1 => (c = true → Q (.bl true) H1) ∧ (c = false → tb σ H1 Q))
def cNotV (ta : TE) : TE := fun σ H Q => ta σ H (boolK fun c H1 => Q (.bl (!c)) H1)
theorem ce_and (ha : PE X a ta) (hb : PE X (.BoolOp .And (b :: rest) pos) tb) : PE X (.BoolOp .And (a :: b :: rest) pos) (cAndV ta tb) := by
  intro pins s σ H Q I h
  refine BoolOp_and (thn (ha pins s σ H _ I h) fun v s1 ⟨x, H1, I1, r1, q1⟩ => ?_)
  obtain ⟨c, rfl, q1⟩ := boolK_of q1
  cases r1
  refine wpAny_truthy_bool ?_
  cases c with
  | true => exact hb pins s1 σ H1 Q I1 (q1.1 rfl)
  | false => exact ⟨.bl false, H1, I1, rfl, q1.2 rfl⟩
theorem ce_or (ha : PE X a ta) (hb : PE X (.BoolOp .Or (b :: rest) pos) tb) : PE X (.BoolOp .Or (a :: b :: rest) pos) (cOrV ta tb) := by
  intro pins s σ H Q I h
  refine BoolOp_or (thn (ha pins s σ H _ I h) fun v s1 ⟨x, H1, I1, r1, q1⟩ => ?_)
  obtain ⟨c, rfl, q1⟩ := boolK_of q1
  cases r1
  refine wpAny_truthy_bool ?_
  cases c with
  | false => exact hb pins s1 σ H1 Q I1 (q1.2 rfl)
  | true => exact ⟨.bl true, H1, I1, rfl, q1.1 rfl⟩
theorem ce_not (ha : PE X a ta) : PE X (.UnaryOp .Not a pos) (cNotV ta) := by
  intro pins s σ H Q I h
  refine UnaryOp_ (thn (ha pins s σ H _ I h) fun v s1 ⟨x, H1, I1, r1, q1⟩ => ?_)
  obtain ⟨c, rfl, q1⟩ := boolK_of q1
  cases r1
  exact not_of (wpAny_truthy_bool ⟨.bl (!c), H1, I1, rfl, q1⟩)
def cIf (t : TT) (ta tb : TE) : TE := fun σ H Q => t σ H fun c H1 => (c = true → ta σ H1 Q) ∧ (c = false → tb σ H1 Q)
theorem ce_if {c : Expr} (hc : PT X c tA) (ha : PE X a ta) (hb : PE X b tb) : PE X (.IfExp c a b pos) (cIf tA ta tb) := by
  intro pins s σ H Q I h
  refine wpAny_IfExp (thn (hc pins s σ H _ I h) fun d s1 ⟨H1, I1, q1⟩ => ?_)
  cases d with
  | true => exact ha pins s1 σ H1 Q I1 (q1.1 rfl)
  | false => exact hb pins s1 σ H1 Q I1 (q1.2 rfl)
def cIfS (c : TT) (t u : TS) : TS := fun D σ H => c σ H fun b H1 => (b = true → t D σ H1) ∧ (b = false → u D σ H1)
theorem cs_if {c : Expr} {p q : List Stmt} {tc : TT} {t u : TS} (hc : PT X c tc) (ha : PSs X p t) (hb : PSs X q u) : PS X (.If c p q pos) (cIfS tc t u) := by
  intro pins s σ H D I h
  refine wpAny_If (thn (hc pins s σ H _ I h) fun d s1 ⟨H1, I1, q1⟩ => ?_)
  cases d with
  | true => exact ha pins s1 σ H1 D I1 (q1.1 rfl)
  | false => exact hb pins s1 σ H1 D I1 (q1.2 rfl)
/-- a op1 b op2 c -/
def cChain (r r' : R2) (ta tb tc : TE) : TE := fun σ H Q => ta σ H fun x H1 => tb σ H1 fun y H2 => r x y H2 (boolK fun k H3 =>
  (k = true → tc σ H3 fun w' H4 => r' y w' H4 Q) ∧ (k = false → Q (.bl false) H3))
theorem ce_chain {op op' : CmpOp} {r r' : R2} (ho : OpR X (compareOp op) r) (ho' : OpR X (compareOp op') r') (ha : PE X a ta) (hb : PE X b tb) (hc : PE X c tc)
    (hm : lastMarks [op, op'] [b, c] = false := by with_unfolding_all rfl) : PE X (.Compare a [op, op'] [b, c] pos) (cChain r r' ta tb tc) := by
  intro pins s σ H Q I h
  refine Compare_chain (thn (ha pins s σ H _ I h) fun v s1 ⟨x, H1, I1, r1, q1⟩ => chain_link (thn (hb pins s1 σ H1 _ I1 q1) fun u s2 ⟨y, H2, I2, r2, q2⟩ =>
    thn (ho pins s2 σ H2 x y v u _ I2 r1 r2 q2) fun d s3 ⟨z, H3, I3, r3, q3⟩ => ?_)) hm
  obtain ⟨k, rfl, q3⟩ := boolK_of q3
  cases r3
  refine wpAny_truthy_bool ?_
  cases k with
  | false => exact ite_ff ⟨.bl false, H3, I3, rfl, q3.2 rfl⟩
  | true => exact ite_tt (chain_last (thn (hc pins s3 σ H3 _ I3 (q3.1 rfl)) fun w' s4 ⟨z', H4, I4, r4, q4⟩ => ho' pins s4 σ H4 y z' u w' Q I4 r2 r4 q4))
theorem ct_chain {op op' : CmpOp} {r r' : R2} (ho : OpR X (compareOp op) r) (ho' : OpR X (compareOp op') r') (ha : PE X a ta) (hb : PE X b tb) (hc : PE X c tc)
    (hm : lastMarks [op, op'] [b, c] = false := by with_unfolding_all rfl) : PT X (.Compare a [op, op'] [b, c] pos) (cB (cChain r r' ta tb tc)) := by
  intro pins s σ H Q I h
  refine isTrue_chain (thn (ha pins s σ H _ I h) fun v s1 ⟨x, H1, I1, r1, q1⟩ => test_link (thn (hb pins s1 σ H1 _ I1 q1) fun u s2 ⟨y, H2, I2, r2, q2⟩ =>
    thn (ho pins s2 σ H2 x y v u _ I2 r1 r2 q2) fun d s3 ⟨z, H3, I3, r3, q3⟩ => ?_)) hm
  obtain ⟨k, rfl, q3⟩ := boolK_of q3
  cases r3
  refine wpAny_truthy_bool ?_
  cases k with
  | false => exact ite_ff ⟨H3, I3, q3.2 rfl⟩
  | true =>
    refine ite_tt (test_last (thn (hc pins s3 σ H3 _ I3 (q3.1 rfl)) fun w' s4 ⟨z', H4, I4, r4, q4⟩ => thn (ho' pins s4 σ H4 y z' u w' _ I4 r2 r4 q4) fun d' s5 ⟨z2, H5, I5, r5, q5⟩ => ?_))
    obtain ⟨k2, rfl, q5⟩ := boolK_of q5
    cases r5
    exact wpAny_truthy_bool ⟨H5, I5, q5⟩
/-- loops; opened by their forms alone -/
@[irreducible] def WhileAt (c : TT) (tb : TS) (D : Ends) (σ : St) (H : Hp) : Prop := ∃ W : Nat → St → Hp → Prop, (∃ m, W m σ H) ∧ ∀ m σ H, W m σ H →
  c σ H fun b H1 => (b = true → ∃ N : St → Hp → Prop, (∀ σ' H', N σ' H' → ∃ m', m' < m ∧ W m' σ' H') ∧ tb { D with nx := N, ct := N, bk := D.nx } σ H1) ∧ (b = false → D.nx σ H1)
def cWhile (c : TT) (tb : TS) : TS := fun D σ H => WhileAt c tb D σ H
@[irreducible] def ForAt (J : It) (g : TG) (tb : TS) (D : Ends) (σ : St) (H1 : Hp) : Prop := ∃ W : Nat → Nat → St → Hp → Prop, (∃ m, W 0 m σ H1) ∧ ∀ i m σ H, W i m σ H →
  (J.stop i H ∧ D.nx σ H) ∨ (J.go i H ∧ ∃ N : St → Hp → Prop, (∀ σ' H', N σ' H' → ∃ m', m' < m ∧ W (i + 1) m' σ' H') ∧ ∀ x H', J.yld i H x H' → g x σ H' fun σ2 H2 => tb { D with nx := N, ct := N, bk := D.nx } σ2 H2)
def cFor (wi : TI) (g : TG) (tb : TS) : TS := fun D σ H => wi σ H fun J H1 => ForAt J g tb D σ H1
theorem cFor_eq (wi : TI) (g : TG) (tb : TS) : cFor wi g tb = tFor wi g tb := by
  funext D σ H
  unfold cFor tFor
  congr 1
  funext J H1
  unfold ForAt
  rfl
theorem cs_for {tg iter : Expr} {body : List Stmt} {wi : TI} {g : TG} {tb : TS} {pos : Pos} (hp : PassesOwn (model X.prog X.w) X.A X.env X.xe) (hc : X.calm = true) (hi : PI X tg iter wi) (hg : PG X tg g) (hb : PSs X body tb)
    (hs : ∀ x, foldedSetIterable iter X.env x = pure x := by intro _; rfl) : PS X (.For tg iter body [] pos) (cFor wi g tb) := by
  rw [cFor_eq]
  exact ps_for hp hc hi hg hb hs
/-- a word behind a statement: its two ways are joined -/
def tCut (t : TS) : TS := fun D σ H => ∃ M : L2.St → Hp → Prop, t { D with nx := M } σ H ∧ ∀ σ' H', M σ' H' → D.nx σ' H'
theorem cs_cut {st : Stmt} {t : TS} (h : PS X st t) : PS X st (tCut t) := by
  intro pins s σ H D I q
  obtain ⟨M, q1, q2⟩ := q
  refine thn (h pins s σ H _ I q1) fun f s' z => ?_
  cases f with
  | next => obtain ⟨σ', H', I', m⟩ := z; exact ⟨σ', H', I', q2 σ' H' m⟩
  | brk => exact z
  | cont => exact z
  | ret v => exact z
/-- name = value, the value a letter from here on -/
def cLet (i : Nat) : TG := fun v σ H Q => ∀ y, y = v → Q (σ.set i (some y)) H
theorem cLet_eq (te : TE) (i : Nat) : tAsg te (cLet i) = tAsg te (gName i) := by
  funext D σ H
  unfold tAsg
  congr 1
  funext x H1
  exact propext ⟨fun q => q x rfl, fun q y e => by rw [e]; exact q⟩
theorem cs_let {i : Nat} {x : Str} {e : Expr} {te : TE} {pos' : Pos} (hN : X.N.Nodup) (hi : X.N[i]? = some x) (hx : Loc X.env.scope x) (he : PE X e te) (hs : swapsWith e (some (.Name x pos')) pos.line X.env = pure false := by rfl)
    (hf : X.fn x = true ∨ X.env.scope.names.lookup x = some .local := by first | exact .inl rfl | exact .inr rfl | assumption) : PS X (.Assign [.Name x pos'] e pos) (tAsg te (cLet i)) := by
  rw [cLet_eq]
  exact ps_set hN hi hx he hs hf
theorem let_int {e : Int} {G : V → Prop} (h : ∀ i, i = e → G (.int i)) : ∀ y, y = V.int e → G y := fun y q => by rw [q]; exact h e rfl
theorem let_bl {e : Bool} {G : V → Prop} (h : ∀ i, i = e → G (.bl i)) : ∀ y, y = V.bl e → G y := fun y q => by rw [q]; exact h e rfl
theorem let_ref {v : V} {G : V → Prop} (h : G v) : ∀ y, y = v → G y := fun y q => by rw [q]; exact h
end
end L2

/-! A LIST COMPREHENSION of one clause, with or without a test; its block runs in a context of its own. -/
namespace L2
open PySem PySem.Spec PyProof.Rows

/-- the cells that a block draws from around it -/
def clOf (cells : List (Str × Addr)) : List (Str × NameKind) → List (Str × Addr) → List (Str × Addr)
  | [], cs => cs
  | (n, k) :: r, cs => clOf cells r (if k == .free then (n, (cells.lookup n).getD 0) :: cs else cs)
theorem closure_is {scope : Scope} {env : Env} (h : ∀ y ∈ scope.names, y.2 = .free → ∃ c, env.cells.lookup y.1 = some c) : closureFor scope env = pure (clOf env.cells scope.names []) := by
  have all : ∀ (l : List (Str × NameKind)) (cs : List (Str × Addr)), (∀ y ∈ l, y.2 = .free → ∃ c, env.cells.lookup y.1 = some c) →
      (forIn l cs fun x r => match x with
        | (name, kind) => if (kind == NameKind.free) = true then do let a ← cellOf env name; pure (ForInStep.yield ((name, a) :: r)) else pure (ForInStep.yield r) : Sem (List (Str × Addr))) = pure (clOf env.cells l cs) := by
    intro l
    induction l with
    | nil => intro cs _; rfl
    | cons y r ih =>
      intro cs hl
      obtain ⟨n, k⟩ := y
      rw [List.forIn_cons]
      by_cases hk : k = .free
      · subst hk
        obtain ⟨c, hc⟩ := hl (n, .free) List.mem_cons_self rfl
        have e : cellOf env n = pure c := by unfold cellOf; rw [hc]
        simp only [beq_self_eq_true, if_true, e, pure_bind]
        rw [ih _ fun z hz => hl z (List.mem_cons_of_mem _ hz)]
        simp [clOf, hc]
      · have hb : (k == NameKind.free) = false := by simpa using hk
        simp only [hb, Bool.false_eq_true, if_false, pure_bind]
        rw [ih _ fun z hz => hl z (List.mem_cons_of_mem _ hz)]
        simp [clOf, hb]
  unfold closureFor
  have := all scope.names [] h
  simp only [bind_pure] at this ⊢
  exact this
theorem clOf_sub {cells : List (Str × Addr)} : ∀ {l : List (Str × NameKind)} {cs : List (Str × Addr)} {x : Str} {c : Addr}, (∀ y ∈ l, y.2 = .free → ∃ c, cells.lookup y.1 = some c) → (clOf cells l cs).lookup x = some c →
    cs.lookup x = some c ∨ cells.lookup x = some c
  | [], cs, x, c, _, h => .inl h
  | (n, k) :: r, cs, x, c, hl, h => by
    unfold clOf at h
    rcases clOf_sub (fun z hz => hl z (List.mem_cons_of_mem _ hz)) h with q | q
    · split at q
      · rename_i hk
        rw [List.lookup_cons] at q
        split at q
        · rename_i hx
          obtain ⟨c', hc⟩ := hl (n, k) List.mem_cons_self (by simpa using hk)
          have e : x = n := by simpa using hx
          subst e
          rw [hc] at q
          right
          rw [hc]
          simpa using q
        · exact .inl q
      · exact .inl q
    · exact .inr q
theorem clOf_mem {cells : List (Str × Addr)} : ∀ {l : List (Str × NameKind)} {cs : List (Str × Addr)} {x : Str}, (x, NameKind.free) ∈ l ∨ (∃ c, cs.lookup x = some c) → ∃ c, (clOf cells l cs).lookup x = some c
  | [], cs, x, h => by
    rcases h with h | h
    · simp at h
    · exact h
  | (n, k) :: r, cs, x, h => by
    unfold clOf
    refine clOf_mem ?_
    rcases h with h | ⟨c, h⟩
    · rcases List.mem_cons.mp h with h | h
      · cases h
        right
        simp
      · exact .inl h
    · right
      split
      · rw [List.lookup_cons]
        split
        · exact ⟨_, rfl⟩
        · exact ⟨c, h⟩
      · exact ⟨c, h⟩

/-- the block's context -/
def Cx.blk (X : Cx) (scope : Scope) (C : Addr) (Nc : List Str) (s₂ : Shared) (H₂ : Hp) (fp : List Addr) : Cx :=
  { X with N := Nc, s₀ := s₂, H₀ := H₂, env := compEnvC scope (clOf X.env.cells scope.names []) C X.env, outer := X.stack, stack := X.stack, ex := fp, fn := fun _ => false, pn := [], xe := fun _ _ => False, cp := fun _ => false }

/-- the slots of the frame that a block sees -/
def CapOk (X : Cx) (scope : Scope) : List Nat → List Str → Prop
  | [], [] => True
  | j :: js, y :: ys => (X.N[j]? = some y ∧ scope.names.lookup y = some .free ∧ (X.env.kindOf y = some .cell ∨ X.env.kindOf y = some .free)) ∧ CapOk X scope js ys
  | _, _ => False
def capV (σ : St) (cap : List Nat) : St := cap.map fun j => (σ[j]?).getD none
structure BlkOk (X : Cx) (scope : Scope) (x : Str) (cap : List Nat) (ys : List Str) : Prop where
  kind : scope.kind = .function
  nocell : ∀ y ∈ scope.names, y.2 ≠ .cell
  locs : ∀ y ∈ scope.names, y.2 = .local → scope.names.lookup y.1 = some .local
  lx : scope.names.lookup x = some .local
  fr : ∀ y ∈ scope.names, y.2 = .free → X.env.kindOf y.1 = some .cell ∨ X.env.kindOf y.1 = some .free
  cap : CapOk X scope cap ys
  nd : (x :: ys).Nodup
theorem blk_mk {X : Cx} {scope : Scope} {x : Str} {cap : List Nat} {ys : List Str} (kind : scope.kind = .function) (h1 : (scope.names.all fun y => !(y.2 == .cell)) = true) (h2 : (scope.names.all fun y => !(y.2 == .local) || scope.names.lookup y.1 == some .local) = true)
    (hx : scope.names.lookup x = some .local) (h3 : (scope.names.all fun y => !(y.2 == .free) || (X.env.kindOf y.1 == some .cell || X.env.kindOf y.1 == some .free)) = true) (hcap : CapOk X scope cap ys) (hnd : (x :: ys).Nodup) : BlkOk X scope x cap ys := by
  refine ⟨kind, fun y hy e => ?_, fun y hy e => ?_, hx, fun y hy e => ?_, hcap, hnd⟩
  · have := List.all_eq_true.mp h1 y hy
    rw [e] at this; exact absurd this (by decide)
  · have := List.all_eq_true.mp h2 y hy
    rw [e] at this
    simpa using this
  · have := List.all_eq_true.mp h3 y hy
    rw [e] at this
    simpa using this
theorem capOk_get {X : Cx} {scope : Scope} {σ : St} : ∀ {cap : List Nat} {ys : List Str} {i : Nat} {y : Str} {v : V}, CapOk X scope cap ys → ys[i]? = some y → (capV σ cap)[i]? = some (some v) →
    ∃ j : Nat, X.N[j]? = some y ∧ σ[j]? = some (some v) ∧ scope.names.lookup y = some .free ∧ (X.env.kindOf y = some .cell ∨ X.env.kindOf y = some .free)
  | [], [], i, y, v, _, h, _ => by simp at h
  | j :: js, z :: zs, 0, y, v, ⟨⟨h1, h2, h3⟩, _⟩, e1, e2 => by
    simp at e1; subst e1
    refine ⟨j, h1, ?_, h2, h3⟩
    simp only [capV, List.map_cons, List.getElem?_cons_zero, Option.some.injEq] at e2
    cases q : σ[j]? with
    | none => rw [q] at e2; cases e2
    | some w => rw [q] at e2; simp at e2; rw [e2]
  | j :: js, z :: zs, i + 1, y, v, ⟨_, h⟩, e1, e2 => capOk_get (i := i) h (by simpa using e1) (by simpa [capV] using e2)
  | [], _ :: _, _, _, _, h, _, _ => h.elim
  | _ :: _, [], _, _, _, h, _, _ => h.elim
theorem capOk_len {X : Cx} {scope : Scope} : ∀ {cap : List Nat} {ys : List Str}, CapOk X scope cap ys → cap.length = ys.length
  | [], [], _ => rfl
  | _ :: _, _ :: _, ⟨_, h⟩ => by simp [capOk_len h]
  | [], _ :: _, h => h.elim
  | _ :: _, [], h => h.elim

theorem lookup_mem_names {l : List (Str × NameKind)} {y : Str} {k : NameKind} (h : l.lookup y = some k) : (y, k) ∈ l := PySem.mem_of_lookup h

/-- the relabelled scope: a free name stays free or becomes the frame's cell -/
theorem relabel_free {env : Env} : ∀ {names : List (Str × NameKind)} {x : Str}, names.lookup x = some .free →
    (names.map fun (n, k) => if (k == NameKind.free && env.scope.kind == .function && env.kindOf n == some .cell) then (n, NameKind.cell) else (n, k)).lookup x = some .cell ∨
    (names.map fun (n, k) => if (k == NameKind.free && env.scope.kind == .function && env.kindOf n == some .cell) then (n, NameKind.cell) else (n, k)).lookup x = some .free
  | [], _, h => by simp at h
  | (n, k) :: r, x, h => by
    have ih := @relabel_free env r x
    rw [List.map_cons]
    rw [List.lookup_cons] at h
    cases hx : x == n with
    | true =>
      rw [hx] at h
      simp only [Option.some.injEq] at h
      subst h
      dsimp only
      split
      · left; rw [List.lookup_cons, hx]
      · right; rw [List.lookup_cons, hx]
    | false =>
      rw [hx] at h
      dsimp only
      split
      · rw [List.lookup_cons, hx]; exact ih h
      · rw [List.lookup_cons, hx]; exact ih h
theorem relabel_of {env : Env} : ∀ {names : List (Str × NameKind)} {x : Str} {k : NameKind},
    (names.map fun (n, k) => if (k == NameKind.free && env.scope.kind == .function && env.kindOf n == some .cell) then (n, NameKind.cell) else (n, k)).lookup x = some k → (k = .cell ∨ k = .free) → (∀ y ∈ names, y.2 ≠ .cell) → (x, NameKind.free) ∈ names
  | [], _, _, h, _, _ => by simp at h
  | (n, k') :: r, x, k, h, hk, hc => by
    rw [List.map_cons] at h
    have hc' : ∀ y ∈ r, y.2 ≠ .cell := fun y hy => hc y (List.mem_cons_of_mem _ hy)
    have nk : k' ≠ .cell := hc (n, k') List.mem_cons_self
    dsimp only at h
    split at h
    · rename_i q
      rw [List.lookup_cons] at h
      split at h
      · rename_i hx
        have e : x = n := by simpa using hx
        have e2 : k' = .free := by
          simp only [Bool.and_eq_true, beq_iff_eq] at q
          exact q.1.1
        rw [e, e2]; exact List.mem_cons_self
      · exact List.mem_cons_of_mem _ (relabel_of h hk hc')
    · rw [List.lookup_cons] at h
      split at h
      · rename_i hx
        have e : x = n := by simpa using hx
        have e3 : k' = k := by simpa using h
        rcases hk with q | q
        · exact absurd (e3.trans q) nk
        · rw [e, e3, q]; exact List.mem_cons_self
      · exact List.mem_cons_of_mem _ (relabel_of h hk hc')

section
variable {X : Cx} {scope : Scope} {x : Str} {cap : List Nat} {ys : List Str}
theorem BlkOk.clos (B : BlkOk X scope x cap ys) (ok : X.Ok) : ∀ y ∈ scope.names, y.2 = .free → ∃ c, X.env.cells.lookup y.1 = some c := fun y hy e => ok.has y.1 (B.fr y hy e)
theorem BlkOk.sub (B : BlkOk X scope x cap ys) (ok : X.Ok) {z : Str} {c : Addr} (h : (clOf X.env.cells scope.names []).lookup z = some c) : X.env.cells.lookup z = some c := by
  rcases clOf_sub (B.clos ok) h with q | q
  · simp at q
  · exact q
/-- the block's first state -/
theorem BlkOk.start {pins : List (Addr × Obj)} {σ : St} {H₂ : Hp} {s₂ : Shared} {fp : List Addr} {h₁ : Heap} {tk : Nat} {C D : Addr} (B : BlkOk X scope x cap ys) (I : Inv X pins σ H₂ s₂)
    (hf : ∀ b ∈ fp, FpOk X pins H₂ b) (hD : s₂.heap.objs.size ≤ D) (hC : s₂.heap.objs.size ≤ C) (hDC : D ≠ C) (hk : ∀ b o, s₂.heap.get? b = some o → h₁.get? b = some o)
    (hns : ∃ m, h₁.Ns C m) (hl : h₁.get? D = some { cls := .type "list", data := .seq ([] : List Value).toArray }) (hfp : ∀ b ∈ fp, b < s₂.heap.objs.size) :
    Inv (X.blk scope C (x :: ys) s₂ H₂ fp) [] (none :: capV σ cap) (upd H₂ D (.lst [])) { s₂ with heap := h₁, toks := tk } := by
  have ok := I.ok
  have freshC : H₂ C = none := I.hok.fresh hC
  have freshD : H₂ D = none := I.hok.fresh hD
  have lt : ∀ b o, s₂.heap.get? b = some o → b < s₂.heap.objs.size := fun b o e => Heap.lt_size e
  refine ⟨⟨ok.mod, B.kind, ok.glob, ok.blt, hC, fun y z c h1 h2 => ok.inj y z c (B.sub ok h1) (B.sub ok h2), fun y hy => ?_, fun y c h => (Bool.false_ne_true h).elim, ok.hd, ok.frames, .inl rfl, fun b hb => ⟨?_, fun y c h e => ?_⟩, I.bs, Nat.le_trans ok.bsz I.sz, fun b o e hb => ?_, fun b hb hs => ?_, I.stack, I.stkFree, fun y c h => (Bool.false_ne_true h).elim, fun b hb => I.hok.fresh hb⟩,
    rfl, I.bare, Un.laid hk hD freshD, ?_, fun y c h => ?_, ?_, fun y c h => ?_, fun p hp => ?_, ?_, ?_⟩
  · have hy' : (relabel scope X.env).names.lookup y = some .cell ∨ (relabel scope X.env).names.lookup y = some .free := hy
    have m : (y, NameKind.free) ∈ scope.names := by
      rcases hy' with q | q
      · exact relabel_of q (.inl rfl) B.nocell
      · exact relabel_of q (.inr rfl) B.nocell
    exact clOf_mem (.inl m)
  · exact Nat.ne_of_lt (Nat.lt_of_lt_of_le (hfp b hb) hC)
  · exact (hf b hb).2.2.2.2.1 y c (B.sub ok h) e
  · rcases (hf b hb).2.2.2.1 with q | q
    · exact ok.noex b o e q
    · exact absurd (Nat.lt_of_lt_of_le (Heap.lt_size (ok.bs b o e).1) q) (Nat.lt_irrefl _)
  · rcases List.mem_cons.mp (I.stkSub b hs) with q | q
    · exact (hf b hb).2.1 q
    · exact (hf b hb).2.2.1 q
  · obtain ⟨m, hm⟩ := hns
    refine ⟨m, hm, fun i y v e1 e2 e3 => ?_⟩
    cases i with
    | zero => simp at e2
    | succ i =>
      obtain ⟨j, n1, n2, n3, n4⟩ := capOk_get (i := i) B.cap (by simpa [Cx.blk] using e1) (by simpa using e2)
      obtain ⟨m0, hn0, hl0⟩ := I.loc
      have vis : Vis X.env.scope y := by
        rcases n4 with q | q
        · exact .inr (.inl q)
        · exact .inr (.inr q)
      obtain ⟨u, ru, l⟩ := hl0 j y v n1 n2 vis
      refine ⟨u, ru, .inr ⟨relabel_free n3, ?_⟩⟩
      rcases l with ⟨k, _⟩ | ⟨_, c, ec, z⟩
      · rw [k] at n4
        rcases n4 with q | q <;> cases q
      · obtain ⟨c', ec'⟩ := clOf_mem (cells := X.env.cells) (cs := []) (.inl (lookup_mem_names n3))
        have := B.sub ok ec'
        rw [ec] at this; cases this
        obtain ⟨o, ho, hd⟩ := z
        exact ⟨c, ec', o, hk c o ho, hd⟩
  · obtain ⟨v, o, ho, hd⟩ := I.cell y c (B.sub ok h)
    exact ⟨v, o, hk c o ho, hd⟩
  · show upd H₂ D _ C = none
    rw [upd_ne (Ne.symm hDC)]; exact freshC
  · obtain ⟨v, o, ho, hd⟩ := I.cell y c (B.sub ok h)
    rw [upd_ne (Nat.ne_of_lt (Nat.lt_of_lt_of_le (lt c o ho) hD))]
    refine (I.freeC y c (B.sub ok h)).imp id fun ⟨_, o', ho', hno⟩ => ⟨rfl, o', ho', fun z i v e1 k e2 => ?_⟩
    cases i with
    | zero => simp at e2
    | succ i =>
      obtain ⟨j, n1, n2, n3, n4⟩ := capOk_get (i := i) B.cap (by simpa [Cx.blk] using e1) (by simpa using e2)
      exact hno z j v n1 n4 n2
  · exact absurd (show p ∈ ([] : List (Addr × Obj)) from hp) (by simp)
  · exact I.hok.laid hk hD ⟨Nat.zero_le _, [], 0, .nil, hl⟩
  · simp [Cx.blk, capV, capOk_len B.cap]
/-- the frame around it, behind the block -/
theorem BlkOk.back {pins : List (Addr × Obj)} {σ : St} {H₂ H' : Hp} {s₂ s' : Shared} {fp : List Addr} {C : Addr} {pl : List (Addr × Obj)} {σ' : St} (B : BlkOk X scope x cap ys) (I : Inv X pins σ H₂ s₂)
    (hf : ∀ b ∈ fp, FpOk X pins H₂ b) (J : Inv (X.blk scope C (x :: ys) s₂ H₂ fp) pl σ' H' s') : Inv X pins σ H' s' :=
  I.call' (ch := fp) J.os J.base J.hok J.bare fun b hb => by
    obtain ⟨f0, f1, f2, f3, f4, f5⟩ := hf b hb
    refine ⟨?_, f1, f4, f5⟩
    rcases f3 with q | q
    · exact .inl q
    · exact .inr q
theorem BlkOk.far {pins : List (Addr × Obj)} {σ : St} {H₂ H' : Hp} {s₂ s' : Shared} {fp : List Addr} {C : Addr} {pl : List (Addr × Obj)} {σ' : St} (I : Inv X pins σ H₂ s₂)
    (hC : s₂.heap.objs.size ≤ C) (J : Inv (X.blk scope C (x :: ys) s₂ H₂ fp) pl σ' H' s') :
    H' C = none ∧ C ≠ X.env.locals ∧ X.s₀.heap.objs.size ≤ C ∧ (∀ z c, X.env.cells.lookup z = some c → c ≠ C) ∧ ∀ p ∈ X.pn ++ pins, p.1 ≠ C := by
  refine ⟨J.free, Nat.ne_of_gt (Nat.lt_of_lt_of_le I.lt hC), Nat.le_trans I.sz hC, fun z c e q => ?_, fun p hp q => ?_⟩
  · obtain ⟨v, w⟩ := I.cell z c e
    exact absurd (Nat.lt_of_lt_of_le w.lt (by rw [q]; exact hC)) (Nat.lt_irrefl _)
  · exact absurd (Nat.lt_of_lt_of_le (Heap.lt_size (I.pin p hp).1) (by rw [q]; exact hC)) (Nat.lt_irrefl _)
end

/-- the turns of a clause, the step ahead of the store kept -/
theorem comp_turns {prog : Program} {w : World} {A : Around} {R : Result → Shared → Prop} {s : Shared} {elt tg iter : Expr} {ifs : List Expr} {scope : Scope} {pos : Pos} {it acc : Value} {env : Env} (J : Nat → Shared → Prop)
    (go : ∀ n s, J n s → wpAny (model prog w) A (pyNext it) (fun r s1 => match r with
      | none => R (.ok .next) s1
      | some v => wpAny (model prog w) A (letOwnedTupleGo tg it v) (fun _ s2 => wpAny (model prog w) A (assign tg env v) (fun _ s3 =>
          wpAny (model prog w) A (forIn ifs true fun c r => if r = true then do let ok ← isTrue c env (eval c env); pure (ForInStep.yield ok) else pure (ForInStep.yield r)) (fun ok s4 =>
            if ok = true then wpAny (model prog w) A (eval elt env) (fun y s5 => wpAny (model prog w) A (call (.builtin "list.append") [acc, y]) (fun _ s6 => ∃ m, m < n ∧ J m s6) (fun _ _ => False) s5) (fun _ _ => False) s4
            else ∃ m, m < n ∧ J m s4) (fun _ _ => False) s3) (fun _ _ => False) s2) (fun _ _ => False) s1) (fun _ _ => False) s)
    (n : Nat) (h : J n s) : codeAny (model prog w) A (.compLoop (.ListComp elt [⟨tg, iter, ifs, 0⟩] scope pos) 0 it acc env) R s := by
  refine codeAny_loop rfl J (fun n s hJ => ?_) n h
  show wpAny _ A ((compTurn (.ListComp elt [⟨tg, iter, ifs, 0⟩] scope pos) 0 it acc env).onRaise (fun x => do noteFrame x env; theTreesLotGoes x)) _ _ s
  refine wpAny_noted ?_
  rw [compTurn_list]
  refine wpAny_bind (wpAny_standAt (wpAny_bind (wpAny_mono (go n s hJ) (fun r s1 h1 => ?_) fun _ _ z => z.elim)))
  cases r with
  | none => exact wpAny_pure h1
  | some v =>
    refine wpAny_bind (wpAny_mono h1 (fun _ s2 h2 => wpAny_bind (wpAny_mono h2 (fun _ s3 h3 => wpAny_bind (wpAny_mono h3 (fun ok s4 h4 => ?_) fun _ _ z => z.elim)) fun _ _ z => z.elim)) fun _ _ z => z.elim)
    cases ok with
    | false => exact wpAny_pure ⟨rfl, h4⟩
    | true =>
      exact wpAny_bind (wpAny_bind (wpAny_mono h4 (fun y s5 h5 => wpAny_bind (wpAny_mono h5 (fun _ s6 h6 => wpAny_pure (wpAny_pure ⟨rfl, h6⟩)) fun _ _ z => z.elim)) fun _ _ z => z.elim))
/-- the tests of a clause: none, or one -/
def CTs (Xc : Cx) (ifs : List Expr) (t : TT) : Prop :=
  ∀ (pins : List (Addr × Obj)) (s : Shared) (σ : St) (H : Hp) (Q : Bool → Hp → Prop), Inv Xc pins σ H s → t σ H Q →
    wpAny (model Xc.prog Xc.w) Xc.A (forIn ifs true fun c r => if r = true then do let ok ← isTrue c Xc.env (eval c Xc.env); pure (ForInStep.yield ok) else pure (ForInStep.yield r)) (TP Xc pins σ Q) Xc.xe s
def tAll : TT := fun _ H Q => Q true H
theorem cts_nil {Xc : Cx} : CTs Xc [] tAll := fun _ _ _ H _ I q => wpAny_tests_nil ⟨H, I, q⟩
theorem cts_one {Xc : Cx} {c : Expr} {t : TT} (h : PT Xc c t) : CTs Xc [c] t := fun pins s σ H Q I q => wpAny_tests_one (h pins s σ H Q I q)

/-- the invariant of a comprehension: turn, measure, the list so far, the heap -/
abbrev CW := Nat → Nat → List V → Hp → Prop
/-- what a comprehension asks, from its iterator on; opened by CompAt.mk alone -/
@[irreducible] def CompAt (J : It) (caps : St) (tt : TT) (te : TE) (Q : VK) (H2 : Hp) : Prop := ∀ D, H2 D = none → ∃ W : CW, (∃ m, W 0 m [] (upd H2 D (.lst []))) ∧
  ∀ i m acc H3, W i m acc H3 → H3 D = some (.lst acc) ∧ ((J.stop i H3 ∧ Q (.ref D) H3) ∨ (J.go i H3 ∧ acc.length < sizeLine ∧ ∀ v H4, J.yld i H3 v H4 → tt (some v :: caps) H4 fun b H5 =>
    (b = true → te (some v :: caps) H5 fun u H6 => H6 D = some (.lst acc) ∧ ∃ m', m' < m ∧ W (i + 1) m' (acc ++ [u]) (upd H6 D (.lst (acc ++ [u])))) ∧ (b = false → ∃ m', m' < m ∧ W (i + 1) m' acc H5)))
/-- [e for x in it if c] -/
def tComp (cap : List Nat) (wi : TI) (tt : TT) (te : TE) : TE := fun σ H Q => wi σ H fun J H2 => CompAt J (capV σ cap) tt te Q H2
section
variable {X : Cx} {scope : Scope} {x : Str} {cap : List Nat} {ys : List Str} {elt iter : Expr} {ifs : List Expr} {px pos : Pos} {wi : TI} {tt : TT} {te : TE}
/-- the block itself: from the iterator on -/
theorem comp_block (B : BlkOk X scope x cap ys) (hc : X.calm = true) (he : ∀ C s H fp, PE (X.blk scope C (x :: ys) s H fp) elt te) (ht : ∀ C s H fp, CTs (X.blk scope C (x :: ys) s H fp) ifs tt)
    {pins : List (Addr × Obj)} {σ : St} {s₂ : Shared} {Q : VK} {RR : Value → Addr → Result → Shared → Prop} {itv : Value} {E : Value → Shared → Prop}
    (hp : PIE X pins σ (.Name x px) (fun J H2 => CompAt J (capV σ cap) tt te Q H2) itv s₂)
    (hR : ∀ (D C : Addr) (H' : Hp) (s' : Shared), Inv X pins σ H' s' → (∃ m, s'.heap.Ns C m) → H' C = none → C ≠ X.env.locals → X.s₀.heap.objs.size ≤ C → (∀ z c, X.env.cells.lookup z = some c → c ≠ C) → (∀ p ∈ X.pn ++ pins, p.1 ≠ C) → Q (.ref D) H' → RR (.ref D) C (.ok .next) s') :
    wpAny (model X.prog X.w) X.A (newList []) (fun acc s₃ => wpAny (model X.prog X.w) X.A (newFunctionEnv scope X.env.globals (clOf X.env.cells scope.names []) [] X.env.qual none .none (some X.env)) (fun cenv s₄ =>
      codeAny (model X.prog X.w) X.A (.compStart (.ListComp elt [⟨.Name x px, iter, ifs, 0⟩] scope pos) 0 itv acc { cenv with scope := relabel scope X.env }) (RR acc cenv.locals) s₄) E s₃) E s₂ := by
  obtain ⟨it, fp, tn, J, H2, e, I2, T, st2, f2, hw⟩ := hp
  subst e
  unfold CompAt at hw
  refine wpAny_newObj_type (wpAny_newFunctionEnv B.nocell (by intro y hy; simp at hy) (fun h₁ hns₁ hsb₁ => ?_) B.kind)
  dsimp only at hns₁ hsb₁ ⊢
  generalize hG : s₂.heap.push { cls := .type "list", dict := none, data := .seq ([] : List Value).toArray } = G at hns₁ hsb₁ ⊢
  have hsz : G.objs.size = s₂.heap.objs.size + 1 := by rw [← hG, Heap.size_push]
  have hCle : s₂.heap.objs.size ≤ G.objs.size := by omega
  have hDC : s₂.heap.objs.size ≠ G.objs.size := by omega
  have old : ∀ b o, s₂.heap.get? b = some o → h₁.get? b = some o := fun b o q => by
    have lt := Heap.lt_size q
    refine hsb₁.extBut b o (Nat.ne_of_lt (Nat.lt_of_lt_of_le lt hCle)) (Heap.get?_push_of_some _ ?_)
    rw [← hG]; exact Heap.get?_push_of_some _ q
  have accAt : h₁.get? s₂.heap.objs.size = some { cls := .type "list", data := .seq ([] : List Value).toArray } := by
    refine hsb₁.extBut _ _ hDC (Heap.get?_push_of_some _ ?_)
    rw [← hG]; exact Heap.get?_push_size _ rfl
  have hfp : ∀ b ∈ fp, b < s₂.heap.objs.size := fun b hb => by
    obtain ⟨o, ho, _⟩ := T.obj _ _ st2 b hb
    exact Heap.lt_size ho
  obtain ⟨W, ⟨m0, w0⟩, turn⟩ := hw s₂.heap.objs.size (I2.hok.fresh (Nat.le_refl _))
  generalize htk : s₂.toks + ([] : List (Str × Value)).length = tk
  have I0 := B.start (tk := tk) (C := G.objs.size) I2 f2 (Nat.le_refl _) hCle hDC old ⟨_, hns₁⟩ accAt hfp
  have st0 : tn 0 h₁ := T.keep _ _ _ st2 fun b hb o q => old b o q
  -- what stays true of the iterator's objects
  have f3 : ∀ {H' : Hp}, (∀ b ∈ fp, H' b = none) → ∀ b ∈ fp, FpOk (X.blk scope G.objs.size (x :: ys) s₂ H2 fp) [] H' b := fun hn b hb => by
    obtain ⟨f0, f1, f2', f3', f4, f5⟩ := f2 b hb
    refine ⟨hn b hb, Nat.ne_of_lt (Nat.lt_of_lt_of_le (hfp b hb) hCle), fun hs => ?_, .inl hb, fun z c q => f4 z c (B.sub I2.ok q), fun p hp => absurd (show p ∈ ([] : List (Addr × Obj)) from hp) (by simp)⟩
    rcases List.mem_cons.mp (I2.stkSub b hs) with q | q
    · exact f1 q
    · exact f2' q
  have n0 : ∀ b ∈ fp, upd H2 s₂.heap.objs.size (.lst []) b = none := fun b hb => by
    rw [upd_ne (Nat.ne_of_lt (hfp b hb))]; exact (f2 b hb).1
  have loop : ∀ sx : Shared, sx = { s₂ with heap := h₁, toks := tk } →
      codeAny (model X.prog X.w) X.A (.compLoop (.ListComp elt [⟨.Name x px, iter, ifs, 0⟩] scope pos) 0 (.ref it) (.ref s₂.heap.objs.size) (compEnvC scope (clOf X.env.cells scope.names []) G.objs.size X.env)) (RR (.ref s₂.heap.objs.size) G.objs.size) sx := by
    rintro sx rfl
    refine comp_turns (fun n s' => ∃ i acc H', Inv (X.blk scope G.objs.size (x :: ys) s₂ H2 fp) [] (none :: capV σ cap) H' s' ∧ tn i s'.heap ∧ (∀ b ∈ fp, H' b = none) ∧ W i n acc H') ?_ m0 ⟨0, [], _, I0, st0, n0, w0⟩
    rintro n s3 ⟨i, acc, H3, I3, st3, fr3, w3⟩
    obtain ⟨hD3, alt⟩ := turn i n acc H3 w3
    rcases alt with ⟨stop, q⟩ | ⟨go, hlen, step⟩
    · refine wpAny_mono (T.done (X.blk scope G.objs.size (x :: ys) s₂ H2 fp) rfl rfl rfl hc i [] s3 _ H3 (fun _ _ => False) I3 (f3 fr3) st3 stop) (fun r s4 ⟨hr, I4⟩ => ?_) fun _ _ z => z.elim
      subst hr
      obtain ⟨g1, g2, g3, g4, g5⟩ := BlkOk.far I2 hCle I4
      obtain ⟨m4, hm4, _⟩ := I4.loc
      exact hR _ _ H3 s4 (B.back I2 f2 I4) ⟨m4, hm4⟩ g1 g2 g3 g4 g5 q
    · refine wpAny_mono (T.item (X.blk scope G.objs.size (x :: ys) s₂ H2 fp) rfl rfl rfl hc i [] s3 _ H3 (fun _ _ => False) I3 (f3 fr3) st3 go) (fun r s4 ⟨u, hr, h4⟩ => ?_) fun _ _ z => z.elim
      subst hr
      refine wpAny_mono h4 (fun _ s4 ⟨v, H4, I4, rv, y4, st4, fr4⟩ => ?_) fun _ _ z => z.elim
      have I4' := I4.pinned (f3 fr4) (T.obj _ _ st4)
      refine wpAny_assign_Name (store_ok (X := X.blk scope G.objs.size (x :: ys) s₂ H2 fp) (i := 0) I4' B.nd rfl (.inl (lookup_relabel_local B.lx)) rv (fun s5 I5 => ?_) (.inr (lookup_relabel_local B.lx)))
      have I5' : Inv (X.blk scope G.objs.size (x :: ys) s₂ H2 fp) ([] ++ pinsAt fp s4.heap) (some v :: capV σ cap) H4 s5 := I5
      refine wpAny_mono (ht _ _ _ _ _ s5 _ H4 _ I5' (step v H4 y4)) (fun ok s6 ⟨H6, I6, q6⟩ => ?_) fun _ _ z => z.elim
      have pinned : ∀ {σ7 : St} {H7 : Hp} {s7 : Shared}, Inv (X.blk scope G.objs.size (x :: ys) s₂ H2 fp) ([] ++ pinsAt fp s4.heap) σ7 H7 s7 → tn (i + 1) s7.heap ∧ ∀ b ∈ fp, H7 b = none := fun {σ7 H7 s7} I7 => by
        refine ⟨T.keep _ _ _ st4 fun b hb o e => (I7.pin (b, o) (List.mem_append_right _ (List.mem_append_right _ (mem_pinsAt hb e)))).1, fun b hb => ?_⟩
        obtain ⟨o, e, d⟩ := T.obj _ _ st4 b hb
        exact (I7.pin (b, o) (List.mem_append_right _ (List.mem_append_right _ (mem_pinsAt hb e)))).2.1
      have weak : ∀ {H7 : Hp} {s7 : Shared}, Inv (X.blk scope G.objs.size (x :: ys) s₂ H2 fp) ([] ++ pinsAt fp s4.heap) (some v :: capV σ cap) H7 s7 → Inv (X.blk scope G.objs.size (x :: ys) s₂ H2 fp) [] (none :: capV σ cap) H7 s7 := fun I7 =>
        (I7.unpinned (pins := [])).weak rfl fun j z e => by
          cases j with
          | zero => simp at e
          | succ j => simpa using e
      cases ok with
      | false =>
        rw [if_neg Bool.false_ne_true]
        obtain ⟨m', hm', w'⟩ := q6.2 rfl
        exact ⟨m', hm', i + 1, acc, H6, weak I6, (pinned I6).1, (pinned I6).2, w'⟩
      | true =>
        rw [if_pos rfl]
        refine wpAny_mono (he _ _ _ _ _ s6 _ H6 _ I6 (q6.1 rfl)) (fun y s7 ⟨z, H7, I7, rz, hD7, m', hm', w'⟩ => ?_) fun _ _ z => z.elim
        refine wpAny_mono (mt_append (X := X.blk scope G.objs.size (x :: ys) s₂ H2 fp) _ s7 _ H7 (.ref s₂.heap.objs.size) [z] (.ref s₂.heap.objs.size) [y] (fun _ H8 => H8 = upd H7 s₂.heap.objs.size (.lst (acc ++ [z]))) I7 rfl (.cons rz .nil) ⟨_, acc, z, rfl, rfl, hD7, hlen, rfl⟩) (fun _ s8 ⟨_, H8, I8, _, e8⟩ => ?_) fun _ _ z => z.elim
        subst e8
        exact ⟨m', hm', i + 1, _, _, weak I8, (pinned I8).1, (pinned I8).2, w'⟩
  exact codeAny_compStart_list (loop _ rfl) (T.self _ 0 _ _ _ st0 (loop _ rfl))
theorem pe_comp (B : BlkOk X scope x cap ys) (hc : X.calm = true) (hi : PI X (.Name x px) iter wi) (he : ∀ C s H fp, PE (X.blk scope C (x :: ys) s H fp) elt te) (ht : ∀ C s H fp, CTs (X.blk scope C (x :: ys) s H fp) ifs tt)
    (hs : ∀ x, foldedSetIterable iter X.env x = pure x := by intro _; rfl) : PE X (.ListComp elt [⟨.Name x px, iter, ifs, 0⟩] scope pos) (tComp cap wi tt te) := by
  intro pins s σ H Q I h
  rw [eval_ListComp]
  refine wpAny_comprehension_free (use := none) rfl hs (closure_is (B.clos I.ok)) B.kind B.locs ?_
  refine thn (hi pins s σ H _ I h) fun v s1 h1 => thn h1 fun itv s2 h2 => ?_
  refine comp_block (Q := Q) (RR := fun acc C => compPost (model X.prog X.w) X.A X.xe none (EP X pins σ Q) acc C) B hc he ht h2 ?_
  rintro D C H' s' J ⟨m, hm⟩ g1 g2 g3 g4 g5 q
  exact ⟨m, hm, fun h' sb => ⟨.ref D, H', J.turned (t' := s'.toks) (fun b o hb e => (sb.2 b hb).trans e) g1 g2 (.inr g3) g4 g5, rfl, q⟩⟩
/-- name = [e for x in it if c], stored ahead of the block's end -/
theorem ps_setComp {i : Nat} {y : Str} {pos' spos : Pos} (B : BlkOk X scope x cap ys) (hc : X.calm = true) (hN : X.N.Nodup) (hi : X.N[i]? = some y) (hy : X.env.scope.names.lookup y = some .local) (hit : PI X (.Name x px) iter wi)
    (he : ∀ C s H fp, PE (X.blk scope C (x :: ys) s H fp) elt te) (ht : ∀ C s H fp, CTs (X.blk scope C (x :: ys) s H fp) ifs tt)
    (hsw : swapsWith (.ListComp elt [⟨.Name x px, iter, ifs, 0⟩] scope pos) (some (.Name y pos')) spos.line X.env = pure true := by rfl)
    (hs : ∀ x, foldedSetIterable iter X.env x = pure x := by intro _; rfl) :
    PS X (.Assign [.Name y pos'] (.ListComp elt [⟨.Name x px, iter, ifs, 0⟩] scope pos) spos) (tAsg (tComp cap wi tt te) (gName i)) := by
  intro pins s σ H D I h
  rw [exec_Assign_Name_used _ _ _ _ hsw]
  refine wpAny_bind (wpAny_standAt (wpAny_bind ?_))
  show wpAny _ X.A (do let _ ← comprehension (.ListComp elt [⟨.Name x px, iter, ifs, 0⟩] scope pos) scope X.env _ (newList []) false (eval iter X.env) (some (assign (.Name y pos') X.env))) _ _ s
  refine wpAny_bind (wpAny_mono (wpAny_comprehension_free (use := some (assign (.Name y pos') X.env)) (Q := fun _ s' => SP X pins D .next s') rfl hs (closure_is (B.clos I.ok)) B.kind B.locs
    (thn (hit pins s σ H _ I h) fun v s1 h1 => thn h1 fun itv s2 h2 => ?_)) (fun _ s' hq => wpAny_pure (wpAny_pure hq)) fun _ _ e => e)
  refine comp_block (Q := fun v H1 => gName i v σ H1 D.nx) (RR := fun acc C => compPost (model X.prog X.w) X.A X.xe (some (assign (.Name y pos') X.env)) (fun _ s' => SP X pins D .next s') acc C) B hc he ht h2 ?_
  rintro Da C H' s' J ⟨m, hm⟩ g1 g2 g3 g4 g5 q
  show wpAny _ X.A (assign (.Name y pos') X.env (.ref Da)) _ _ s'
  refine (wpAny_assign_Name (store_ok2 (v := .ref Da) J hN hi (.inl hy) rfl (fun s4 J4 ⟨a, sb, ha⟩ => ?_) (.inr hy)))
  have hCa : C ≠ a := by
    rcases ha with z | z
    · rw [z]; exact g2
    · exact fun w => g4 y a z w.symm
  refine ⟨m, hm.sameBut sb hCa, fun h' sb' => ?_⟩
  exact ⟨_, H', J4.turned (t' := s4.toks) (fun b o hb e => (sb'.2 b hb).trans e) g1 g2 (.inr g3) g4 g5, q⟩
end
end L2

/-! RANGES of any ints and steps; list(range(..)); isinstance; a base's method by its class. -/
namespace L2
open PySem PySem.Spec PyProof.Rows

/-- lo, lo + st, .. (n of them) -/
def Its (lo st : Int) (n : Nat) : It := ⟨fun i _ => i < n, fun i H x H' => H' = H ∧ x = .int (lo + i * st), fun i _ => n ≤ i⟩
theorem turn_steps {P : Program} {w : World} {K : PySem.W.Frag} {tg : Expr} (it : Addr) (lo st : Int) (n : Nat) : Turn P w K tg (Its lo st n) [it] it (fun i h => IsRangeIter h it (lo + (i : Nat) * st) ((n : Int) - (i : Nat)) st) where
  mem := by simp
  obj := fun i h q b hb => by
    have e : b = it := by simpa using hb
    subst e
    exact ⟨_, q, fun v z => by
      have z' : Data.fields _ = Data.cell v := z
      cases z'⟩
  keep := fun i h h' q k => k it (by simp) _ q
  item := by
    intro X hP hw hK hc i pins s σ H E I hf q hg
    subst hP hw hK
    obtain ⟨f0, f1, f2, f3, f4, f5⟩ := hf it (by simp)
    refine (Walks.range (prog := X.prog) (w := X.w) (I.ok.hd hc) it lo st n).item i s _ _ hg q fun v h' tk hv q' kk => ?_
    obtain ⟨t, rfl⟩ := hv
    have I1 : Inv X pins σ H { s with heap := h', toks := tk } := I.turned (fun b o hb e => kk b o (by simpa using hb) e) f0 f1 f3 f4 f5
    exact ⟨_, rfl, go_of (s := { s with heap := h', toks := tk }) (n := "range_iterator") q' rfl rfl (by decide) ⟨.int (lo + i * st), H, I1, ⟨t, rfl⟩, ⟨rfl, rfl⟩, q', fun b hb => (hf b hb).1⟩⟩
  done := by
    intro X hP hw hK hc i pins s σ H E I hf q hg
    subst hP hw hK
    obtain ⟨f0, f1, f2, f3, f4, f5⟩ := hf it (by simp)
    exact wpAny_pyNext_range_end (I.ok.hd hc) q (by have : n ≤ i := hg; omega) fun h' eb => ⟨rfl, I.turned (t' := s.toks) (fun b o hb e => eb b o hb e) f0 f1 f3 f4 f5⟩
  self := fun _ _ _ _ _ q h => wpAny_pyIter_rangeiter q h
theorem turn_long {P : Program} {w : World} {K : PySem.W.Frag} {tg : Expr} (it : Addr) (lo st : Int) (n : Nat) : Turn P w K tg (Its lo st n) [it] it (fun i h => IsLongIter h it (lo + (i : Nat) * st) ((n : Int) - (i : Nat)) st) where
  mem := by simp
  obj := fun i h q b hb => by
    have e : b = it := by simpa using hb
    subst e
    exact ⟨_, q, fun v z => by
      have z' : Data.fields _ = Data.cell v := z
      cases z'⟩
  keep := fun i h h' q k => k it (by simp) _ q
  item := by
    intro X hP hw hK hc i pins s σ H E I hf q hg
    subst hP hw hK
    obtain ⟨f0, f1, f2, f3, f4, f5⟩ := hf it (by simp)
    refine (Walks.longrange (prog := X.prog) (w := X.w) (I.ok.hd hc) it lo st n).item i s _ _ hg q fun v h' tk hv q' kk => ?_
    obtain ⟨t, rfl⟩ := hv
    have I1 : Inv X pins σ H { s with heap := h', toks := tk } := I.turned (fun b o hb e => kk b o (by simpa using hb) e) f0 f1 f3 f4 f5
    exact ⟨_, rfl, go_of (s := { s with heap := h', toks := tk }) (n := "longrange_iterator") q' rfl rfl (by decide) ⟨.int (lo + i * st), H, I1, ⟨t, rfl⟩, ⟨rfl, rfl⟩, q', fun b hb => (hf b hb).1⟩⟩
  done := by
    intro X hP hw hK hc i pins s σ H E I hf q hg
    subst hP hw hK
    obtain ⟨f0, f1, f2, f3, f4, f5⟩ := hf it (by simp)
    exact wpAny_pyNext_long_end (I.ok.hd hc) q (by have : n ≤ i := hg; omega) fun h' eb => ⟨rfl, I.turned (t' := s.toks) (fun b o hb e => eb b o hb e) f0 f1 f3 f4 f5⟩
  self := fun _ _ _ _ _ q h => wpAny_pyIter_longiter q h

/-- how many a range has -/
def rngN (a b c : Int) : Nat := (Builtin.Range.rangeSize a b c).toNat
theorem rangeSize_nn (a b c : Int) : 0 ≤ Builtin.Range.rangeSize a b c := by
  unfold Builtin.Range.rangeSize
  split
  · split
    · have := Int.ediv_nonneg (a := b - a - 1) (b := c) (by omega) (by omega); omega
    · omega
  · split
    · have := Int.ediv_nonneg (a := a - b - 1) (b := -c) (by omega) (by omega); omega
    · omega
theorem rngN_cast (a b c : Int) : ((rngN a b c : Nat) : Int) = Builtin.Range.rangeSize a b c := Int.toNat_of_nonneg (rangeSize_nn a b c)
theorem rngN_one (a b : Int) : rngN a b 1 = (b - a).toNat := by
  unfold rngN Builtin.Range.rangeSize
  simp only [show (1 : Int) > 0 by decide, if_true]
  split <;> simp <;> omega

section
variable {X : Cx} {tg : Expr}
/-- a range object, walked -/
theorem rng_it {pins : List (Addr × Obj)} {σ : St} {H : Hp} {s : Shared} {R : It → Hp → Prop} {E : Value → Shared → Prop} {a b c : Int} {t u v : Tok} {r : Addr} (I : Inv X pins σ H s) (hr : IsRange s.heap r a b c t u v)
    (q : R (Its a c (rngN a b c)) H) : wpAny (model X.prog X.w) X.A (pyIter (.ref r)) (PIE X pins σ tg R) E s := by
  have e2 : Builtin.Range.rangeSize a b c = ((rngN a b c : Nat) : Int) - ((0 : Nat) : Int) := by rw [rngN_cast]; simp
  have e1 : a = a + ((0 : Nat) : Int) * c := by simp
  have fp : ∀ b' ∈ [s.heap.objs.size], FpOk X pins H b' := fun b' hb => by
    have e : b' = s.heap.objs.size := by simpa using hb
    subst e
    exact I.fpOk (Nat.le_refl _) (I.hok.fresh (Nat.le_refl _))
  cases hsm : Builtin.Range.small a b c with
  | true =>
    refine wpAny_pyIter_range hr hsm ⟨s.heap.objs.size, [s.heap.objs.size], _, _, H, rfl, I.kept (t' := s.toks) fun b o e => Heap.get?_push_of_some _ e, turn_steps _ a c (rngN a b c), ?_, fp, q⟩
    show IsRangeIter _ _ (a + ((0 : Nat) : Int) * c) (((rngN a b c : Nat) : Int) - ((0 : Nat) : Int)) c
    rw [← e1, ← e2]
    exact Heap.get?_push_size _ rfl
  | false =>
    refine wpAny_pyIter_longrange hr hsm ⟨s.heap.objs.size, [s.heap.objs.size], _, _, H, rfl, I.kept (t' := s.toks) fun b o e => Heap.get?_push_of_some _ e, turn_long _ a c (rngN a b c), ?_, fp, q⟩
    show IsLongIter _ _ (a + ((0 : Nat) : Int) * c) (((rngN a b c : Nat) : Int) - ((0 : Nat) : Int)) c
    rw [← e1, ← e2]
    exact Heap.get?_push_size _ rfl
def argI (k : Int → Hp → Prop) : List V → Hp → Prop := fun vs H => match vs with
  | [.int j] => k j H
  | _ => False
def argI2 (k : Int → Int → Hp → Prop) : List V → Hp → Prop := fun vs H => match vs with
  | [.int i, .int j] => k i j H
  | _ => False
def argI3 (k : Int → Int → Int → Hp → Prop) : List V → Hp → Prop := fun vs H => match vs with
  | [.int i, .int j, .int l] => k i j l H
  | _ => False
theorem argI_of {k : Int → Hp → Prop} {vs : List V} {H : Hp} (h : argI k vs H) : ∃ j, vs = [.int j] ∧ k j H := by
  unfold argI at h
  split at h
  · exact ⟨_, rfl, h⟩
  · exact h.elim
theorem argI2_of {k : Int → Int → Hp → Prop} {vs : List V} {H : Hp} (h : argI2 k vs H) : ∃ i j, vs = [.int i, .int j] ∧ k i j H := by
  unfold argI2 at h
  split at h
  · exact ⟨_, _, rfl, h⟩
  · exact h.elim
theorem argI3_of {k : Int → Int → Int → Hp → Prop} {vs : List V} {H : Hp} (h : argI3 k vs H) : ∃ i j l, vs = [.int i, .int j, .int l] ∧ k i j l H := by
  unfold argI3 at h
  split at h
  · exact ⟨_, _, _, rfl, h⟩
  · exact h.elim
theorem vals_i1 {us : List Value} {i : Int} (r : Vals [.int i] us) : ∃ t, us = [.int i t] := by
  obtain ⟨u, rfl, t, rfl⟩ := Vals.one r
  exact ⟨t, rfl⟩
theorem vals_i2 {us : List Value} {i j : Int} (r : Vals [.int i, .int j] us) : ∃ t t', us = [.int i t, .int j t'] := by
  obtain ⟨u, v, rfl, ⟨t, rfl⟩, ⟨t', rfl⟩⟩ := Vals.two r
  exact ⟨t, t', rfl⟩
theorem vals_i3 {us : List Value} {i j l : Int} (r : Vals [.int i, .int j, .int l] us) : ∃ t t' t'', us = [.int i t, .int j t', .int l t''] := by
  cases r with
  | cons r rr =>
    obtain ⟨t', t'', rfl⟩ := vals_i2 rr
    obtain ⟨t, rfl⟩ := r
    exact ⟨t, t', t'', rfl⟩
/-- the length of the step: no division by a huge number -/
def StepOk (c : Int) : Prop := c ≠ 0 ∧ c.natAbs.log2 < 9000
def cRng1 (ta : TA) : TI := fun σ H R => ta σ H (argI fun j H1 => R (Its 0 1 (rngN 0 j 1)) H1)
def cRng2 (ta : TA) : TI := fun σ H R => ta σ H (argI2 fun i j H1 => R (Its i 1 (rngN i j 1)) H1)
def cRng3 (ta : TA) : TI := fun σ H R => ta σ H (argI3 fun i j c H1 => StepOk c ∧ R (Its i c (rngN i j c)) H1)
theorem ci_range1 {a : Expr} {ta : TA} {p pos : Pos} (hg : Gl X "range") (hm : X.mg "range" = none) (ha : PA X [a] ta) (hs : starEach [a] X.env = [(false, eval a X.env)] := by rfl) : PI X tg (.Call (.Name "range" p) [a] [] pos) (cRng1 ta) := by
  intro pins s σ H R I h
  refine Call_ (ld_blt I hg hm boot_range (PyProof.Rows.callWith_type1 (thn (ha pos pins s σ H _ I h) fun us s1 ⟨vs, H1, I1, r1, q1⟩ => ?_) hs rfl))
  obtain ⟨j, rfl, q⟩ := argI_of q1
  obtain ⟨t, rfl⟩ := vals_i1 r1
  refine call_range_1 (rng_it (I1.kept (t' := _) fun b o e => Heap.get?_push_of_some _ e) (IsRange.new ..) q)
theorem ci_range2 {a b : Expr} {ta : TA} {p pos : Pos} (hg : Gl X "range") (hm : X.mg "range" = none) (ha : PA X [a, b] ta) (hs : starEach [a, b] X.env = [(false, eval a X.env), (false, eval b X.env)] := by rfl) (hs2 : starEach [b] X.env = [(false, eval b X.env)] := by rfl) :
    PI X tg (.Call (.Name "range" p) [a, b] [] pos) (cRng2 ta) := by
  intro pins s σ H R I h
  refine Call_ (ld_blt I hg hm boot_range (PyProof.Rows.callWith_type1 (thn (ha pos pins s σ H _ I h) fun us s1 ⟨vs, H1, I1, r1, q1⟩ => ?_) (by rw [hs, hs2]) (by rw [hs2]; rfl)))
  obtain ⟨i, j, rfl, q⟩ := argI2_of q1
  obtain ⟨t, t', rfl⟩ := vals_i2 r1
  exact call_range_2 (rng_it (I1.kept (t' := _) fun b o e => Heap.get?_push_of_some _ e) (IsRange.new ..) q)
theorem ci_range3 {a b c : Expr} {ta : TA} {p pos : Pos} (hg : Gl X "range") (hm : X.mg "range" = none) (ha : PA X [a, b, c] ta) (hs : starEach [a, b, c] X.env = (false, eval a X.env) :: starEach [b, c] X.env := by rfl) (hpl : (backTo pos (starEach [b, c] X.env)).any (·.1) = false := by rfl) :
    PI X tg (.Call (.Name "range" p) [a, b, c] [] pos) (cRng3 ta) := by
  intro pins s σ H R I h
  refine Call_ (ld_blt I hg hm boot_range (PyProof.Rows.callWith_type1 (thn (ha pos pins s σ H _ I h) fun us s1 ⟨vs, H1, I1, r1, q1⟩ => ?_) hs hpl))
  obtain ⟨i, j, l, rfl, ⟨h0, hl⟩, q⟩ := argI3_of q1
  obtain ⟨t, t', t'', rfl⟩ := vals_i3 r1
  exact call_range_3 h0 (rng_it (I1.kept (t' := _) fun b o e => Heap.get?_push_of_some _ e) (IsRange.new ..) q) (.inl (PyProof.noPylong_of_log2 hl))
/-- a range as a value -/
def cRngV (ta : TA) : TE := fun σ H Q => ta σ H (argI2 fun i j H1 => ∀ p, H1 p = none → Q (.ref p) (upd H1 p (.rng i j)))
def cRngV1 (ta : TA) : TE := fun σ H Q => ta σ H (argI fun j H1 => ∀ p, H1 p = none → Q (.ref p) (upd H1 p (.rng 0 j)))
theorem ce_range2 {a b : Expr} {ta : TA} {p pos : Pos} (hg : Gl X "range") (hm : X.mg "range" = none) (ha : PA X [a, b] ta) (hs : starEach [a, b] X.env = [(false, eval a X.env), (false, eval b X.env)] := by rfl) (hs2 : starEach [b] X.env = [(false, eval b X.env)] := by rfl) :
    PE X (.Call (.Name "range" p) [a, b] [] pos) (cRngV ta) := by
  intro pins s σ H Q I h
  refine Call_ (ld_blt I hg hm boot_range (PyProof.Rows.callWith_type1 (thn (ha pos pins s σ H _ I h) fun us s1 ⟨vs, H1, I1, r1, q1⟩ => ?_) (by rw [hs, hs2]) (by rw [hs2]; rfl)))
  obtain ⟨i, j, rfl, q⟩ := argI2_of q1
  obtain ⟨t, t', rfl⟩ := vals_i2 r1
  refine call_range_2 ⟨.ref s1.heap.objs.size, upd H1 s1.heap.objs.size (.rng i j), I1.laid (fun b o e => Heap.get?_push_of_some _ e) (Nat.le_refl _) ⟨_, _, _, Heap.get?_push_size _ rfl⟩, rfl, q _ (I1.hok.fresh (Nat.le_refl _))⟩
theorem ce_range1 {a : Expr} {ta : TA} {p pos : Pos} (hg : Gl X "range") (hm : X.mg "range" = none) (ha : PA X [a] ta) (hs : starEach [a] X.env = [(false, eval a X.env)] := by rfl) :
    PE X (.Call (.Name "range" p) [a] [] pos) (cRngV1 ta) := by
  intro pins s σ H Q I h
  refine Call_ (ld_blt I hg hm boot_range (PyProof.Rows.callWith_type1 (thn (ha pos pins s σ H _ I h) fun us s1 ⟨vs, H1, I1, r1, q1⟩ => ?_) hs rfl))
  obtain ⟨j, rfl, q⟩ := argI_of q1
  obtain ⟨t, rfl⟩ := vals_i1 r1
  refine call_range_1 ⟨.ref s1.heap.objs.size, upd H1 s1.heap.objs.size (.rng 0 j), I1.laid (fun b o e => Heap.get?_push_of_some _ e) (Nat.le_refl _) ⟨_, _, _, Heap.get?_push_size _ rfl⟩, rfl, q _ (I1.hok.fresh (Nat.le_refl _))⟩
end
end L2

namespace PySem
open Sem (wp)
/-! list(range(..)) over ints of any size: the long iterator's way -/
section
variable {prog : Program} {w : World} {A : Around} {E : Value → Shared → Prop} {s : Shared}
theorem lng_extend {R : Result → Shared → Prop} {r : Addr} {a b c : Int} {t u v : Tok} {k : Nat} (hnd : A.handled = none) (hr : IsRange s.heap r a b c t u v) (hbig : Builtin.Range.small a b c = false)
    (hk : Builtin.Range.rangeSize a b c = k) (hle : k ≤ 2 ^ 24) (D : Addr) (z : Value) (m₀ : Nat) (hD : s.heap.get? D = some { cls := .type "list", data := .seq #[] m₀ })
    (hR : ∀ g tk xs m, (∀ b o, b ≠ D → s.heap.get? b = some o → g.get? b = some o) → g.get? D = some { cls := .type "list", dict := none, data := .seq xs m, slots := #[] } →
      ItemsOf (fun i v => ∃ t, v = .int (a + i * c) t) xs k → R (.ok (.ret z)) { s with heap := g, toks := tk }) :
    wpAny (model prog w) A.in1 (Builtin.List.listExtendWith (.ref D) (.ref r) z)
      (fun fin s' => match fin with | .done f => R (.ok f) s' | .again d => d.quiet = true ∧ codeAny (model prog w) A d R s') (fun e s' => R (.error e) s') s := by
  have nDr : D ≠ r := fun e => by rw [e, hr] at hD; simp at hD
  have nDI : D ≠ s.heap.objs.size := Nat.ne_of_lt (Heap.lt_size hD)
  have nDf : D ∉ [s.heap.objs.size] := fun q => nDI (List.mem_singleton.mp q)
  have Wk := (Walks.longrange (prog := prog) (w := w) (A := A.in1) hnd s.heap.objs.size a c k).toS
  have fin : ∀ (g : Heap) (m₁ tk : Nat), IsLongIter g s.heap.objs.size (a + ((0 : Nat) : Int) * c) ((k : Int) - ((0 : Nat) : Int)) c → (∀ b o, b ≠ D → s.heap.get? b = some o → g.get? b = some o) →
      g.get? D = some { cls := .type "list", data := .seq #[] m₁ } → codeAny (model prog w) A (.builtin "list.extend.loop" ⟨[.ref D, .ref s.heap.objs.size, z], []⟩) R { s with heap := g, toks := tk } := by
    intro g m₁ tk q1 q2 q3
    refine codeAny_extend_loopS Wk (by rw [sizeLine_eq]; omega) D nDf z k 0 _ #[] m₁ rfl (Nat.zero_le _) q1 q3 (ItemsOf.nil _) fun s' xs m hm hD' hx => ?_
    rw [Moved.eq_with hm]
    refine hR s'.heap s'.toks xs m (fun b o hb e => hm.heap b o (fun hq => ?_) (q2 b o hb e)) hD' hx
    rcases List.mem_cons.mp hq with e' | hq
    · exact hb e'
    · exact absurd (Heap.lt_size e) (by rw [List.mem_singleton.mp hq]; exact Nat.lt_irrefl _)
  unfold Builtin.List.listExtendWith
  refine wpAny_bind (wpAny_typeOf (T := "range") ⟨_, hr, rfl⟩ ?_)
  have x1 : Builtin.List.listSameRef (.ref D) (.ref r) = false := by simp [Builtin.List.listSameRef, nDr]
  have x2 : (Value.type "range" == Value.type "list") = false := by decide
  have x3 : (Value.type "range" == Value.type "tuple") = false := by decide
  simp only [x1, x2, x3, Bool.or_false, Bool.false_eq_true, if_false]
  refine wpAny_bind (wpAny_pyIter_longrange hr hbig ?_)
  refine wpAny_bind (wpAny_holding (wpAny_hint_range (n := k) (Heap.get?_push_of_some _ hr) hk hle ?_))
  generalize hG : s.heap.push { cls := .type "longrange_iterator", data := .fields #[rawInt a, rawInt (Builtin.Range.rangeSize a b c), rawInt c] } = G
  have i1 : IsLongIter G s.heap.objs.size (a + ((0 : Nat) : Int) * c) ((k : Int) - ((0 : Nat) : Int)) c := by
    have q : G.get? s.heap.objs.size = some { cls := .type "longrange_iterator", data := .fields #[rawInt a, rawInt (Builtin.Range.rangeSize a b c), rawInt c] } := by rw [← hG]; exact Heap.get?_push_size _ rfl
    rw [hk] at q
    show G.get? _ = _
    rw [q]; simp
  have old : ∀ b o, s.heap.get? b = some o → G.get? b = some o := fun b o e => by rw [← hG]; exact Heap.get?_push_of_some _ e
  have d1 := old D _ hD
  refine wpAny_ite_split (fun _ => ?_) (fun _ => wpAny_pure ⟨plainId_quiet F.plain_extend_loop _, fin _ m₀ _ i1 (fun b o _ e => old b o e) d1⟩)
  refine wpAny_bind (wpAny_rule ?_)
  refine wpAny_bind ?_
  show wpAny _ _ (updateSeq D (·.push .none) >>= fun _ => updateSeq D (·.pop)) _ _ _
  refine wpAny_bind (wpAny_updateSeq d1 rfl ?_)
  have d2 := Heap.get?_update_self (Obj.mapSeq (·.push Value.none)) d1 rfl
  refine wpAny_updateSeq (hz := by seq_fits) d2 rfl ?_
  have d3 := Heap.get?_update_self (Obj.mapSeq (·.pop)) d2 rfl
  refine wpAny_pure ⟨plainId_quiet F.plain_extend_loop _, fin _ _ _ ?_ (fun b o hb e => ?_) d3⟩
  · exact (Heap.get?_update_other _ _ nDI).trans ((Heap.get?_update_other _ _ nDI).trans i1)
  · exact (Heap.get?_update_other _ _ (Ne.symm hb)).trans ((Heap.get?_update_other _ _ (Ne.symm hb)).trans (old b o e))
theorem any_extend {R : Result → Shared → Prop} {r : Addr} {a b c : Int} {t u v : Tok} {k : Nat} (hnd : A.handled = none) (hr : IsRange s.heap r a b c t u v)
    (hk : Builtin.Range.rangeSize a b c = k) (hle : k ≤ 2 ^ 24) (D : Addr) (z : Value) (m₀ : Nat) (hD : s.heap.get? D = some { cls := .type "list", data := .seq #[] m₀ })
    (hR : ∀ g tk xs m, (∀ b o, b ≠ D → s.heap.get? b = some o → g.get? b = some o) → g.get? D = some { cls := .type "list", dict := none, data := .seq xs m, slots := #[] } →
      ItemsOf (fun i v => ∃ t, v = .int (a + i * c) t) xs k → R (.ok (.ret z)) { s with heap := g, toks := tk }) :
    wpAny (model prog w) A.in1 (Builtin.List.listExtendWith (.ref D) (.ref r) z)
      (fun fin s' => match fin with | .done f => R (.ok f) s' | .again d => d.quiet = true ∧ codeAny (model prog w) A d R s') (fun e s' => R (.error e) s') s := by
  cases hs : Builtin.Range.small a b c with
  | true => exact wpAny_extend_range hnd hr hs hk hle D z m₀ hD hR
  | false => exact lng_extend hnd hr hs hk hle D z m₀ hD hR
theorem any_list_range {Q : Value → Shared → Prop} {r : Addr} {a b c : Int} {t u v : Tok} {k : Nat} (hnd : A.handled = none) (hr : IsRange s.heap r a b c t u v)
    (hk : Builtin.Range.rangeSize a b c = k) (hle : k ≤ 2 ^ 24)
    (hQ : ∀ g tk xs m, (∀ b o, s.heap.get? b = some o → g.get? b = some o) →
      g.get? s.heap.objs.size = some { cls := .type "list", dict := none, data := .seq xs m, slots := #[] } → ItemsOf (fun i v => ∃ t, v = .int (a + i * c) t) xs k → Q (.ref s.heap.objs.size) { s with heap := g, toks := tk }) :
    wpAny (model prog w) A (call (.type "list") [.ref r]) Q E s := by
  refine callType_codes (Q₁ := fun obj s₁ => obj = .ref s.heap.objs.size ∧ s₁ = { s with heap := s.heap.push { cls := .type "list", data := .seq #[] } }) F.called_list (F.typeCall_list_1 _) F.entry_list_init
    (code_list_new _ ⟨rfl, rfl⟩) fun obj s₁ q₁ => ?_
  obtain ⟨rfl, rfl⟩ := q₁
  generalize hG : s.heap.push { cls := .type "list", data := .seq #[] } = G
  have old : ∀ b o, s.heap.get? b = some o → G.get? b = some o := fun b o e => by rw [← hG]; exact Heap.get?_push_of_some _ e
  have hD : G.get? s.heap.objs.size = some { cls := .type "list", data := .seq #[] } := by rw [← hG]; exact Heap.get?_push_size _ rfl
  have nDr : s.heap.objs.size ≠ r := fun e => absurd (Heap.lt_size hr) (by rw [← e]; exact Nat.lt_irrefl _)
  refine ⟨⟨_, hD, rfl⟩, F.args_list_init_2 _ _, ?_⟩
  show wpAny _ _ (do let old ← Builtin.List.listItems (.ref s.heap.objs.size); Builtin.List.listUpdate (.ref s.heap.objs.size) (fun _ => #[]); letGo old.toList.reverse; Builtin.List.listExtendWith (.ref s.heap.objs.size) (.ref r) .none) _ _ _
  refine wpAny_bind ?_
  unfold Builtin.List.listItems
  refine wpAny_bind (wpAny_seqItems hD rfl (wpAny_pure ?_))
  show wpAny _ _ (updateSeq s.heap.objs.size (fun _ => #[]) >>= fun _ => letGo (#[] : Array Value).toList.reverse >>= fun _ => Builtin.List.listExtendWith (.ref s.heap.objs.size) (.ref r) .none) _ _ _
  refine wpAny_bind (wpAny_updateSeq hD rfl ?_)
  have d2 := Heap.get?_update_self (Obj.mapSeq (fun _ => (#[] : Array Value))) hD rfl
  have oth : ∀ b o, b ≠ s.heap.objs.size → G.get? b = some o → (G.update s.heap.objs.size (Obj.mapSeq (fun _ => (#[] : Array Value)))).get? b = some o :=
    fun b o hb e => (Heap.get?_update_other _ _ (Ne.symm hb)).trans e
  refine wpAny_bind (wpAny_letGo ?_)
  refine any_extend (A := A.in1) hnd (oth r _ (Ne.symm nDr) (old r _ hr)) hk hle s.heap.objs.size .none _ d2 fun g tk xs m q1 q2 q3 => ⟨rfl, ?_⟩
  exact hQ g tk xs m (fun b o e => q1 b o (Nat.ne_of_lt (Heap.lt_size e)) (oth b o (Nat.ne_of_lt (Heap.lt_size e)) (old b o e))) q2 q3
end
end PySem
namespace L2
open PySem PySem.Spec PyProof.Rows
/-- the ints of a range by ones -/
def rngV (lo : Int) (n : Nat) : List V := (List.range n).map fun (i : Nat) => V.int (lo + (i : Int))
theorem rngV_length (lo : Int) (n : Nat) : (rngV lo n).length = n := by simp [rngV]
theorem vals_of_get : ∀ {xs : List V} {us : List Value}, xs.length = us.length → (∀ (j : Nat) (x : V) (u : Value), xs[j]? = some x → us[j]? = some u → RelV x u) → Vals xs us
  | [], [], _, _ => .nil
  | [], _ :: _, h, _ => by simp at h
  | _ :: _, [], h, _ => by simp at h
  | x :: xs, u :: us, h, k => .cons (k 0 x u rfl rfl) (vals_of_get (by simpa using h) fun j y v e1 e2 => k (j + 1) y v (by simpa using e1) (by simpa using e2))
theorem items_vals {lo : Int} {n : Nat} {xs : Array Value} (h : ItemsOf (fun i v => ∃ t, v = .int (lo + (i : Int) * 1) t) xs n) : Vals (rngV lo n) xs.toList := by
  obtain ⟨hl, hv⟩ := h
  refine vals_of_get (by rw [rngV_length]; simp [hl]) fun j x u e1 e2 => ?_
  obtain ⟨t, rfl⟩ := hv j u (by simpa using e2)
  unfold rngV at e1
  rw [List.getElem?_map] at e1
  cases q : (List.range n)[j]? with
  | none => rw [q] at e1; cases e1
  | some i =>
    rw [q] at e1
    have e3 : i = j := by
      obtain ⟨h1, h2⟩ := List.getElem?_eq_some_iff.mp q
      rw [List.getElem_range] at h2; exact h2.symm
    subst e3
    cases e1
    exact ⟨t, by rw [Int.mul_one]⟩
section
variable {X : Cx}
theorem call_list_rng (hc : X.calm = true) : CallR X (.type "list") (fun xs H Q => ∃ p lo hi, xs = [.ref p] ∧ H p = some (.rng lo hi) ∧ rngN lo hi 1 ≤ 2 ^ 24 ∧ ∀ l, H l = none → Q (.ref l) (upd H l (.lst (rngV lo (rngN lo hi 1))))) := by
  intro pins s σ H xs us Q I r h
  obtain ⟨p, lo, hi, rfl, hp, hz, q⟩ := h
  obtain ⟨u, rfl, ru⟩ := Vals.one r
  cases ru
  obtain ⟨t, u, v, hr⟩ := I.hok p _ hp
  refine any_list_range (I.ok.hd hc) hr (rngN_cast lo hi 1).symm hz fun g tk xs m k1 k2 k3 => ?_
  have fr : H s.heap.objs.size = none := I.hok.fresh (Nat.le_refl _)
  refine ⟨.ref s.heap.objs.size, upd H s.heap.objs.size (.lst (rngV lo (rngN lo hi 1))), I.laid (h' := g) (t' := tk) k1 (Nat.le_refl _) ⟨?_, xs.toList, m, items_vals k3, by simpa using k2⟩, rfl, q _ fr⟩
  rw [rngV_length, sizeLine_eq]
  omega
end
end L2

/-! DATA: what a value is worth, lists and tuples within one another; == and != of them; isinstance; a base's method. -/
namespace L2
open PySem PySem.Spec PyProof.Rows
mutual
inductive Rp (K : PySem.W.Frag) (H : Hp) : V → PyData → Prop
  | non : Rp K H .non .none
  | bl (b : Bool) : Rp K H (.bl b) (.bool b)
  | int (i : Int) : Rp K H (.int i) (.int i)
  | str (x : Str) : Rp K H (.str x) (.str x)
  | lst {a : Addr} {xs : List V} {ds : List PyData} : SqL K H a xs → Rps K H xs ds → Rp K H (.ref a) (.list ds)
  | tup {a : Addr} {xs : List V} {ds : List PyData} : SqT K H a xs → Rps K H xs ds → Rp K H (.ref a) (.tuple ds)
inductive Rps (K : PySem.W.Frag) (H : Hp) : List V → List PyData → Prop
  | nil : Rps K H [] []
  | cons {x : V} {d : PyData} {xs : List V} {ds : List PyData} : Rp K H x d → Rps K H xs ds → Rps K H (x :: xs) (d :: ds)
end
theorem Same.seqT {K : PySem.W.Frag} {H H' : Hp} {a : Addr} {xs : List V} (e : Same H H') (h : SqT K H a xs) : SqT K H' a xs := by
  rcases h with (h | ⟨o, h⟩) | h
  · exact .inl (.inl (e _ _ h))
  · exact .inl (.inr ⟨o, e _ _ h⟩)
  · exact .inr h
mutual
theorem Rp.same {K : PySem.W.Frag} {H H' : Hp} (e : Same H H') : ∀ {v : V} {d : PyData}, Rp K H v d → Rp K H' v d
  | _, _, .non => .non
  | _, _, .bl b => .bl b
  | _, _, .int i => .int i
  | _, _, .str x => .str x
  | _, _, .lst q r => .lst (e.seq q) (Rps.same e r)
  | _, _, .tup q r => .tup (e.seqT q) (Rps.same e r)
theorem Rps.same {K : PySem.W.Frag} {H H' : Hp} (e : Same H H') : ∀ {v : List V} {d : List PyData}, Rps K H v d → Rps K H' v d
  | _, _, .nil => .nil
  | _, _, .cons q r => .cons (Rp.same e q) (Rps.same e r)
end
theorem Rps.ints {K : PySem.W.Frag} {H : Hp} : ∀ ns : List Int, Rps K H (ns.map V.int) (ns.map PyData.int)
  | [] => .nil
  | i :: r => .cons (.int i) (Rps.ints r)
theorem Rp.ints {K : PySem.W.Frag} {H : Hp} {a : Addr} {ns : List Int} (h : SqL K H a (ns.map V.int)) : Rp K H (.ref a) (.list (ns.map PyData.int)) := .lst h (.ints ns)
section
variable {X : Cx} {pins : List (Addr × Obj)} {σ : St} {H : Hp} {s : Shared}
mutual
theorem Rp.reads (I : Inv X pins σ H s) : ∀ {v : V} {d : PyData} {u : Value}, Rp X.K H v d → RelV v u → ∃ as, Reads s.heap u d as
  | _, _, u, .non, r => by cases (show u = Value.none from r); exact ⟨_, .none⟩
  | _, _, u, .bl b, r => by cases (show u = Value.bool b from r); exact ⟨_, .bool b⟩
  | _, _, u, .int i, r => by obtain ⟨t, e⟩ := (show ∃ t, u = Value.int i t from r); subst e; exact ⟨_, .int i t⟩
  | _, _, u, .str x, r => by obtain ⟨t, e⟩ := (show ∃ t, u = Value.str x t from r); subst e; exact ⟨_, .str x t⟩
  | _, _, u, .lst (a := a) q rr, r => by
    cases (show u = Value.ref a from r)
    obtain ⟨its, rv, p, hz⟩ := I.list q
    obtain ⟨as, ra⟩ := Rps.reads I rr rv
    obtain ⟨o, ho, hc, n, hd⟩ := p.isList
    exact ⟨_, .list ho hc hd (by simpa using ra)⟩
  | _, _, u, .tup (a := a) q rr, r => by
    cases (show u = Value.ref a from r)
    obtain ⟨its, rv, p, hz⟩ := I.tuple q
    obtain ⟨as, ra⟩ := Rps.reads I rr rv
    obtain ⟨o, ho, hc, n, hd⟩ := p
    exact ⟨_, .tuple ho hc hd (by simpa using ra)⟩
theorem Rps.reads (I : Inv X pins σ H s) : ∀ {v : List V} {d : List PyData} {u : List Value}, Rps X.K H v d → Vals v u → ∃ as, ReadsAll s.heap u d as
  | _, _, _, .nil, .nil => ⟨_, .nil⟩
  | _, _, _, .cons q rr, .cons r t => by
    obtain ⟨as, h1⟩ := Rp.reads I q r
    obtain ⟨bs, h2⟩ := Rps.reads I rr t
    exact ⟨_, .cons h1 h2⟩
end
end
/-- == and != by data -/
def rDeq (K : PySem.W.Frag) (f : Bool → Bool) : R2 := fun x y H Q => ∃ da db, Rp K H x da ∧ Rp K H y db ∧ SeqAt.shaped da = true ∧ SeqAt.shaped db = true ∧ Q (.bl (f (PyData.eqv da db))) H
section
variable {X : Cx}
theorem o_deq (hu : X.A.units + 64 < cLine) : OpR X (compareOp .Eq) (rDeq X.K fun b => b) := by
  intro pins s σ H x y v u Q I rx ry q
  obtain ⟨da, db, hx, hy, sa, sb, q⟩ := q
  obtain ⟨as, ra⟩ := hx.reads I rx
  obtain ⟨bs, rb⟩ := hy.reads I ry
  exact eq_dataH ra rb sa sb hu ⟨.bl (PyData.eqv da db), H, I, rfl, q⟩
theorem o_dne (hu : X.A.units + 64 < cLine) : OpR X (compareOp .NotEq) (rDeq X.K fun b => !b) := by
  intro pins s σ H x y v u Q I rx ry q
  obtain ⟨da, db, hx, hy, sa, sb, q⟩ := q
  obtain ⟨as, ra⟩ := hx.reads I rx
  obtain ⟨bs, rb⟩ := hy.reads I ry
  exact ne_dataH ra rb sa sb hu ⟨.bl (!PyData.eqv da db), H, I, rfl, q⟩
/-- lists of ints -/
def rLeq (K : PySem.W.Frag) (f : Bool → Bool) : R2 := fun x y H Q => ∃ (a b : Addr) (ns ms : List Int), x = .ref a ∧ y = .ref b ∧ SqL K H a (ns.map V.int) ∧ SqL K H b (ms.map V.int) ∧ Q (.bl (f (decide (ns = ms)))) H
theorem leq_imp {K : PySem.W.Frag} {f : Bool → Bool} {x y : V} {H : Hp} {Q : VK} (q : rLeq K f x y H Q) : rDeq K f x y H Q := by
  obtain ⟨a, b, ns, ms, rfl, rfl, ha, hb, q⟩ := q
  refine ⟨_, _, .ints ha, .ints hb, PySem.W.ke_shaped_ints ns, PySem.W.ke_shaped_ints ms, ?_⟩
  have e : PyData.eqv (.list (ns.map PyData.int)) (.list (ms.map PyData.int)) = decide (ns = ms) := PySem.W.ked_eqvAll ns ms
  rw [e]; exact q
theorem o_leq (hu : X.A.units + 64 < cLine) : OpR X (compareOp .Eq) (rLeq X.K fun b => b) := (o_deq hu).imp fun _ _ _ _ => leq_imp
theorem o_lne (hu : X.A.units + 64 < cLine) : OpR X (compareOp .NotEq) (rLeq X.K fun b => !b) := (o_dne hu).imp fun _ _ _ _ => leq_imp
/-- isinstance(x, C): C a built-in type or a class of the text -/
def clsV : V → Option Value
  | .ty n => some (.type n)
  | .ref a => some (.ref a)
  | _ => none
theorem clsV_rel {c : V} {cv v : Value} (h : clsV c = some cv) (r : RelV c v) : v = cv := by
  cases c with
  | ref a => cases h; exact r
  | ty n => cases h; exact r
  | _ => cases h
def rIsi (K : PySem.W.Frag) : List V → Hp → VK → Prop := fun xs H Q => ∃ x c t cv b, xs = [x, c] ∧ clsV c = some cv ∧ TyOf K H x t ∧ PySem.W.kitOne K t cv = some b ∧ Q (.bl b) H
theorem call_isi : CallR X (.builtin "isinstance") (rIsi X.K) := by
  intro pins s σ H xs us Q I r h
  obtain ⟨x, c, t, cv, b, rfl, rc, ty, e, q⟩ := h
  obtain ⟨u, v, rfl, ru, rv⟩ := Vals.two r
  have e2 := clsV_rel rc rv
  subst e2
  exact isinst_ok I ru ty e fun tk => ⟨.bl b, H, I.tok _, rfl, q⟩
/-- C.m(e, ..), C a class of the text, m a def of it -/
structure ClsM (K : PySem.W.Frag) (C : Addr) (m : Str) (f : Addr) : Prop where
  sp : PySem.W.specialIn K (.ref C) "__getattribute__" = some (some (.builtin "type.__getattribute__"))
  rd : PySem.W.readsIn K C (.type "type") = true
  fd : PySem.W.findCls K (.ref C) (.type "type") m = some (.val (.ref f))
  kp : PySem.W.keepIn K (.ref f) = true
theorem pe_base {x m : Str} {C f : Addr} {fd : FuncData} {ps : List Str} {sp : Sp} {dvs : List V} {ds : List Value} {E : XK} {CX : CXT} {k : Nat} {p apos pos : Pos} {e : Expr} {es : List Expr} {t : TA} {pl : Sem Bool}
    (hg : Gl X x) (hm : X.mg x = some (.ref C)) (M : ClsM X.K C m f) (F : FnOk X.prog X.w X.K X.mg X.base CX k f fd ps sp) (hr : Room k X.A) (hb : Binds X.K fd ps ds) (hd : Vals dvs ds) (hx : Passes CX X E) (ha : PA X (e :: es) t)
    (hst : starEach (e :: es) X.env = (false, eval e X.env) :: starEach es X.env := by rfl) (hpl : (backTo pos (starEach es X.env)).any (·.1) = false := by rfl) (hdb : (x == ("__debug__" : Str)) = false := by decide)
    (ht : eval (.Call (.Attribute (.Name x p) m apos) (e :: es) [] pos) X.env = (do
      let ov ← eval (.Name x p) X.env
      standAt apos.atName
      let (f, first) ← holding [ov] (getMethod ov m pl)
      callWith pos f first (backTo pos (starEach (e :: es) X.env)) (backToKw pos (keywordEach [] X.env))) := by rfl) :
    PE X (.Call (.Attribute (.Name x p) m apos) (e :: es) [] pos) (tCall sp dvs E t) := by
  intro pins s σ H Q I h
  refine PySem.W.methodCall_KW (pl := pl) (ld_glob I hg hm ?_ hdb) ht
  refine PySem.W.method_cls I.kIn M.sp (PySem.W.cls_value I.kIn M.rd M.fd rfl ?_)
  have I1 := I.tok (s.toks + 1)
  refine PySem.W.callWith_K (first := []) (h₀ := X.base) I.ok.mod.kin M.kp (thn (ha pos pins _ σ H _ I1 h) fun us s2 ⟨vs, H2, I2, r, q2⟩ => ⟨I2.kIn, ?_⟩) hst hpl
  exact run_fn F hr hb hd hx I2 r q2
end
end L2

namespace L2
open PySem PySem.Spec PyProof.Rows
/-! the built-in names -/
theorem bt_len : bootBuiltins "len" = some (.builtin "len") := by decide +kernel
theorem bt_max : bootBuiltins "max" = some (.builtin "max") := by decide +kernel
theorem bt_min : bootBuiltins "min" = some (.builtin "min") := by decide +kernel
theorem bt_abs : bootBuiltins "abs" = some (.builtin "abs") := by decide +kernel
theorem bt_isinstance : bootBuiltins "isinstance" = some (.builtin "isinstance") := by decide +kernel
theorem bt_sorted : bootBuiltins "sorted" = some (.builtin "sorted") := by decide +kernel
theorem bt_sum : bootBuiltins "sum" = some (.builtin "sum") := by decide +kernel
theorem bt_any : bootBuiltins "any" = some (.builtin "any") := by decide +kernel
theorem bt_all : bootBuiltins "all" = some (.builtin "all") := by decide +kernel
theorem bt_list : bootBuiltins "list" = some (.type "list") := by decide +kernel
theorem bt_tuple : bootBuiltins "tuple" = some (.type "tuple") := by decide +kernel
theorem bt_int : bootBuiltins "int" = some (.type "int") := by decide +kernel
theorem bt_bool : bootBuiltins "bool" = some (.type "bool") := by decide +kernel
theorem bt_str : bootBuiltins "str" = some (.type "str") := by decide +kernel
theorem bt_dict : bootBuiltins "dict" = some (.type "dict") := by decide +kernel
theorem bt_range : bootBuiltins "range" = some (.type "range") := by decide +kernel
theorem bt_enumerate : bootBuiltins "enumerate" = some (.type "enumerate") := by decide +kernel
theorem bt_zip : bootBuiltins "zip" = some (.type "zip") := by decide +kernel
theorem bt_reversed : bootBuiltins "reversed" = some (.type "reversed") := by decide +kernel
/-- few attributes -/
theorem few_put {f : Str} {v : V} {fs : List (Str × V)} {n : Nat} (h : fs.length < n) : (putF f v fs).length < n + 1 := Nat.lt_of_le_of_lt (length_putF f v fs) (by omega)
section
variable {X : Cx} {a b c : Expr} {ta tb : TE} {pos : Pos}
/-! max, min of two ints -/
theorem c_max2 (hc : X.calm = true) : CallR X (.builtin "max") (fun xs H Q => argI2 (fun i j H1 => Q (.int (max i j)) H1) xs H) := (call_max2 hc).imp fun xs H Q q => by
  obtain ⟨i, j, rfl, q⟩ := argI2_of q
  refine ⟨i, j, rfl, ?_⟩
  have e : (if j > i then j else i) = max i j := by split <;> omega
  rw [e]; exact q
theorem c_min2 (hc : X.calm = true) : CallR X (.builtin "min") (fun xs H Q => argI2 (fun i j H1 => Q (.int (min i j)) H1) xs H) := (call_min2 hc).imp fun xs H Q q => by
  obtain ⟨i, j, rfl, q⟩ := argI2_of q
  refine ⟨i, j, rfl, ?_⟩
  have e : (if j < i then j else i) = min i j := by split <;> omega
  rw [e]; exact q
theorem c_abs : CallR X (.builtin "abs") (fun xs H Q => argI (fun i H1 => Q (.int (i.natAbs : Int)) H1) xs H) := call_abs.imp fun xs H Q q => by
  obtain ⟨i, rfl, q⟩ := argI_of q
  refine ⟨i, rfl, ?_⟩
  have e : (if i < 0 then -i else i) = (i.natAbs : Int) := by split <;> omega
  rw [e]; exact q
/-! is None -/
def isN : V → Bool
  | .non => true
  | _ => false
theorem isN_dec (x : V) : decide (x = .non) = isN x := by cases x <;> simp [isN]
def cIsN (ta : TE) : TE := fun σ H Q => ta σ H fun x H1 => Q (.bl (isN x)) H1
def cNotN (ta : TE) : TE := fun σ H Q => ta σ H fun x H1 => Q (.bl (!isN x)) H1
theorem ce_isN {j pos'} (ha : PE X a ta) : PE X (.Compare a [.Is] [.Constant .none j pos'] pos) (cIsN ta) := (pe_cmp (pc_isN ha)).imp fun σ H Q q => by
  show ta σ H _
  have e : (fun x H1 => Q (.bl (decide (x = V.non))) H1) = fun x H1 => Q (.bl (isN x)) H1 := by funext x H1; rw [isN_dec]
  rw [e]; exact q
theorem ce_notN {j pos'} (ha : PE X a ta) : PE X (.Compare a [.IsNot] [.Constant .none j pos'] pos) (cNotN ta) := (pe_cmp (pc_notN ha)).imp fun σ H Q q => by
  show ta σ H _
  have e : (fun x H1 => Q (.bl (!decide (x = V.non))) H1) = fun x H1 => Q (.bl (!isN x)) H1 := by funext x H1; rw [isN_dec]
  rw [e]; exact q
def cTIsN (ta : TE) : TT := fun σ H Q => ta σ H fun x H1 => Q (isN x) H1
def cTNotN (ta : TE) : TT := fun σ H Q => ta σ H fun x H1 => Q (!isN x) H1
theorem ct_isN {j pos'} (ha : PE X a ta) : PT X (.Compare a [.Is] [.Constant .none j pos'] pos) (cTIsN ta) := (pt_cmp (pc_isN ha)).imp fun σ H Q q => by
  show ta σ H _
  have e : (fun x H1 => ∃ c, V.bl (decide (x = V.non)) = .bl c ∧ Q c H1) = fun x H1 => Q (isN x) H1 := by
    funext x H1; rw [isN_dec]; apply propext; exact ⟨fun ⟨c, e, q⟩ => by cases e; exact q, fun q => ⟨_, rfl, q⟩⟩
  rw [e]; exact q
theorem ct_notN {j pos'} (ha : PE X a ta) : PT X (.Compare a [.IsNot] [.Constant .none j pos'] pos) (cTNotN ta) := (pt_cmp (pc_notN ha)).imp fun σ H Q q => by
  show ta σ H _
  have e : (fun x H1 => ∃ c, V.bl (!decide (x = V.non)) = .bl c ∧ Q c H1) = fun x H1 => Q (!isN x) H1 := by
    funext x H1; rw [isN_dec]; apply propext; exact ⟨fun ⟨c, e, q⟩ => by cases e; exact q, fun q => ⟨_, rfl, q⟩⟩
  rw [e]; exact q
/-- == of two bools -/
def kB0 (g : Bool → Bool → V) : R2 := fun x y H Q => match x with
  | .bl i => (match y with
    | .bl j => Q (g i j) H
    | _ => False)
  | _ => False
theorem kB0_imp {g : Bool → Bool → V} {x y : V} {H : Hp} {Q : VK} (q : kB0 g x y H Q) : ∃ i j, x = .bl i ∧ y = .bl j ∧ Q (g i j) H := by
  cases x with
  | bl i =>
    cases y with
    | bl j => exact ⟨i, j, rfl, rfl, q⟩
    | _ => exact False.elim q
  | _ => exact False.elim q
theorem o_eqB : OpR X (compareOp .Eq) (kB0 fun i j => .bl (decide (i = j))) := op_eq.imp fun x y H Q q => by
  obtain ⟨i, j, rfl, rfl, q⟩ := kB0_imp q
  exact ⟨rfl, by rw [dec_V (p := i = j) ⟨fun e => V.bl.inj e, fun e => by rw [e]⟩]; exact q⟩
theorem o_neB : OpR X (compareOp .NotEq) (kB0 fun i j => .bl (!decide (i = j))) := op_ne.imp fun x y H Q q => by
  obtain ⟨i, j, rfl, rfl, q⟩ := kB0_imp q
  exact ⟨rfl, by rw [dec_V (p := i = j) ⟨fun e => V.bl.inj e, fun e => by rw [e]⟩]; exact q⟩
/-- while -/
theorem cs_while {body : List Stmt} {tc : TT} {tb : TS} (hp : PassesOwn (model X.prog X.w) X.A X.env X.xe) (hc : PT X c tc) (hb : PSs X body tb) : PS X (.While c body [] pos) (cWhile tc tb) := by
  intro pins s σ H D I h
  unfold cWhile WhileAt at h
  obtain ⟨W, ⟨m0, w0⟩, turn⟩ := h
  refine wpAny_While (codeAny_whileLoop (fun n s' => ∃ σ' H', Inv X pins σ' H' s' ∧ W n σ' H') ?_ m0 ⟨σ, H, I, w0⟩)
  rintro n s1 ⟨σ1, H1, I1, w1⟩
  refine wpAny_passesOwn hp (thn (hc pins s1 σ1 H1 _ I1 (turn n σ1 H1 w1)) fun b s2 ⟨H2, I2, q2⟩ => ?_)
  cases b with
  | true =>
    obtain ⟨N, hN, q2⟩ := q2.1 rfl
    rw [if_pos rfl]
    refine wpAny_passesOwn hp (thn (hb pins s2 σ1 H2 _ I2 q2) fun f s3 q3 => ?_)
    cases f with
    | next =>
      obtain ⟨σ3, H3, I3, n3⟩ := q3
      obtain ⟨m', hm, w3⟩ := hN σ3 H3 n3
      exact ⟨m', hm, σ3, H3, I3, w3⟩
    | cont =>
      obtain ⟨σ3, H3, I3, n3⟩ := q3
      obtain ⟨m', hm, w3⟩ := hN σ3 H3 n3
      exact ⟨m', hm, σ3, H3, I3, w3⟩
    | brk => exact q3
    | ret v => exact q3
  | false =>
    rw [if_neg Bool.false_ne_true]
    exact wpAny_execs_nil ⟨σ1, H2, I2, q2.2 rfl⟩
end
/-! the forms one uses -/
theorem forAt_its {lo st : Int} {n : Nat} {g : TG} {tb : TS} {D : Ends} {σ : St} {H : Hp} (Pv : Nat → St → Hp → Prop) (h0 : Pv 0 σ H)
    (hs : ∀ (i : Nat) σ H, i < n → Pv i σ H → g (.int (lo + i * st)) σ H fun σ2 H2 => tb { D with nx := Pv (i + 1), ct := Pv (i + 1), bk := D.nx } σ2 H2) (hd : ∀ σ H, Pv n σ H → D.nx σ H) : ForAt (Its lo st n) g tb D σ H := by
  unfold ForAt
  refine ⟨fun i m σ H => m = n - i ∧ i ≤ n ∧ Pv i σ H, ⟨n, by simp, Nat.zero_le _, h0⟩, ?_⟩
  rintro i m σ H ⟨rfl, hi, p⟩
  by_cases hlt : i < n
  · refine .inr ⟨hlt, Pv (i + 1), fun σ' H' p' => ⟨n - (i + 1), by omega, rfl, hlt, p'⟩, fun x H' y => ?_⟩
    obtain ⟨e, y⟩ := y
    subst e y
    exact hs i σ _ hlt p
  · have e : i = n := by omega
    subst e
    exact .inl ⟨Nat.le_refl _, hd σ H p⟩
theorem forAt_list {K : PySem.W.Frag} {l : Addr} {xs : List V} {g : TG} {tb : TS} {D : Ends} {σ : St} {H : Hp} (Pv : Nat → St → Hp → Prop) (h0 : Pv 0 σ H) (hl : ∀ i σ H, i ≤ xs.length → Pv i σ H → SqL K H l xs)
    (hs : ∀ i x σ H, xs[i]? = some x → Pv i σ H → g x σ H fun σ2 H2 => tb { D with nx := Pv (i + 1), ct := Pv (i + 1), bk := D.nx } σ2 H2) (hd : ∀ σ H, Pv xs.length σ H → D.nx σ H) : ForAt (Itl K l) g tb D σ H := by
  unfold ForAt
  exact for_list Pv h0 hl hs hd
theorem forAt_tup {K : PySem.W.Frag} {l : Addr} {xs : List V} {g : TG} {tb : TS} {D : Ends} {σ : St} {H : Hp} (Pv : Nat → St → Hp → Prop) (h0 : Pv 0 σ H) (hl : ∀ i σ H, i ≤ xs.length → Pv i σ H → SqT K H l xs)
    (hs : ∀ i x σ H, xs[i]? = some x → Pv i σ H → g x σ H fun σ2 H2 => tb { D with nx := Pv (i + 1), ct := Pv (i + 1), bk := D.nx } σ2 H2) (hd : ∀ σ H, Pv xs.length σ H → D.nx σ H) : ForAt (Itt K l) g tb D σ H := by
  unfold ForAt
  exact for_tup Pv h0 hl hs hd
theorem whileAt_by {c : TT} {tb : TS} {D : Ends} {σ : St} {H : Hp} (Pv : Nat → St → Hp → Prop) {m : Nat} (h0 : Pv m σ H)
    (hs : ∀ m σ H, Pv m σ H → c σ H fun b H1 => (b = true → tb { D with nx := fun σ' H' => ∃ m', m' < m ∧ Pv m' σ' H', ct := fun σ' H' => ∃ m', m' < m ∧ Pv m' σ' H', bk := D.nx } σ H1) ∧ (b = false → D.nx σ H1))
    (mono : ∀ σ H Q Q', (∀ b H1, Q b H1 → Q' b H1) → c σ H Q → c σ H Q') : WhileAt c tb D σ H := by
  unfold WhileAt
  refine ⟨Pv, ⟨m, h0⟩, fun m σ H p => ?_⟩
  exact mono σ H _ _ (fun b H1 q => ⟨fun e => ⟨_, fun σ' H' z => z, q.1 e⟩, q.2⟩) (hs m σ H p)
/-! heaps that grow -/
theorem Same.new {H : Hp} {p : Addr} {o : HO} (h : H p = none) : Same H (upd H p o) := fun b u e => by rw [upd_ne (ne_of_none e h)]; exact e
/-- a place that was free may be written -/
theorem Same.put {H H' : Hp} {p : Addr} {o : HO} (e : Same H H') (h : H p = none) : Same H (upd H' p o) := fun b u q => by rw [upd_ne (ne_of_none q h)]; exact e b u q
theorem Same.at {H H' : Hp} {p : Addr} {o : HO} (e : Same H H') (h : H p = some o) : H' p = some o := e p o h
/-- [f(x) for x in range(..)], f's values known -/
theorem comp_its {lo st : Int} {n : Nat} {te : TE} {caps : St} {Q : VK} {H2 : Hp} (f : Nat → V) (hn : n ≤ sizeLine)
    (hs : ∀ (i : Nat) (H3 : Hp), i < n → Same H2 H3 → ∀ R : VK, (∀ H6, Same H3 H6 → R (f i) H6) → te (some (.int (lo + i * st)) :: caps) H3 R)
    (hd : ∀ D H', H2 D = none → Same H2 H' → H' D = some (.lst ((List.range n).map f)) → Q (.ref D) H') : CompAt (Its lo st n) caps tAll te Q H2 := by
  unfold CompAt
  intro D hD
  refine ⟨fun i m acc H3 => m = n - i ∧ i ≤ n ∧ acc = (List.range i).map f ∧ H3 D = some (.lst acc) ∧ Same H2 H3, ⟨n, by simp, Nat.zero_le _, rfl, upd_same, Same.new hD⟩, ?_⟩
  rintro i m acc H3 ⟨rfl, hi, rfl, hD3, s3⟩
  refine ⟨hD3, ?_⟩
  by_cases hlt : i < n
  · refine .inr ⟨hlt, by simp; omega, fun v H4 y => ?_⟩
    obtain ⟨e, y⟩ := y
    subst e y
    refine ⟨fun _ => ?_, fun z => by cases z⟩
    refine hs i _ hlt s3 _ fun H6 s6 => ⟨s6.at hD3, n - (i + 1), by omega, rfl, hlt, ?_, upd_same, (s3.trans s6).put hD⟩
    rw [List.range_succ, List.map_append]; rfl
  · have e : i = n := by omega
    subst e
    exact .inl ⟨Nat.le_refl _, hd D H3 hD s3 hD3⟩
end L2
namespace L2
open PySem PySem.Spec PyProof.Rows
theorem Same.of_eq {H H' : Hp} {p : Addr} {o : HO} (h : H p = none) (e : upd H p o = H') : Same H H' := by rw [← e]; exact Same.new h
theorem at_of_eq {H H' : Hp} {p : Addr} {o : HO} (e : upd H p o = H') : H' p = some o := by rw [← e]; exact upd_same
theorem Same.back {H H' : Hp} {p : Addr} (e : Same H H') (h : H' p = none) : H p = none := Same.free e h
/-- a list that was made behind H0 is written: what H0 had stays -/
theorem Same.wr {H0 H H' : Hp} {p : Addr} {o : HO} (s : Same H0 H) (f : H0 p = none) (e : upd H p o = H') : Same H0 H' := by rw [← e]; exact s.put f
end L2

/-! LISTS OF LISTS of ints that stand apart. -/
namespace L2
open PySem PySem.Spec PyProof.Rows
/-- at l a list of the lists at as, which hold xss; none of them was there in H0 -/
structure LLat (H0 H : Hp) (l : Addr) (as : List Addr) (xss : List (List Int)) : Prop where
  top : H l = some (.lst (as.map V.ref))
  nd : (l :: as).Nodup
  len : as.length = xss.length
  each : ∀ (i : Nat) (a : Addr) (xs : List Int), as[i]? = some a → xss[i]? = some xs → H a = some (.lst (xs.map V.int))
  fr : H0 l = none
  frs : ∀ a ∈ as, H0 a = none
theorem LLat.same {H0 H H' : Hp} {l : Addr} {as : List Addr} {xss : List (List Int)} (L : LLat H0 H l as xss) (s : Same H H') : LLat H0 H' l as xss :=
  ⟨s.at L.top, L.nd, L.len, fun i a xs h1 h2 => s.at (L.each i a xs h1 h2), L.fr, L.frs⟩
theorem LLat.base {H0 H0' H : Hp} {l : Addr} {as : List Addr} {xss : List (List Int)} (L : LLat H0 H l as xss) (s : Same H0' H0) : LLat H0' H l as xss :=
  ⟨L.top, L.nd, L.len, L.each, s.back L.fr, fun a ha => s.back (L.frs a ha)⟩
theorem LLat.nil {H0 H H' : Hp} {l : Addr} (h : H0 l = none) (e : H l = some (.lst [])) : LLat H0 H l [] [] :=
  ⟨e, by simp, rfl, fun i a xs h1 _ => by simp at h1, h, fun a ha => by simp at ha⟩
theorem LLat.tracked {H0 H : Hp} {l : Addr} {as : List Addr} {xss : List (List Int)} (L : LLat H0 H l as xss) {a : Addr} (ha : a ∈ as) : ∃ xs : List Int, H a = some (.lst (xs.map V.int)) := by
  obtain ⟨i, hi, rfl⟩ := List.mem_iff_getElem.mp ha
  have h2 : i < xss.length := by rw [← L.len]; exact hi
  exact ⟨xss[i], L.each i _ _ (List.getElem?_eq_getElem hi) (List.getElem?_eq_getElem h2)⟩
theorem LLat.apart {H0 H : Hp} {l : Addr} {as : List Addr} {xss : List (List Int)} (L : LLat H0 H l as xss) {p : Addr} (h : H p = none) : p ∉ l :: as := by
  intro z
  rcases List.mem_cons.mp z with rfl | z
  · rw [L.top] at h; cases h
  · obtain ⟨xs, e⟩ := L.tracked z
    rw [e] at h; cases h
/-- one more list at the end -/
theorem LLat.push {H0 H H' : Hp} {l p : Addr} {as : List Addr} {xss : List (List Int)} {xs : List Int} (L : LLat H0 H l as xss) (hp : H p = some (.lst (xs.map V.int))) (hne : p ∉ l :: as) (hf : H0 p = none)
    (e : upd H l (.lst (as.map V.ref ++ [.ref p])) = H') : LLat H0 H' l (as ++ [p]) (xss ++ [xs]) := by
  subst e
  have hpl : p ≠ l := fun z => hne (by rw [z]; exact List.mem_cons_self)
  have hpa : p ∉ as := fun z => hne (List.mem_cons_of_mem _ z)
  obtain ⟨n1, n2⟩ := List.nodup_cons.mp L.nd
  refine ⟨by rw [upd_same, List.map_append]; rfl, ?_, by simp [L.len], fun i a ys h1 h2 => ?_, L.fr, fun a ha => ?_⟩
  · refine List.nodup_cons.mpr ⟨fun z => ?_, nd_snoc n2 hpa⟩
    rcases List.mem_append.mp z with z | z
    · exact n1 z
    · exact hpl (List.mem_singleton.mp z).symm
  · have hla : a ∈ as ++ [p] := List.mem_of_getElem? h1
    have nal : a ≠ l := fun z => by
      subst z
      rcases List.mem_append.mp hla with z | z
      · exact n1 z
      · exact hpl (List.mem_singleton.mp z).symm
    rw [upd_ne nal]
    by_cases hi : i < as.length
    · rw [List.getElem?_append_left hi] at h1
      rw [List.getElem?_append_left (by rw [← L.len]; exact hi)] at h2
      exact L.each i a ys h1 h2
    · rw [List.getElem?_append_right (by omega)] at h1
      rw [List.getElem?_append_right (by rw [← L.len]; omega)] at h2
      have e1 : i - as.length = 0 := by
        cases hq : i - as.length with
        | zero => rfl
        | succ k => rw [hq] at h1; simp at h1
      rw [e1] at h1
      rw [← L.len, e1] at h2
      simp at h1 h2
      rw [← h1, ← h2]; exact hp
  · rcases List.mem_append.mp ha with z | z
    · exact L.frs a z
    · have z' : a = p := by simpa using z
      rw [z']; exact hf
/-- the i-th list is another one now -/
theorem LLat.put {H0 H H' : Hp} {l p : Addr} {as : List Addr} {xss : List (List Int)} {ys : List Int} {i : Nat} (L : LLat H0 H l as xss) (hi : as[i]? = some p) (e : upd H p (.lst (ys.map V.int)) = H') : LLat H0 H' l as (xss.set i ys) := by
  subst e
  obtain ⟨n1, n2⟩ := List.nodup_cons.mp L.nd
  have hpl : l ≠ p := fun z => n1 (by rw [z]; exact List.mem_of_getElem? hi)
  obtain ⟨hil, _⟩ := List.getElem?_eq_some_iff.mp hi
  refine ⟨by rw [upd_ne hpl]; exact L.top, L.nd, by simp [L.len], fun j a xs h1 h2 => ?_, L.fr, L.frs⟩
  by_cases hj : j = i
  · subst hj
    rw [hi] at h1; cases h1
    rw [List.getElem?_set_self (by rw [← L.len]; exact hil)] at h2
    cases h2
    exact upd_same
  · rw [List.getElem?_set_ne (Ne.symm hj)] at h2
    have : a ≠ p := fun z => by
      subst z
      obtain ⟨h3, e3⟩ := List.getElem?_eq_some_iff.mp h1
      obtain ⟨h4, e4⟩ := List.getElem?_eq_some_iff.mp hi
      exact hj ((List.getElem_inj n2).mp (e3.trans e4.symm))
    rw [upd_ne this]
    exact L.each j a xs h1 h2
def dInts (xs : List Int) : PyData := .list (xs.map PyData.int)
def dLL (xss : List (List Int)) : PyData := .list (xss.map dInts)
theorem LLat.rp {K : PySem.W.Frag} {H0 H : Hp} {l : Addr} {as : List Addr} {xss : List (List Int)} (L : LLat H0 H l as xss) : Rp K H (.ref l) (dLL xss) := by
  refine .lst (SqL.of L.top) ?_
  have all : ∀ (as : List Addr) (xss : List (List Int)), as.length = xss.length → (∀ (i : Nat) (a : Addr) (xs : List Int), as[i]? = some a → xss[i]? = some xs → H a = some (.lst (xs.map V.int))) → Rps K H (as.map V.ref) (xss.map dInts) := by
    intro as
    induction as with
    | nil => intro xss hl _; cases xss with
      | nil => exact .nil
      | cons _ _ => simp at hl
    | cons a r ih =>
      intro xss hl he
      cases xss with
      | nil => simp at hl
      | cons xs rr => exact .cons (.ints (SqL.of (he 0 a xs rfl rfl))) (ih rr (by simpa using hl) fun i b ys h1 h2 => he (i + 1) b ys (by simpa using h1) (by simpa using h2))
  exact all as xss L.len L.each
theorem dInts_can (xs : List Int) : PyData.canLay0 (dInts xs) = true := by unfold dInts PyData.canLay0; exact PySem.W.ke_canLayAll0 xs
theorem dInts_depth (xs : List Int) : PyData.depth (dInts xs) ≤ 1 := by unfold dInts PyData.depth; rw [PySem.W.ke_depthAll]; exact Nat.le_refl _
theorem canAll_dInts : ∀ xss : List (List Int), PyData.canLayAll0 (xss.map dInts) = true
  | [] => by simp [PyData.canLayAll0]
  | x :: r => by simp only [List.map_cons, PyData.canLayAll0, dInts_can, canAll_dInts r, Bool.and_true]
theorem depthAll_dInts : ∀ xss : List (List Int), PyData.depthAll (xss.map dInts) ≤ 1
  | [] => by simp [PyData.depthAll]
  | x :: r => by
    simp only [List.map_cons, PyData.depthAll]
    exact Nat.max_le.mpr ⟨dInts_depth x, depthAll_dInts r⟩
theorem dLL_shaped (xss : List (List Int)) : SeqAt.shaped (dLL xss) = true := by
  unfold SeqAt.shaped dLL
  have h1 : PyData.canLay0 (.list (xss.map dInts)) = true := by unfold PyData.canLay0; exact canAll_dInts xss
  have h2 : PyData.depth (.list (xss.map dInts)) ≤ 64 := by unfold PyData.depth; have := depthAll_dInts xss; omega
  rw [h1, decide_eq_true h2]; rfl
theorem eqvAll_dInts : ∀ a b : List (List Int), PyData.eqvAll (a.map dInts) (b.map dInts) = decide (a = b)
  | [], [] => by simp [PyData.eqvAll]
  | [], _ :: _ => by simp [PyData.eqvAll]
  | _ :: _, [] => by simp [PyData.eqvAll]
  | x :: r, y :: t => by
    have e : PyData.eqv (dInts x) (dInts y) = decide (x = y) := PySem.W.ked_eqvAll x y
    simp only [List.map_cons, PyData.eqvAll, e, eqvAll_dInts r t]
    by_cases h : x = y <;> by_cases h' : r = t <;> simp [h, h']
theorem dLL_eqv (a b : List (List Int)) : PyData.eqv (dLL a) (dLL b) = decide (a = b) := eqvAll_dInts a b
/-- == of two lists of lists of ints -/
theorem lleq_imp {K : PySem.W.Frag} {f : Bool → Bool} {x y : V} {H : Hp} {Q : VK} {xss yss : List (List Int)} (hx : Rp K H x (dLL xss)) (hy : Rp K H y (dLL yss)) (q : Q (.bl (f (decide (xss = yss)))) H) : rDeq K f x y H Q :=
  ⟨_, _, hx, hy, dLL_shaped _, dLL_shaped _, by rw [dLL_eqv]; exact q⟩
/-- [list for x in range(..)] -/
theorem comp_lists {lo st : Int} {n : Nat} {te : TE} {caps : L2.St} {Q : VK} {H2 : Hp} (f : Nat → List Int) (hn : n ≤ sizeLine)
    (hs : ∀ (i : Nat) (H3 : Hp), i < n → Same H2 H3 → ∀ R : VK, (∀ l H6, Same H3 H6 → H3 l = none → H6 l = some (.lst ((f i).map V.int)) → R (.ref l) H6) → te (some (.int (lo + i * st)) :: caps) H3 R)
    (hd : ∀ D H' as, Same H2 H' → LLat H2 H' D as ((List.range n).map f) → Q (.ref D) H') : CompAt (Its lo st n) caps tAll te Q H2 := by
  unfold CompAt
  intro D hD
  refine ⟨fun i m acc H3 => m = n - i ∧ i ≤ n ∧ Same H2 H3 ∧ ∃ as, acc = as.map V.ref ∧ LLat H2 H3 D as ((List.range i).map f), ⟨n, by simp, Nat.zero_le _, Same.new hD, [], rfl, LLat.nil (H' := H2) hD upd_same⟩, ?_⟩
  rintro i m acc H3 ⟨rfl, hi, s3, as, rfl, L⟩
  refine ⟨L.top, ?_⟩
  by_cases hlt : i < n
  · have hl : as.length = i := by rw [L.len]; simp
    refine .inr ⟨hlt, by simp [hl]; omega, fun v H4 y => ?_⟩
    obtain ⟨e, y⟩ := y
    subst e y
    refine ⟨fun _ => ?_, fun z => by cases z⟩
    refine hs i _ hlt s3 _ fun l H6 s6 hl0 hl6 => ⟨s6.at L.top, n - (i + 1), by omega, rfl, hlt, (s3.trans s6).put hD, as ++ [l], by rw [List.map_append]; rfl, ?_⟩
    rw [List.range_succ, List.map_append]
    exact (L.same s6).push hl6 (L.apart hl0) (s3.back hl0) rfl
  · have e : i = n := by omega
    subst e
    exact .inl ⟨Nat.le_refl _, hd D H3 as s3 L⟩
section
variable {X : Cx}
/-- xs.insert(0, y) -/
def rInsert0 : V → List V → Hp → VK → Prop := fun x vs H Q => ∃ l xs y, x = .ref l ∧ vs = [.int 0, y] ∧ H l = some (.lst xs) ∧ xs.length < sizeLine ∧ Q .non (upd H l (.lst (y :: xs)))
theorem mt_insert : MtM X "list.insert" rInsert0 := by
  intro pins s σ H x vs v us Q I rx rv h
  obtain ⟨l, xs, y, rfl, rfl, hH, hz, q⟩ := h
  cases rx
  obtain ⟨u0, u, rfl, ⟨t, rfl⟩, ru⟩ := rv.two
  obtain ⟨z, its, n, r, hl, e⟩ := I.lstM hH
  refine call_meets F.slot_list_insert ⟨_, e, rfl⟩ F.entry_list_insert (F.args_list_insert_3 _ _ _) (AutoListH.list_insert_list_int_val_1 l its.toArray n 0 t u (by decide) (by rw [List.size_toArray]; omega)) ⟨e, ?_⟩
  refine ⟨.non, _, I.lset (its' := u :: its) hH e ?_ (.cons ru r) ?_, rfl, q⟩
  · simp
  · rw [List.length_cons]; omega
end
end L2

namespace L2
open PySem PySem.Spec PyProof.Rows

/-! ### functions that are made inside a def: the cells they close over are tracked (cel), the code table of the def too (tbl) -/
abbrev HO.any : HO := .ext fun _ => True
theorem ObjOk.anyOf {P : Program} {w : World} {H : Hp} {h : Heap} {a : Addr} {o : Obj} (e : h.get? a = some o) : ObjOk P w H h a (.frz o HO.any) := ⟨e, trivial, ⟨o, e⟩, fun _ _ _ _ => trivial⟩

/-- a function object that was made inside a def, and the values it closes over -/
def CloAt (H : Hp) (f : Addr) (nm qual : Str) (params : Arguments) (body : FuncBody) (scope : Scope) (fv : List (Str × V)) : Prop :=
  ∃ (clos : List (Str × Addr)) (c : Addr) (o : Obj) (u u' : HO) (vs : Array Value) (t : Tok) (doc pm ctv : Value),
    H f = some (.frz { cls := .type "function", data := .func { name := nm, qualname := qual, params, body, scope, globals := mainGlobals, closure := clos, defaults := .none, kwdefaults := .none, doc, pyModule := pm, annotations := none, code := .ref c, closureTuple := ctv, builtins := builtinsNs } } u) ∧
    H c = some (.frz o u') ∧ o.data = .fields vs ∧ vs[1]? = some (.str qual t) ∧
    (∀ x y a, clos.lookup x = some a → clos.lookup y = some a → x = y) ∧ (∀ x, (x, NameKind.free) ∈ scope.names → ∃ a, clos.lookup x = some a) ∧
    (∀ x v, (x, v) ∈ fv → ∃ a, clos.lookup x = some a ∧ H a = some (.cel (some v))) ∧ ∀ x a, clos.lookup x = some a → ∃ v, H a = some (.cel (some v))
theorem CloAt.same {H H' : Hp} {f : Addr} {nm qual : Str} {params : Arguments} {body : FuncBody} {scope : Scope} {fv : List (Str × V)} (h : CloAt H f nm qual params body scope fv) (e : Same H H') : CloAt H' f nm qual params body scope fv := by
  obtain ⟨clos, c, o, u, u', vs, t, doc, pm, ctv, h1, h2, h3, h4, h5, h6, h7, h8⟩ := h
  exact ⟨clos, c, o, u, u', vs, t, doc, pm, ctv, e _ _ h1, e _ _ h2, h3, h4, h5, h6, fun x v m => let ⟨a, q1, q2⟩ := h7 x v m; ⟨a, q1, e _ _ q2⟩, fun x a q => let ⟨v, q2⟩ := h8 x a q; ⟨v, e _ _ q2⟩⟩

theorem ca_snoc {pos pos' : Pos} {c : Value} (l : List Value) (h : TriplesOk l) :
    codeAmong pos' (l ++ [rawInt pos.line, rawInt pos.col, c]) = (match codeAmong pos' l with
      | some d => some d
      | none => if ((pos.line : Int) == pos'.line && (pos.col : Int) == pos'.col) = true then some c else none) := by
  fun_induction TriplesOk l with
  | case1 => simp [codeAmong, rawInt]
  | case2 a t b u x rest ih =>
    simp only [List.cons_append, codeAmong]
    split
    · rfl
    · exact ih h
  | case3 l h1 h2 => exact h.elim

/-- the code record at c has its table at P, wherever the written part stands -/
def TabK (K : PySem.W.Frag) (c P : Addr) : Prop := ∀ h : Heap, K.In h → PySem.W.CodeHd h c P

theorem clOf_free {cells : List (Str × Addr)} : ∀ {l : List (Str × NameKind)} {cs : List (Str × Addr)} {x : Str} {c : Addr}, (clOf cells l cs).lookup x = some c → (x, NameKind.free) ∈ l ∨ ∃ a, cs.lookup x = some a
  | [], cs, x, c, h => .inr ⟨c, h⟩
  | (n, k) :: r, cs, x, c, h => by
    unfold clOf at h
    rcases clOf_free h with q | ⟨a, q⟩
    · exact .inl (List.mem_cons_of_mem _ q)
    · split at q
      · rename_i hk
        rw [List.lookup_cons] at q
        split at q
        · rename_i hx
          have e : x = n := by simpa using hx
          have e2 : k = .free := by simpa using hk
          subst e; subst e2
          exact .inl List.mem_cons_self
        · exact .inr ⟨a, q⟩
      · exact .inr ⟨a, q⟩

/-- how a function that was made lies in the heap -/
abbrev fnObjOf (name qual : Str) (params : Arguments) (body : FuncBody) (scope : Scope) (clos : List (Str × Addr)) (doc pm cdv ctv : Value) : Obj :=
  { cls := .type "function", data := .func { name, qualname := qual, params, body, scope, globals := mainGlobals, closure := clos, defaults := .none, kwdefaults := .none, doc, pyModule := pm, annotations := none, code := cdv, closureTuple := ctv, builtins := builtinsNs } }

section
variable {M : Model} {A : Around} {E : Value → Shared → Prop} {s : Shared} {name qual : Str} {params : Arguments} {body : FuncBody} {scope : Scope} {env : Env} {c P : Addr} {ps : Array Value} {pos : Pos} {firstLine : Nat} {mg : Str → Option Value}
  {clos : List (Str × Addr)} {Q : Value → Shared → Prop}
theorem mk_miss (hcl : closureFor scope env = pure clos) (hge0 : env.globals = mainGlobals) (hg : s.heap.Ns mainGlobals mg) (hcode : env.code = .ref c) (C : PySem.W.CodeHd s.heap c P) (hP : s.heap.get? P = some (PySem.W.tabObj ps)) (ht : TriplesOk ps.toList)
    (hnf : codeAmong pos ps.toList = none) (hgP : mainGlobals ≠ P) (hb : s.heap.BuiltinsAt mg P)
    (h : ∀ c' ctv doc h' tk, Heap.ExtBut P s.heap h' → s.heap.objs.size ≤ c' → c' < h'.objs.size → h'.CodeRec (.ref c') qual → h'.get? P = some (PySem.W.tabObj (ps ++ #[rawInt pos.line, rawInt pos.col, .ref c'])) →
      Q (.ref h'.objs.size) { s with heap := h'.push (fnObjOf name qual params body scope clos doc ((mg "__name__").getD .none) (.ref c') ctv), toks := tk }) :
    wpAny M A (makeFunction name qual params body scope env [] [] [] pos firstLine) Q E s := by
  cases body with
  | stmts b => exact PySem.W.makeFunction_K hcl hge0 hg hcode C hP ht hnf hgP hb h
  | expr e => exact PySem.W.kla_makeFunction hcl hge0 hg hcode C hP ht hnf hgP hb fun c' ctv h' tk => h c' ctv .none h' tk
theorem mk_hit {cv : Value} (hcl : closureFor scope env = pure clos) (hge0 : env.globals = mainGlobals) (hg : s.heap.Ns mainGlobals mg) (hcode : env.code = .ref c) (C : PySem.W.CodeHd s.heap c P) (hP : s.heap.get? P = some (PySem.W.tabObj ps)) (ht : TriplesOk ps.toList)
    (hf : codeAmong pos ps.toList = some cv) (hb : s.heap.BuiltinsAt mg P)
    (h : ∀ (ctv doc : Value) (h' : Heap) (tk : Tok), (∀ b o, s.heap.get? b = some o → h'.get? b = some o) → s.heap.objs.size ≤ h'.objs.size →
      Q (.ref h'.objs.size) { s with heap := h'.push (fnObjOf name qual params body scope clos doc ((mg "__name__").getD .none) cv ctv), toks := tk }) :
    wpAny M A (makeFunction name qual params body scope env [] [] [] pos firstLine) Q E s := by
  cases body with
  | stmts b => exact PySem.W.makeFunction_hit hcl hge0 hg hcode C hP ht hf hb h
  | expr e => exact PySem.W.kla_makeFunctionHit hcl hge0 hg hcode C hP ht hf hb fun ctv h' tk => h ctv .none h' tk
end

section
variable {X : Cx} {pins : List (Addr × Obj)} {σ : St} {H : Hp} {s : Shared} {c P : Addr} {qs : List (Pos × Str)} {name qual : Str} {params : Arguments} {body : FuncBody} {scope : Scope} {pos : Pos} {fv : List (Str × V)} {Q : VK} {fns : List Str}

def tFn (X : Cx) (P : Addr) (qs : List (Pos × Str)) (fns : List Str) (name qual : Str) (params : Arguments) (body : FuncBody) (scope : Scope) : TE := fun σ H Q =>
  H P = some (.tbl qs) ∧ ∃ fv : List (Str × V), fv.map (·.1) = fns ∧ (∀ x v, (x, v) ∈ fv → ∃ a, X.env.cells.lookup x = some a ∧ H a = some (.cel (some v))) ∧
    ∀ f H', H f = none → Same H H' → CloAt H' f name qual params body scope fv → Q (.ref f) H'

theorem make_fn (I : Inv X pins σ H s) (hcode : X.env.code = .ref c) (T : TabK X.K c P) (hq : (pos, qual) ∈ qs) (hu : (qs.all fun p => !((pos.line == p.1.line) && (pos.col == p.1.col)) || (p.2 == qual)) = true)
    (hfr : (scope.names.filter fun y => y.2 == .free).map (·.1) = fns) (h : tFn X P qs fns name qual params body scope σ H Q) {n : Nat} :
    wpAny (model X.prog X.w) X.A (makeFunction name qual params body scope X.env [] [] [] pos n) (EP X pins σ Q) X.xe s := by
  obtain ⟨hP, fv, hn, hf, h⟩ := h
  have isfr : ∀ x, (x, NameKind.free) ∈ scope.names ↔ x ∈ fns := fun x => by
    rw [← hfr, List.mem_map]
    constructor
    · exact fun m => ⟨(x, .free), List.mem_filter.mpr ⟨m, rfl⟩, rfl⟩
    · rintro ⟨⟨y, k⟩, m, rfl⟩
      have m2 := List.mem_filter.mp m
      have e : k = .free := by simpa using m2.2
      subst e
      exact m2.1
  have names : ∀ x, (x, NameKind.free) ∈ scope.names → ∃ v a, (x, v) ∈ fv ∧ X.env.cells.lookup x = some a ∧ H a = some (.cel (some v)) := fun x hx => by
    have m := (isfr x).mp hx
    rw [← hn] at m
    obtain ⟨⟨x', v⟩, hm, rfl⟩ := List.mem_map.mp m
    obtain ⟨a, h1, h2⟩ := hf _ _ hm
    exact ⟨v, a, hm, h1, h2⟩
  have hcs : ∀ y ∈ scope.names, y.2 = .free → ∃ c, X.env.cells.lookup y.1 = some c := fun y hy e => by
    obtain ⟨y1, y2⟩ := y
    have e : y2 = .free := e
    subst e
    obtain ⟨_, a, _, h1, _⟩ := names y1 hy
    exact ⟨a, h1⟩
  have hcl := closure_is (scope := scope) (env := X.env) hcs
  have sub : ∀ {z : Str} {a : Addr}, (clOf X.env.cells scope.names []).lookup z = some a → X.env.cells.lookup z = some a := fun {z a} e => by
    rcases clOf_sub hcs e with q | q
    · cases q
    · exact q
  have subF : ∀ {z : Str} {a : Addr}, (clOf X.env.cells scope.names []).lookup z = some a → (z, NameKind.free) ∈ scope.names := fun {z a} e => by
    rcases clOf_free e with q | ⟨_, q⟩
    · exact q
    · cases q
  have cInj : ∀ x y a, (clOf X.env.cells scope.names []).lookup x = some a → (clOf X.env.cells scope.names []).lookup y = some a → x = y := fun x y a e1 e2 => I.ok.inj x y a (sub e1) (sub e2)
  have cHas : ∀ x, (x, NameKind.free) ∈ scope.names → ∃ a, (clOf X.env.cells scope.names []).lookup x = some a := fun x m => clOf_mem (.inl m)
  have cVal : ∀ x v, (x, v) ∈ fv → ∃ a, (clOf X.env.cells scope.names []).lookup x = some a ∧ H a = some (.cel (some v)) := fun x v m => by
    obtain ⟨a, e1, e2⟩ := hf x v m
    obtain ⟨a', e3⟩ := cHas x ((isfr x).mpr (by rw [← hn]; exact List.mem_map_of_mem m))
    have e4 := sub e3
    rw [e1] at e4; cases e4
    exact ⟨a, e3, e2⟩
  have cAll : ∀ x a, (clOf X.env.cells scope.names []).lookup x = some a → ∃ v, H a = some (.cel (some v)) := fun x a e => by
    obtain ⟨v, a', _, e1, e2⟩ := names x (subF e)
    rw [sub e] at e1; cases e1
    exact ⟨v, e2⟩
  have hg : s.heap.Ns mainGlobals X.mg := I.mod.glob.keeps I.bk
  obtain ⟨ps, hPo, ht, hent⟩ := I.hok P _ hP
  have C := T s.heap I.kIn
  have hgP : mainGlobals ≠ P := fun q => by
    obtain ⟨o, es, ep, e, hd, _⟩ := hg
    rw [q, hPo] at e; cases e; cases hd
  have hB : s.heap.BuiltinsAt X.mg P := by
    obtain ⟨bm, ob, b1, b2, b3, b4, b5, b6⟩ := I.mod.bm
    have b3' := I.bk _ _ b3
    refine ⟨bm, ob, b1, b2, fun q => ?_, fun q => ?_, b3', b4, b5, b6⟩
    · obtain ⟨o, es, ep, e, hd, _⟩ := hg
      rw [← q, b3'] at e; cases e; rw [b6] at hd; cases hd
    · rw [q, hPo] at b3'; cases b3'; cases b4
  rcases hent pos qual hq with hnf | ⟨c', o, u, vs, t, hit, hc', hd, hv⟩
  · refine mk_miss hcl I.ok.glob hg hcode C hPo ht hnf hgP hB fun c' ctv doc h' tk hx hge hlt hrec htb => ?_
    obtain ⟨c2, oc, vs, t, e2, hoc, hd, hv⟩ := hrec
    cases e2
    have hc0 : H c' = none := I.hok.fresh hge
    have hsz : s.heap.objs.size ≤ h'.objs.size := Nat.le_of_lt (Nat.lt_of_le_of_lt hge hlt)
    have hf0 : H h'.objs.size = none := I.hok.fresh hsz
    have hcf : c' ≠ h'.objs.size := Nat.ne_of_lt hlt
    let fo := fnObjOf name qual params body scope (clOf X.env.cells scope.names []) doc ((X.mg "__name__").getD .none) (.ref c') ctv
    let H' := upd (upd H c' (.frz oc HO.any)) h'.objs.size (.frz fo HO.any)
    have sm : ∀ b u, H b = some u → H' b = some u := fun b u e => by
      show upd _ _ _ b = _
      rw [upd_ne (ne_of_none e hf0), upd_ne (ne_of_none e hc0)]; exact e
    have H'c : H' c' = some (.frz oc HO.any) := by
      show upd _ _ _ c' = _
      rw [upd_ne hcf, upd_same]
    have H'f : H' h'.objs.size = some (.frz fo HO.any) := upd_same
    have keep : ∀ b o, b ≠ P → s.heap.get? b = some o → (h'.push fo).get? b = some o := fun b o hb e => Heap.get?_push_of_some _ (hx b o hb e)
    have nP : ∀ b, H b = none → b ≠ P := fun b e q => by rw [q, hP] at e; cases e
    refine ⟨.ref h'.objs.size, H', I.un ⟨fun b o e n _ _ => keep b o (nP b n) e, fun b o e n _ _ => ⟨o.slots, keep b o (nP b n) e⟩, fun b o e n _ => ?_, fun b o e _ => ?_, fun b u e _ => sm b u e⟩ fun b u e => ?_, rfl, ?_⟩
    · have lt := Heap.lt_size e
      show upd _ _ _ b = _
      rw [upd_ne (Nat.ne_of_lt (Nat.lt_of_lt_of_le lt hsz)), upd_ne (Nat.ne_of_lt (Nat.lt_of_lt_of_le lt hge))]; exact n
    · by_cases hb : b = P
      · exact ⟨_, Heap.get?_push_of_some _ (by rw [hb]; exact htb)⟩
      · exact ⟨o, keep b o hb e⟩
    · by_cases h1 : b = h'.objs.size
      · subst h1
        rw [H'f] at e; cases e
        exact ObjOk.anyOf (Heap.get?_push_size _ rfl)
      · have e1 : upd H c' (.frz oc HO.any) b = some u := (upd_ne h1).symm.trans e
        by_cases h2 : b = c'
        · subst h2
          rw [upd_same] at e1; cases e1
          exact ObjOk.anyOf (Heap.get?_push_of_some _ hoc)
        · rw [upd_ne h2] at e1
          by_cases hb : b = P
          · subst hb
            rw [hP] at e1; cases e1
            refine ⟨_, Heap.get?_push_of_some _ htb, ?_, fun pos' q m => ?_⟩
            · simpa using TriplesOk_snoc (pos.line : Int) (pos.col : Int) (.ref c') ps.toList ht
            · have e3 : (ps ++ #[rawInt pos.line, rawInt pos.col, Value.ref c']).toList = ps.toList ++ [rawInt pos.line, rawInt pos.col, Value.ref c'] := by simp
              rw [e3, ca_snoc _ ht]
              rcases hent pos' q m with z | ⟨d, o, u, vs', t', z1, z2, z3, z4⟩
              · rw [z]
                by_cases hl : ((pos.line : Int) == pos'.line && (pos.col : Int) == pos'.col) = true
                · right
                  have hqq : q = qual := by
                    have := List.all_eq_true.mp hu (pos', q) m
                    simp only [Bool.and_eq_true, beq_iff_eq, Int.ofNat_inj, Int.natCast_inj] at hl
                    have a1 : pos.line = pos'.line := by have := hl.1; omega
                    have a2 : pos.col = pos'.col := by have := hl.2; omega
                    simpa [a1, a2] using this
                  subst hqq
                  exact ⟨c', oc, HO.any, vs, t, if_pos hl, H'c, hd, hv⟩
                · exact .inl (if_neg hl)
              · right
                rw [z1]
                exact ⟨d, o, u, vs', t', rfl, sm _ _ z2, z3, z4⟩
          · refine (I.hok b u e1).stay (fun d v hc q => keep d v ?_ q) (fun d q => sm _ _ q) fun d u q _ => sm _ _ q
            rcases hc with rfl | hc
            · exact hb
            · intro z; rw [z, hP] at hc; cases hc
    · exact h h'.objs.size H' hf0 sm ⟨_, c', oc, HO.any, HO.any, vs, t, doc, _, ctv, H'f, H'c, hd, hv, cInj, cHas, fun x v m => let ⟨a, q1, q2⟩ := cVal x v m; ⟨a, q1, sm _ _ q2⟩, fun x a q => let ⟨v, q2⟩ := cAll x a q; ⟨v, sm _ _ q2⟩⟩
  · refine mk_hit hcl I.ok.glob hg hcode C hPo ht hit hB fun ctv doc h' tk hk hsz => ?_
    have hf0 : H h'.objs.size = none := I.hok.fresh hsz
    have sm : Same H (upd H h'.objs.size (.frz (fnObjOf name qual params body scope (clOf X.env.cells scope.names []) doc ((X.mg "__name__").getD .none) (.ref c') ctv) HO.any)) := fun b u e => by
      rw [upd_ne (ne_of_none e hf0)]; exact e
    refine ⟨.ref h'.objs.size, _, I.laid (o := .frz (fnObjOf name qual params body scope (clOf X.env.cells scope.names []) doc ((X.mg "__name__").getD .none) (.ref c') ctv) HO.any) (fun b o e => Heap.get?_push_of_some _ (hk b o e)) hsz (ObjOk.anyOf (Heap.get?_push_size _ rfl)), rfl, ?_⟩
    exact h _ _ hf0 sm ⟨_, c', o, HO.any, u, vs, t, doc, _, ctv, upd_same, sm _ _ hc', hd, hv, cInj, cHas, fun x v m => let ⟨a, q1, q2⟩ := cVal x v m; ⟨a, q1, sm _ _ q2⟩, fun x a q => let ⟨v, q2⟩ := cAll x a q; ⟨v, sm _ _ q2⟩⟩

/-- lambda .. : e -/
theorem pe_lambda {e : Expr} (hcode : X.env.code = .ref c) (T : TabK X.K c P) (hq : (pos, X.env.qual ++ "<lambda>") ∈ qs) (hu : (qs.all fun p => !((pos.line == p.1.line) && (pos.col == p.1.col)) || (p.2 == X.env.qual ++ "<lambda>")) = true)
    (hfr : (scope.names.filter fun y => y.2 == .free).map (·.1) = fns) (hdef : defaultsOf params X.env = ([], []) := by rfl) :
    PE X (.Lambda params e scope pos) (tFn X P qs fns "<lambda>" (X.env.qual ++ "<lambda>") params (.expr e) scope) := fun _ _ _ _ _ I h =>
  PySem.W.kla_eval hdef (make_fn I hcode T hq hu hfr h)

def tDef (i : Nat) (t : TE) : TS := fun D σ H => t σ H fun v H1 => D.nx (σ.set i (some v)) H1
/-- def name(..): .. inside a def; the name stands in slot i -/
theorem ps_def {b : List Stmt} {i : Nat} (hcode : X.env.code = .ref c) (T : TabK X.K c P) (hq : (pos, qualnameIn X.env name name) ∈ qs) (hu : (qs.all fun p => !((pos.line == p.1.line) && (pos.col == p.1.col)) || (p.2 == qualnameIn X.env name name)) = true)
    (hfr : (scope.names.filter fun y => y.2 == .free).map (·.1) = fns) (hN : X.N.Nodup) (hi : X.N[i]? = some name) (hx : X.env.scope.names.lookup name = some .local)
    (hd0 : params.defaults = [] := by rfl) (hk0 : params.kw_defaults = [] := by rfl) (ha : annTrees params none X.env = [] := by rfl) :
    PS X (.FunctionDef name params b [] none [] scope none name pos) (tDef i (tFn X P qs fns name (qualnameIn X.env name name) params (.stmts b) scope)) := fun pins s σ H D I h =>
  PySem.W.nestDef_K hd0 hk0 ha (thn (make_fn (Q := fun v H1 => D.nx (σ.set i (some v)) H1) I hcode T hq hu hfr h) fun u s1 ⟨v, H1, I1, r, q⟩ =>
    store_ok I1 hN hi (.inl hx) r (fun s2 I2 => ⟨_, H1, I2, q⟩) (.inr hx))

/-! ### captured cells -/
theorem Inv.track {x : Str} {a : Addr} {i : Nat} (I : Inv X pins σ H s) (hN : X.N.Nodup) (hi : X.N[i]? = some x) (hk : X.env.kindOf x = some .cell) (hcp : X.cp x = true) (hfn : X.fn x = false) (ha : X.env.cells.lookup x = some a) (hH : H a = none) :
    Inv X pins σ (upd H a (.cel (σ[i]?.join))) s := by
  have hab : ∀ b o, X.s₀.heap.get? b = some o → b ≠ a := fun b o e => Nat.ne_of_lt (Nat.lt_of_lt_of_le (Heap.lt_size e) (I.ok.cab2 x a hcp ha))
  obtain ⟨v0, hv0⟩ := I.cell x a ha
  refine ⟨I.ok, I.os, I.bare, ⟨I.base.keep, I.base.slot, fun b o e n hx => ?_, I.base.there, fun b u e f => ?_⟩, I.loc, I.cell, ?_, fun y c e => ?_, fun p hp => ?_, fun b u e => ?_, I.len⟩
  · rw [upd_ne (hab b o e)]; exact I.base.free b o e n hx
  · have := I.base.fix b u e f
    rw [upd_ne (ne_of_none this hH)]; exact this
  · rw [upd_ne (Ne.symm (I.cne x a ha))]; exact I.free
  · by_cases hc : c = a
    · subst hc
      obtain rfl := I.ok.inj _ _ _ e ha
      refine .inr ⟨hfn, _, upd_same, fun z j v e1 k e2 => ?_⟩
      have := nodup_ix hN e1 hi
      subst this
      rw [e2] at z; cases z
    · rw [upd_ne hc]; exact I.freeC y c e
  · obtain ⟨e, n, ne, nf, d⟩ := I.pin p hp
    refine ⟨e, ?_, ne, nf, d⟩
    rw [upd_ne fun z => ?_]
    · exact n
    · obtain ⟨o, q1, q2⟩ := hv0
      rw [← z, e] at q1; cases q1
      exact d _ q2
  · by_cases hb : b = a
    · subst hb
      rw [upd_same] at e; cases e
      cases hσ : σ[i]?.join with
      | none => exact ⟨v0, hv0, fun x z => by cases z⟩
      | some v =>
        have hσ' : σ[i]? = some (some v) := by
          cases q : σ[i]? with
          | none => rw [q] at hσ; cases hσ
          | some w => rw [q] at hσ; cases w with
            | none => cases hσ
            | some w => cases hσ; rfl
        obtain ⟨m, hn, hl⟩ := I.loc
        obtain ⟨u, r, l⟩ := hl i x v hi hσ' (.inr (.inl hk))
        rcases l with ⟨k, _⟩ | ⟨_, c, hc, hcell⟩
        · rw [hk] at k; cases k
        · rw [ha] at hc; cases hc
          exact ⟨_, hcell, fun y z => by cases z; exact ⟨u, rfl, r⟩⟩
    · rw [upd_ne hb] at e
      exact (I.hok b u e).stay (fun _ _ _ q => q) (fun d q => by rw [upd_ne (ne_of_none q hH)]; exact q) fun d u q _ => by rw [upd_ne (ne_of_none q hH)]; exact q

/-- ahead of a block: the cell of a captured name, tracked from here on -/
def tTrack (X : Cx) (x : Str) (i : Nat) (t : TS) : TS := fun D σ H => ∀ a, X.env.cells.lookup x = some a → X.H₀ a = none → (∀ y b, X.env.cells.lookup y = some b → y ≠ x → b ≠ a) → H a = none ∧ t D σ (upd H a (.cel (σ[i]?.join)))
theorem pss_track {x : Str} {i : Nat} {b : List Stmt} {t : TS} (hN : X.N.Nodup) (hi : X.N[i]? = some x) (hk : X.env.kindOf x = some .cell) (hcp : X.cp x = true) (hfn : X.fn x = false)
    (h : PSs X b t) : PSs X b (tTrack X x i t) := fun pins s σ H D I q => by
  obtain ⟨a, ha⟩ := I.ok.has x (.inl hk)
  obtain ⟨z, q⟩ := q a ha (I.ok.hz a (I.ok.cab2 x a hcp ha)) fun y b e ne z => ne (I.ok.inj y x b e (z ▸ ha))
  exact h pins s σ _ D (I.track hN hi hk hcp hfn ha z) q

/-- x = e for a captured name, once -/
def tSetF (X : Cx) (x : Str) (i : Nat) (te : TE) : TS := fun D σ H => te σ H fun v H1 => ∃ a, X.env.cells.lookup x = some a ∧ H1 a = some (.cel none) ∧ D.nx (σ.set i (some v)) (upd H1 a (.cel (some v)))
theorem ps_setF {i : Nat} {x : Str} {e : Expr} {te : TE} {pos' : Pos} (hN : X.N.Nodup) (hi : X.N[i]? = some x) (hk : X.env.kindOf x = some .cell) (hcp : X.cp x = true) (hfn : X.fn x = false) (he : PE X e te) (hs : swapsWith e (some (.Name x pos')) pos.line X.env = pure false := by rfl) :
    PS X (.Assign [.Name x pos'] e pos) (tSetF X x i te) := by
  intro pins s σ H D I h
  refine wpAny_Assign_Name (thn (he pins s σ H _ I h) fun u s1 ⟨v, H1, I, r, q⟩ => ?_) hs
  obtain ⟨a, ha, hH, q⟩ := q
  obtain ⟨w0, z⟩ := I.cell x a ha
  obtain ⟨m, hn, hl⟩ := id I.loc
  have hiσ : i < σ.length := by rw [I.len]; exact (List.getElem?_eq_some_iff.mp hi).1
  have hab : ∀ b o, X.s₀.heap.get? b = some o → b ≠ a := fun b o e => Nat.ne_of_lt (Nat.lt_of_lt_of_le (Heap.lt_size e) (I.ok.cab2 x a hcp ha))
  refine wpAny_storeName_cell I.ok.kind hk ha z fun h' hc' hs => ?_
  refine ⟨_, _, ⟨I.ok, I.os, I.bare, ⟨fun b o e n hb hx => ?_, fun b o e n hb hx => ?_, fun b o e n hx => ?_, fun b o e hx => ?_, fun b u e f => ?_⟩, ⟨m, hn.sameBut hs (Ne.symm (I.cne x a ha)), fun j y v' e1 e2 e3 => ?_⟩, fun y c' e => ?_, ?_, fun y c' e => ?_, fun p hp => ?_, fun b u e => ?_, by simpa using I.len⟩, q⟩
  · exact (hs.2 b (hab b o e)).trans (I.base.keep b o e n hb hx)
  · obtain ⟨sl, e1⟩ := I.base.slot b o e n hb hx
    exact ⟨sl, (hs.2 b (hab b o e)).trans e1⟩
  · rw [upd_ne (hab b o e)]; exact I.base.free b o e n hx
  · obtain ⟨o', e1⟩ := I.base.there b o e hx
    exact ⟨o', (hs.2 b (hab b o e)).trans e1⟩
  · have h0 := I.ok.hz a (I.ok.cab2 x a hcp ha)
    rw [upd_ne (ne_of_none e h0)]
    exact I.base.fix b u e f
  · by_cases hj : j = i
    · subst hj
      rw [hi] at e1; cases e1
      rw [List.getElem?_set_self hiσ] at e2
      cases e2
      exact ⟨u, r, .inr ⟨.inl hk, a, ha, hc'⟩⟩
    · rw [List.getElem?_set_ne (Ne.symm hj)] at e2
      obtain ⟨u', r', q⟩ := hl j y v' e1 e2 e3
      refine ⟨u', r', ?_⟩
      rcases q with q | ⟨k, c', e, z'⟩
      · exact .inl q
      · refine .inr ⟨k, c', e, z'.sameBut hs ?_⟩
        rintro rfl
        exact hj (nodup_ix hN e1 (I.ok.inj _ _ _ e ha ▸ hi))
  · by_cases hcc : c' = a
    · subst hcc; exact ⟨_, hc'⟩
    · obtain ⟨w2, z2⟩ := I.cell y c' e
      exact ⟨w2, z2.sameBut hs hcc⟩
  · rw [upd_ne (Ne.symm (I.cne x a ha))]; exact I.free
  · by_cases hcc : c' = a
    · subst hcc
      obtain rfl := I.ok.inj _ _ _ e ha
      exact .inr ⟨hfn, some v, upd_same, fun z => by cases z⟩
    · rw [upd_ne hcc]
      refine (I.freeC y c' e).imp id fun ⟨hf', o', ho', hno⟩ => ⟨hf', o', ho', fun z j v' e1 k e2 => ?_⟩
      by_cases hj : j = i
      · subst hj
        rw [hi] at e1; cases e1
        rw [ha] at e; cases e
        exact hcc rfl
      · rw [List.getElem?_set_ne (Ne.symm hj)] at e2
        exact hno z j v' e1 k e2
  · obtain ⟨e, n, ne, nf, d⟩ := I.pin p hp
    have hpa : p.1 ≠ a := fun q => by
      obtain ⟨oc, hoc, hocd⟩ := z
      rw [q, hoc] at e
      have q' : oc = p.2 := Option.some.inj e
      exact d w0 (by rw [← q']; exact hocd)
    exact ⟨(hs.2 p.1 hpa).trans e, by rw [upd_ne hpa]; exact n, ne, nf, d⟩
  · by_cases hb : b = a
    · subst hb
      rw [upd_same] at e; cases e
      exact ⟨_, hc', fun y z => by cases z; exact ⟨u, rfl, r⟩⟩
    · rw [upd_ne hb] at e
      have nfix : ∀ d u', H1 d = some u' → u' ≠ .cel none → upd H1 a (.cel (some v)) d = some u' := fun d u' e' hu => by
        rw [upd_ne fun z => ?_]
        · exact e'
        · rw [z, hH] at e'
          cases e'
          exact hu rfl
      refine (I.hok b u e).stay (fun d w' hc q => (hs.2 d ?_).trans q) (fun d q => nfix _ _ q (by simp)) fun d u' q hf => nfix _ _ q (by rintro rfl; exact hf)
      rcases hc with rfl | hc
      · exact hb
      · intro z; rw [z, hH] at hc; cases hc
end
end L2

namespace L2
open PySem PySem.Spec PyProof.Rows

/-! ### the law's call where defs make functions: their code tables are tracked beside the script -/
theorem law_callC {P : Program} {w : World} {K : PySem.W.Frag} {mg mb : Str → Option Value} {CX : CXT} {k : Nat} {fa a : Addr} {fd : FuncData} {x : Str} {sp : Sp} {s₁ : Shared} {vs : List Value} {ns : List Int} {tabs : List (Addr × Addr × List (Pos × Str))}
    (KX : K.In s₁.heap) (hns : s₁.heap.Ns mainGlobals mg) (hb : s₁.heap.Ns builtinsNs mb) (hbb : ∀ x : Str, x ≠ "__name__" → mb x = bootBuiltins x) (hlim : s₁.heap.NoLimit) (hbm : ∃ b o, mg "__builtins__" = some (.ref b) ∧ b ≠ builtinsNs ∧ s₁.heap.get? b = some o ∧ o.cls = .type "module" ∧ o.dict = some builtinsNs ∧ o.data = .plain) (hg : s₁.gens = #[])
    (ha : s₁.heap.get? a = some { cls := .type "list", data := .seq vs.toArray }) (hi : IntsAre vs ns) (hl : ns.length ≤ sizeLine) (hr : Room k callerA)
    (hT : ∀ q ∈ tabs, PySem.W.CodeHd s₁.heap q.1 q.2.1 ∧ s₁.heap.get? q.2.1 = some (PySem.W.tabObj #[])) (hnt : PySem.W.noTabs K = true) (nd : (tabs.map fun q => q.2.1).Nodup)
    (F : ∀ base : Heap, K.In base → base.Ns mainGlobals mg → FnOk P w K mg base CX k fa fd [x] sp) (hbind : ∀ (s : Shared) (u : Value), BindsTo s fd ⟨[u], []⟩ [(x, u)])
    (hsp : ∀ H : Hp, SqL K H a (ns.map V.int) → (∀ q ∈ tabs, H q.2.1 = some (.tbl q.2.2)) → sp [.ref a] H (fun v _ => v = .bl true) fun _ _ _ => False)
    (hCX : ∀ H e s', CX [] H s₁ (fun _ _ _ => False) e s' → False) :
    codeAny (model P w) callerA (.call (.ref fa) ⟨[.ref a], []⟩) (fun r s' => r = .ok (.ret (.bool true)) ∧ OldK s₁.heap s'.heap ∧ s'.os = s₁.os ∧ AllBare s'.gens) s₁ := by
  have rv := vals_ints hi
  have lenV := hi.length
  have aP : ∀ q ∈ tabs, q.2.1 ≠ a := fun q hq z => by
    have e := (hT q hq).2
    rw [z, ha] at e; cases e
  have core : ∀ H : Hp, SqL K H a (ns.map V.int) → (∀ q ∈ tabs, H q.2.1 = some (.tbl q.2.2)) →
      (∀ b u, H b = some u → (b = a ∧ K.lookup a = none ∧ ∃ xs, u = .frz { cls := .type "list", data := .seq vs.toArray } (.lst xs)) ∨ ∃ q ∈ tabs, b = q.2.1 ∧ u = .tbl q.2.2) → HOk P w H s₁.heap →
      codeAny (model P w) callerA (.call (.ref fa) ⟨[.ref a], []⟩) (fun r s' => r = .ok (.ret (.bool true)) ∧ OldK s₁.heap s'.heap ∧ s'.os = s₁.os ∧ AllBare s'.gens) s₁ := by
    intro H hS hP hA hok
    have base_of : ∀ {b : Addr} {o : Obj}, s₁.heap.get? b = some o → H b = none → (hidT s₁.heap H).get? b = some o := fun e n => hidT_get e n
    have noA : ∀ {b : Addr} {o : Obj}, s₁.heap.get? b = some o → o.cls ≠ .type "list" ∨ (∀ n, o.data ≠ .seq vs.toArray n) → o ≠ PySem.W.tabObj #[] → H b = none := fun {b o} e d1 d2 => by
      cases q : H b with
      | none => rfl
      | some u =>
        rcases hA b u q with ⟨rfl, _, _⟩ | ⟨t, ht, rfl, _⟩
        · rw [ha] at e; cases e
          rcases d1 with d1 | d1
          · exact absurd rfl d1
          · exact absurd rfl (d1 _)
        · have e2 := (hT t ht).2
          rw [e] at e2; cases e2
          exact absurd rfl d2
    have nsK : ∀ {b : Addr} {m : Str → Option Value}, s₁.heap.Ns b m → (hidT s₁.heap H).Ns b m := fun {b m} ⟨o, es, ep, e, d, r⟩ =>
      ⟨o, es, ep, base_of e (noA e (.inr fun n z => by rw [d] at z; cases z) fun z => by rw [z] at d; cases d), d, r⟩
    have hKb : K.In (hidT s₁.heap H) := fun b o e => base_of (KX b o e) (by
      cases q : H b with
      | none => rfl
      | some u =>
        rcases hA b u q with ⟨rfl, z, _⟩ | ⟨t, ht, rfl, _⟩
        · rw [z] at e; cases e
        · have e2 := KX _ _ e
          rw [(hT t ht).2] at e2; cases e2
          have h2 := List.all_eq_true.mp hnt _ (PySem.W.mem_of_lookupK e)
          exact absurd (show false = true from h2) Bool.false_ne_true)
    have hM : Mod K mg (hidT s₁.heap H) := ⟨hKb, nsK hns, ⟨mb, nsK hb, hbb⟩, let ⟨mc, h1, h2⟩ := hlim; ⟨mc, nsK h1, h2⟩, let ⟨b, o, a1, a2, a3, a4⟩ := hbm; ⟨b, o, a1, a2, base_of a3 (noA a3 (.inl fun z => by rw [a4.1] at z; simp at z) fun z => by rw [z] at a4; cases a4.1), a4⟩⟩
    have e0 : Env0 P w K mg (hidT s₁.heap H) callerA [] s₁ H := ⟨rfl, hM, fun b o e => of_hidT e, Nat.le_of_eq (hidT_size _ _), trivial, fun b hb => absurd (show b ∈ ([] : List Addr) from hb) (by simp), hok, .of_eq hg⟩
    refine codeAny_mono ((F _ hKb (nsK hns)).run callerA [] s₁ H ⟨[.ref a], []⟩ [.ref a] [.ref a] _ _ hr e0 (hbind s₁ (.ref a)) (.cons rfl .nil) (hsp H hS hP)) fun r s' h => ?_
    cases r with
    | error e => exact (hCX H e s' h).elim
    | ok fl =>
      cases fl with
      | next => exact False.elim h
      | brk => exact False.elim h
      | cont => exact False.elim h
      | ret u =>
        obtain ⟨v, H', os, bare, un, hok', r', q⟩ := h
        have q' : v = .bl true := q
        subst q'
        obtain rfl : u = Value.bool true := r'
        have old : ∀ b o, s₁.heap.get? b = some o → s'.heap.get? b = some o ∨ ∃ t ∈ tabs, b = t.2.1 ∧ o = PySem.W.tabObj #[] ∧ ∃ ps, s'.heap.get? b = some (PySem.W.tabObj ps) := fun b o e => by
          cases q : H b with
          | none => exact .inl (un.keep b o e q (by intro z; exact absurd (show b ∈ ([] : List Addr) from z) (by simp)) (by simp))
          | some u =>
            rcases hA b u q with ⟨rfl, _, xs, rfl⟩ | ⟨t, ht, rfl, rfl⟩
            · obtain ⟨e1, _⟩ := hok _ _ q
              obtain ⟨e2, _⟩ := hok' _ _ (un.fix _ _ q trivial)
              rw [e] at e1; cases e1
              exact .inl e2
            · obtain ⟨ps, e2, _⟩ := hok' _ _ (un.fix _ _ q trivial)
              have e3 := (hT t ht).2
              rw [e] at e3; cases e3
              exact .inr ⟨t, ht, rfl, rfl, ps, e2⟩
        refine ⟨rfl, ⟨fun b o e => ?_, fun b o e => ?_⟩, os, bare⟩
        · rcases old b o e with z | ⟨t, ht, rfl, rfl, ps, z⟩
          · exact .inl z
          · exact .inr (.inl ⟨((hT t ht).1.tab (hT t ht).2).isCodeTable, rfl, #[], ps, rfl, by rw [Array.empty_append]; exact z⟩)
        · rcases old b o e with z | ⟨t, ht, rfl, rfl, ps, z⟩
          · exact ⟨o, z⟩
          · exact ⟨_, z⟩
  let Ht : Hp := fun b => (tabs.find? fun q => q.2.1 == b).map fun q => HO.tbl q.2.2
  have HtP : ∀ q ∈ tabs, Ht q.2.1 = some (.tbl q.2.2) := fun q hq => by
    show Option.map _ (tabs.find? _) = _
    cases e : tabs.find? fun r => r.2.1 == q.2.1 with
    | none =>
      have := List.find?_eq_none.mp e q hq
      simp at this
    | some r =>
      have h1 := List.find?_some e
      have h2 := List.mem_of_find?_eq_some e
      have h3 : r.2.1 = q.2.1 := by simpa using h1
      have : r = q := by
        obtain ⟨i, hi⟩ := List.mem_iff_getElem?.mp h2
        obtain ⟨j, hj⟩ := List.mem_iff_getElem?.mp hq
        have ei : (tabs.map fun q => q.2.1)[i]? = some r.2.1 := by rw [List.getElem?_map, hi]; rfl
        have ej : (tabs.map fun q => q.2.1)[j]? = some r.2.1 := by rw [List.getElem?_map, hj, h3]; rfl
        obtain ⟨i1, i2⟩ := List.getElem?_eq_some_iff.mp ei
        obtain ⟨j1, j2⟩ := List.getElem?_eq_some_iff.mp ej
        have := (List.getElem_inj nd).mp (i2.trans j2.symm)
        subst this
        rw [hi] at hj; exact Option.some.inj hj
      subst this
      rfl
  have HtA : ∀ b u, Ht b = some u → ∃ q ∈ tabs, b = q.2.1 ∧ u = .tbl q.2.2 := fun b u e => by
    have e : Option.map (fun q => HO.tbl q.2.2) (tabs.find? fun q => q.2.1 == b) = some u := e
    obtain ⟨q, hq, rfl⟩ := Option.map_eq_some_iff.mp e
    have h1 := List.find?_some hq
    exact ⟨q, List.mem_of_find?_eq_some hq, by have : q.2.1 = b := by simpa using h1
                                               exact this.symm, rfl⟩
  have tok : ∀ {H : Hp} {q}, q ∈ tabs → ObjOk P w H s₁.heap q.2.1 (.tbl q.2.2) := fun {H q} hq => ⟨#[], (hT q hq).2, trivial, fun _ _ _ => .inl rfl⟩
  cases hk : K.lookup a with
  | some o =>
    have e := KX a o hk
    rw [ha] at e
    cases e
    refine core Ht (.inr ⟨_, vs.toArray, _, hk, rfl, rfl, rfl, by rw [List.size_toArray, lenV]; exact hl, by simpa using rv⟩) HtP (fun b u z => .inr (HtA b u z)) fun b u z => ?_
    obtain ⟨q, hq, rfl, rfl⟩ := HtA b u z
    exact tok hq
  | none =>
    refine core (fun b => if b = a then some (.frz { cls := .type "list", data := .seq vs.toArray } (.lst (ns.map V.int))) else Ht b) (.inl (.inr ⟨{ cls := .type "list", data := .seq vs.toArray }, if_pos rfl⟩)) (fun q hq => (if_neg (aP q hq)).trans (HtP q hq)) (fun b u z => ?_) fun b u z => ?_
    · by_cases hb : b = a
      · have z' := (if_pos hb).symm.trans z
        cases z'
        exact .inl ⟨hb, hk, _, rfl⟩
      · exact .inr (HtA b u ((if_neg hb).symm.trans z))
    · by_cases hb : b = a
      · have z' := (if_pos hb).symm.trans z
        cases z'
        subst hb
        exact ⟨ha, by rw [List.length_map]; exact hl, vs, _, rv, ha⟩
      · obtain ⟨q, hq, rfl, rfl⟩ := HtA b u ((if_neg hb).symm.trans z)
        exact tok hq

theorem walk_ofC {l : PySem.W.OpenLaw} {n k : Nat} {q : Program} {loose : List Str} {XP : (Str → Option Value) → Heap → Prop} {YP : World → Heap → Prop} {d : DefRec} {K : Params → PySem.W.Frag} {CX : CXT} {sp : PySem.W.Frag → Sp} {x : Str} {tabs : List (Addr × Addr × List (Pos × Str))}
    (hn : l.most = some n) (hn2 : n ≤ sizeLine) (hdf : d.params.defaults = []) (hr : Room k callerA)
    (hY : ∀ (w : World) (h : Heap), YP w h → (K w.params).In h)
    (hT : ∀ (w : World) (h : Heap), YP w h → (K w.params).In h → ∀ t ∈ tabs, PySem.W.CodeHd h t.1 t.2.1 ∧ h.get? t.2.1 = some (PySem.W.tabObj #[])) (hnt : ∀ w : World, PySem.W.noTabs (K w.params) = true) (nd : (tabs.map fun q => q.2.1).Nodup)
    (F : ∀ (w : World) (mg : Str → Option Value) (fa : Addr) (h : Heap), (K w.params).In h → h.Ns mainGlobals mg → mg d.name = some (.ref fa) →
      ∃ fd : FuncData, (∀ (s : Shared) (u : Value), BindsTo s fd ⟨[u], []⟩ [(x, u)]) ∧
        ∀ base : Heap, (K w.params).In base → base.Ns mainGlobals mg → FnOk l.prog w (K w.params) mg base CX k fa fd [x] (sp (K w.params)))
    (hsp : ∀ (K : PySem.W.Frag) (H : Hp) (a : Addr) (ns : List Int), ns.length ≤ n → SqL K H a (ns.map V.int) → (∀ q ∈ tabs, H q.2.1 = some (.tbl q.2.2)) → sp K [.ref a] H (fun v _ => v = .bl true) fun _ _ _ => False)
    (hCX : ∀ (H : Hp) (s : Shared) (e : Value) (s' : Shared), CX [] H s (fun _ _ _ => False) e s' → False) :
    PySem.W.WalkO q loose XP YP l.row.toRowW d [] (fun f vs => PySem.call f vs) := by
  refine Att.attach_call hn hdf fun w s₀ s₁ mg mb fa o pm cd doc a vs ns G Y ho hd hcd hmg hobj hints hlen hg => ?_
  have KX := hY w _ Y
  obtain ⟨fd, hb, hF⟩ := F w mg fa _ KX G.T.g hmg
  exact law_callC KX G.T.g G.T.b G.T.builtins G.T.nolimit G.T.bmain hg hobj hints (Nat.le_trans hlen hn2) hr (hT w _ Y KX) (hnt w) nd hF hb (fun H hS hP => hsp (K w.params) H a ns hlen hS hP) fun H e s' => hCX H s₁ e s'
end L2

namespace L2
open PySem PySem.Spec PyProof.Rows

/-! ### calling a function that was made inside a def -/
/-- its names: parameters, the names it closes over, its own -/
structure CloScope (N ps fns : List Str) (sc : Scope) : Prop where
  kind : sc.kind = .function
  co : sc.isCoroutine = false
  gen : sc.isGenerator = false
  nd : N.Nodup
  pre : N.take (ps.length + fns.length) = ps ++ fns
  par : ∀ x ∈ ps, sc.names.lookup x = some .local
  fre : ∀ x ∈ fns, sc.names.lookup x = some .free
  nocell : ∀ y ∈ sc.names, y.2 ≠ .cell
def startC (N : List Str) (vs : List V) (fv : List (Str × V)) : St := vs.map some ++ fv.map (fun p => some p.2) ++ List.replicate (N.length - vs.length - fv.length) none
def cxClo (CX : CXT) (P : Program) (w : World) (K : PySem.W.Frag) (mg : Str → Option Value) (base : Heap) (N : List Str) (qual : Str) (scope : Scope) (f : Addr) (cd : Value) (clos : List (Str × Addr)) (A : Around) (outer : List Env) (s : Shared) (H : Hp) (E : XK) : Cx where
  prog := P
  w := w
  K := K
  mg := mg
  base := base
  A := A.deeper (PySem.W.envX qual scope s.heap.objs.size f cd clos)
  N := N
  s₀ := s
  H₀ := H
  env := PySem.W.envX qual scope s.heap.objs.size f cd clos
  outer := outer
  stack := PySem.W.envX qual scope s.heap.objs.size f cd clos :: outer
  ex := []
  calm := true
  cp := fun _ => false
  fn := fun _ => false
  pn := []
  xe := fun e s' => wpAny (model P w) (A.deeper (PySem.W.envX qual scope s.heap.objs.size f cd clos)) (leaving (PySem.W.envX qual scope s.heap.objs.size f cd clos) e) (fun _ s'' => CX outer H s E e s'') (fun e' s'' => CX outer H s E e' s'') s'

theorem lookup_nd {α : Type} : ∀ {l : List (Str × α)} {x : Str} {v : α}, (l.map (·.1)).Nodup → (x, v) ∈ l → l.lookup x = some v
  | [], _, _, _, m => by simp at m
  | (y, u) :: r, x, v, nd, m => by
    obtain ⟨n1, n2⟩ := List.nodup_cons.mp nd
    rw [List.lookup_cons]
    rcases List.mem_cons.mp m with e | m
    · cases e; simp
    · have : x ≠ y := fun e => n1 (by rw [← e]; exact List.mem_map_of_mem (f := (·.1)) m)
      rw [beq_false_of_ne this]
      exact lookup_nd n2 m
theorem zip_keys : ∀ {ps : List Str} {us : List Value}, us.length = ps.length → (ps.zip us).map (·.1) = ps
  | [], [], _ => rfl
  | p :: ps, u :: us, h => by simp [zip_keys (ps := ps) (us := us) (by simpa using h)]
  | [], _ :: _, h => by simp at h
  | _ :: _, [], h => by simp at h
theorem zip_rev_lookup {ps : List Str} {us : List Value} {i : Nat} {x : Str} {u : Value} (hl : us.length = ps.length) (nd : ps.Nodup) (h1 : ps[i]? = some x) (h2 : us[i]? = some u) : (ps.zip us).reverse.lookup x = some u := by
  refine lookup_nd ?_ (List.mem_reverse.mpr ?_)
  · rw [List.map_reverse, zip_keys hl]
    exact List.pairwise_reverse.mpr (nd.imp fun h => Ne.symm h)
  · refine List.mem_iff_getElem?.mpr ⟨i, ?_⟩
    rw [List.getElem?_zip_eq_some]
    exact ⟨h1, h2⟩

def codeOf (body : FuncBody) (env : Env) : Code := match body with
  | .stmts b => .func b env
  | .expr e => .expr e env
section
variable {CX : CXT} {P : Program} {w : World} {K : PySem.W.Frag} {mg : Str → Option Value} {base : Heap} {N ps fns : List Str} {nm qual : Str} {params : Arguments} {scope : Scope} {f : Addr} {cd : Value} {clos : List (Str × Addr)} {A : Around} {outer : List Env} {s : Shared} {H : Hp} {E : XK} {us : List Value} {vs : List V} {fv : List (Str × V)} {k : Nat}
theorem inv_startC {h' : Heap} {tk : Tok} (S : CloScope N ps fns scope) (hd : A.handled = none) (e0 : Env0 P w K mg base A outer s H) (hl : vs.length = ps.length) (r : Vals vs us) (hfv : fv.map (·.1) = fns)
    (hin : ∀ x y a, clos.lookup x = some a → clos.lookup y = some a → x = y) (hhas : ∀ x, (x, NameKind.free) ∈ scope.names → ∃ a, clos.lookup x = some a)
    (hval : ∀ x v, (x, v) ∈ fv → ∃ a, clos.lookup x = some a ∧ H a = some (.cel (some v))) (hall : ∀ x a, clos.lookup x = some a → ∃ v, H a = some (.cel (some v)))
    (hns : h'.Ns s.heap.objs.size fun x => (ps.zip us).reverse.lookup x) (hk : ∀ b o, s.heap.get? b = some o → h'.get? b = some o) :
    Inv (cxClo CX P w K mg base N qual scope f cd clos A outer s H E) [] (startC N vs fv) H { s with heap := h', toks := tk } := by
  have lenF : fv.length = fns.length := by rw [← hfv, List.length_map]
  have hpl : ps.length + fns.length ≤ N.length := by have := congrArg List.length S.pre; rw [List.length_take, List.length_append] at this; omega
  have noA : ∀ b : Addr, b ∉ (cxClo CX P w K mg base N qual scope f cd clos A outer s H E).ex := fun b z => absurd (show b ∈ ([] : List Addr) from z) (by simp)
  have lu : us.length = ps.length := by rw [← r.length]; exact hl
  have ndP : (ps ++ fns).Nodup := by rw [← S.pre]; exact S.nd.sublist (List.take_sublist _ _)
  refine ⟨⟨e0.mod, S.kind, rfl, rfl, Nat.le_refl _, fun y z c h1 h2 => hin y z c h1 h2, fun y hy => ?_, fun y c h _ => (Bool.false_ne_true h).elim, fun _ => hd, Around.frames_deeper e0.frames, .inr ⟨rfl, rfl⟩, fun b z => absurd z (noA b), e0.bs, e0.bsz, fun b _ _ => noA b, fun b z => absurd z (noA b), e0.funs, e0.frf, fun y c h _ => (Bool.false_ne_true h).elim, fun b hb => e0.hok.fresh hb⟩,
    rfl, e0.bare, Un.kept hk, ⟨_, hns, fun i y v h1 h2 h3 => ?_⟩, fun y c h => ?_, e0.hok.fresh (Nat.le_refl _), fun y c h => ?_, fun p hp => absurd (show p ∈ ([] : List (Addr × Obj)) from hp) (by simp), e0.hok.kept hk, ?_⟩
  · have hy : scope.names.lookup y = some .cell ∨ scope.names.lookup y = some .free := hy
    rcases hy with hy | hy
    · exact absurd rfl (S.nocell _ (PySem.mem_of_lookup hy))
    · exact hhas y (PySem.mem_of_lookup hy)
  · have h1 : N[i]? = some y := h1
    unfold startC at h2
    by_cases hi : i < vs.length
    · rw [List.getElem?_append_left (by simp; omega), List.getElem?_append_left (by simpa using hi), List.getElem?_map] at h2
      cases e : vs[i]? with
      | none => rw [e] at h2; cases h2
      | some a =>
        rw [e] at h2; cases h2
        obtain ⟨u, hu, rv⟩ := r.get e
        have hp : ps[i]? = some y := by
          have : (N.take (ps.length + fns.length))[i]? = some y := by rw [List.getElem?_take_of_lt (by omega)]; exact h1
          rw [S.pre, List.getElem?_append_left (by omega)] at this
          exact this
        exact ⟨u, rv, .inl ⟨S.par y (List.mem_of_getElem? hp), zip_rev_lookup lu (ndP.sublist (List.sublist_append_left _ _)) hp hu⟩⟩
    · by_cases hj : i < vs.length + fv.length
      · rw [List.getElem?_append_left (by simp; omega), List.getElem?_append_right (by simpa using hi), List.length_map, List.getElem?_map] at h2
        cases e : fv[i - vs.length]? with
        | none => rw [e] at h2; cases h2
        | some p =>
          obtain ⟨z, v'⟩ := p
          rw [e] at h2; cases h2
          have hp : fns[i - vs.length]? = some y := by
            have : (N.take (ps.length + fns.length))[i]? = some y := by rw [List.getElem?_take_of_lt (by omega)]; exact h1
            rw [S.pre, List.getElem?_append_right (by omega), ← hl] at this
            exact this
          have hz : z = y := by
            rw [← hfv, List.getElem?_map, e] at hp
            exact Option.some.inj hp
          subst hz
          obtain ⟨a, q1, q2⟩ := hval _ _ (List.mem_of_getElem? e)
          obtain ⟨u, q3, q4⟩ := e0.hok a _ q2
          obtain ⟨y', rfl, r'⟩ := q4 v' rfl
          exact ⟨y', r', .inr ⟨.inr (S.fre z (List.mem_of_getElem? hp)), a, q1, q3.keeps hk⟩⟩
      · rw [List.getElem?_append_right (by simp; omega), List.getElem?_replicate] at h2
        split at h2 <;> cases h2
  · obtain ⟨v, q2⟩ := hall y c h
    obtain ⟨u, q3, _⟩ := e0.hok c _ q2
    exact ⟨u, q3.keeps hk⟩
  · obtain ⟨v, q2⟩ := hall y c h
    exact .inr ⟨rfl, some v, q2, fun z => by cases z⟩
  · unfold startC
    show _ = N.length
    simp only [List.length_append, List.length_map, List.length_replicate]
    omega

/-- the promise of a function that was made inside a def: at the values it closes over -/
structure CloOk (P : Program) (w : World) (K : PySem.W.Frag) (mg : Str → Option Value) (base : Heap) (CX : CXT) (k : Nat) (nm qual : Str) (params : Arguments) (body : FuncBody) (scope : Scope) (ps : List Str) (sp : List (Str × V) → Sp) : Prop where
  len : ∀ fv vs H Q E, sp fv vs H Q E → vs.length = ps.length
  run : ∀ (A : Around) (outer : List Env) (s : Shared) (H : Hp) (f : Addr) (fv : List (Str × V)) (us : List Value) (vs : List V) (Q : VK) (E : XK), Room k A → Env0 P w K mg base A outer s H → CloAt H f nm qual params body scope fv → Vals vs us → sp fv vs H Q E →
    codeAny (model P w) A (.call (.ref f) ⟨us, []⟩) (CR CX outer P w H s Q E) s

theorem clo_entry {body : FuncBody} {sp : List (Str × V) → Sp} (S : CloScope N ps fns scope) (len : ∀ fv vs H Q E, sp fv vs H Q E → vs.length = ps.length ∧ fv.map (·.1) = fns)
    (hb : ∀ (clos : List (Str × Addr)) (doc pm cdv ctv : Value) (us : List Value), us.length = ps.length →
      bindArgs { name := nm, qualname := qual, params, body, scope, globals := mainGlobals, closure := clos, defaults := .none, kwdefaults := .none, doc, pyModule := pm, annotations := none, code := cdv, closureTuple := ctv, builtins := builtinsNs } ⟨us, []⟩ = pure (ps.zip us))
    (hgo : ∀ (A : Around) (outer : List Env) (s : Shared) (H : Hp) (f : Addr) (clos : List (Str × Addr)) (cdv : Value) (fv : List (Str × V)) (vs : List V) (Q : VK) (E : XK) (s1 : Shared), Room k (A.deeper (PySem.W.envX qual scope s.heap.objs.size f cdv clos)) → sp fv vs H Q E →
      Inv (cxClo CX P w K mg base N qual scope f cdv clos A outer s H E) [] (startC N vs fv) H s1 →
      codeAny (model P w) A (codeOf body (PySem.W.envX qual scope s.heap.objs.size f cdv clos)) (CR CX outer P w H s Q E) s1) :
    CloOk P w K mg base CX (k + 1) nm qual params body scope ps sp := by
  refine ⟨fun fv vs H Q E h => (len fv vs H Q E h).1, fun A outer s H f fv us vs Q E hr e0 hc r hsp => ?_⟩
  obtain ⟨clos, c, o, u, u', xs, t, doc, pm, ctv, h1, h2, h3, h4, h5, h6, h7, h8⟩ := hc
  obtain ⟨hl, hfv⟩ := len fv vs H Q E hsp
  have lu : us.length = ps.length := by rw [← r.length]; exact hl
  obtain ⟨hf, _⟩ := e0.hok f _ h1
  obtain ⟨hcO, _⟩ := e0.hok c _ h2
  have lim : s.heap.NoLimit := e0.mod.nolimit.keeps fun b o e => (e0.bs b o e).1
  have hloc : ∀ y ∈ ps.zip us, scope.names.lookup y.1 = some .local := fun ⟨n, v⟩ hy => S.par n (List.of_mem_zip hy).1
  have cr : s.heap.CodeRec (.ref c) qual := ⟨c, o, xs, t, rfl, hcO, h3, h4⟩
  have fin : wpAny (model P w) A.in1 (newFunctionEnv scope mainGlobals clos (ps.zip us) (qual ++ ".<locals>.") (some f) (.ref c) none builtinsNs)
      (fun env s₂ => s₂.heap.NoLimit ∧ codeAny (model P w) A (codeOf body env) (CR CX outer P w H s Q E) s₂) (fun e s' => CR CX outer P w H s Q E (.error e) s') s := by
    refine wpAny_newFunctionEnv S.nocell hloc (fun h' hns hsb => ?_) S.kind
    have hk : ∀ b o, s.heap.get? b = some o → h'.get? b = some o := fun b o e => hsb.extBut b o (Nat.ne_of_lt (Heap.lt_size e)) (Heap.get?_push_of_some _ e)
    exact ⟨lim.keeps hk, hgo A outer s H f clos (.ref c) fv vs Q E _ (hr.deeper _) hsp (inv_startC S hr.hd e0 hl r hfv h5 h6 h7 h8 hns hk)⟩
  cases body with
  | stmts b =>
    refine codeAny_call_function hr.depth hf rfl S.co S.gen rfl cr ?_
    rw [hb clos doc pm (.ref c) ctv us lu]
    exact wpAny_pure fin
  | expr e =>
    refine PySem.W.kla_callFunE hr.depth hf rfl S.co S.gen rfl cr ?_
    rw [hb clos doc pm (.ref c) ctv us lu]
    exact wpAny_pure fin

theorem clo_expr {e : Expr} {sp : List (Str × V) → Sp} (S : CloScope N ps fns scope) (len : ∀ fv vs H Q E, sp fv vs H Q E → vs.length = ps.length ∧ fv.map (·.1) = fns)
    (hb : ∀ (clos : List (Str × Addr)) (doc pm cdv ctv : Value) (us : List Value), us.length = ps.length →
      bindArgs { name := nm, qualname := qual, params, body := .expr e, scope, globals := mainGlobals, closure := clos, defaults := .none, kwdefaults := .none, doc, pyModule := pm, annotations := none, code := cdv, closureTuple := ctv, builtins := builtinsNs } ⟨us, []⟩ = pure (ps.zip us))
    (hbody : ∀ (A : Around) (outer : List Env) (s : Shared) (H : Hp) (f : Addr) (clos : List (Str × Addr)) (cdv : Value) (fv : List (Str × V)) (vs : List V) (Q : VK) (E : XK), Room k (A.deeper (PySem.W.envX qual scope s.heap.objs.size f cdv clos)) → sp fv vs H Q E →
      ∃ te, PE (cxClo CX0 P w K mg base N qual scope f cdv clos A outer s H E).nox e te ∧ te (startC N vs fv) H Q) : CloOk P w K mg base CX0 (k + 1) nm qual params (.expr e) scope ps sp :=
  clo_entry S len hb fun A outer s H f clos cdv fv vs Q E s1 hr hsp I => by
    obtain ⟨te, ht, hq⟩ := hbody A outer s H f clos cdv fv vs Q E hr hsp
    refine PySem.W.kla_codeExpr (wpAny_mono (ht [] s1 _ H Q (I.wish _) hq) (fun v s' ⟨x, H', J, rv, q⟩ => ?_) fun _ _ z => z.elim)
    exact ⟨x, H', J.os, J.bare, J.base, J.hok, rv, q⟩
theorem clo_stmts {b : List Stmt} {sp : List (Str × V) → Sp} (S : CloScope N ps fns scope) (len : ∀ fv vs H Q E, sp fv vs H Q E → vs.length = ps.length ∧ fv.map (·.1) = fns)
    (hb : ∀ (clos : List (Str × Addr)) (doc pm cdv ctv : Value) (us : List Value), us.length = ps.length →
      bindArgs { name := nm, qualname := qual, params, body := .stmts b, scope, globals := mainGlobals, closure := clos, defaults := .none, kwdefaults := .none, doc, pyModule := pm, annotations := none, code := cdv, closureTuple := ctv, builtins := builtinsNs } ⟨us, []⟩ = pure (ps.zip us))
    (hbody : ∀ (A : Around) (outer : List Env) (s : Shared) (H : Hp) (f : Addr) (clos : List (Str × Addr)) (cdv : Value) (fv : List (Str × V)) (vs : List V) (Q : VK) (E : XK), Room k (A.deeper (PySem.W.envX qual scope s.heap.objs.size f cdv clos)) → sp fv vs H Q E →
      ∃ t, PSs (cxClo CX0 P w K mg base N qual scope f cdv clos A outer s H E).nox b t ∧ t { nx := fun _ H' => Q .non H', rt := Q } (startC N vs fv) H) : CloOk P w K mg base CX0 (k + 1) nm qual params (.stmts b) scope ps sp :=
  clo_entry S len hb fun A outer s H f clos cdv fv vs Q E s1 hr hsp I => by
    obtain ⟨t, ht, hq⟩ := hbody A outer s H f clos cdv fv vs Q E hr hsp
    refine codeAny_func (wpAny_mono (ht [] s1 _ H _ (I.wish _) hq) (fun fl s' hs => ?_) fun _ _ z => z.elim)
    cases fl with
    | ret u =>
      obtain ⟨v, σ', H', J, rv, q⟩ := hs
      exact ⟨v, H', J.os, J.bare, J.base, J.hok, rv, q⟩
    | next =>
      obtain ⟨σ', H', J, q⟩ := hs
      exact ⟨.non, H', J.os, J.bare, J.base, J.hok, rfl, q⟩
    | brk =>
      obtain ⟨_, _, _, q⟩ := hs
      exact False.elim q
    | cont =>
      obtain ⟨_, _, _, q⟩ := hs
      exact False.elim q
end

section
variable {X : Cx} {CX : CXT} {k : Nat} {nm qual x : Str} {params : Arguments} {body : FuncBody} {scope : Scope} {ps : List Str} {sp : List (Str × V) → Sp} {p pos : Pos} {e : Expr} {es : List Expr} {t : TA} {E : XK} {i : Nat}
theorem run_clo {pins : List (Addr × Obj)} {σ : St} {H : Hp} {s : Shared} {Q : VK} {us : List Value} {vs : List V} {f : Addr} {fv : List (Str × V)} (F : CloOk X.prog X.w X.K X.mg X.base CX k nm qual params body scope ps sp) (hr : Room k X.A) (hx : Passes CX X E)
    (I : Inv X pins σ H s) (hc : CloAt H f nm qual params body scope fv) (r : Vals vs us) (h : sp fv vs H Q E) : wpAny (model X.prog X.w) X.A (call (.ref f) us) (EP X pins σ Q) X.xe s := by
  refine wpAny_call (codeAny_mono (F.run X.A X.stack s H f fv us vs Q E hr I.env0 hc r h) fun r s' hq => ?_)
  cases r with
  | error e => exact hx pins σ H s e s' I hq
  | ok fl =>
    cases fl with
    | ret u => exact I.after hq
    | next => exact False.elim hq
    | brk => exact False.elim hq
    | cont => exact False.elim hq
theorem CloAt.fn {pins : List (Addr × Obj)} {σ : St} {H : Hp} {s : Shared} {f : Addr} {fv : List (Str × V)} (hc : CloAt H f nm qual params body scope fv) (I : Inv X pins σ H s) : PySem.W.FnAt f s.heap := by
  obtain ⟨clos, c, o, u, u', xs, t, doc, pm, ctv, h1, _⟩ := hc
  obtain ⟨e, _⟩ := I.hok f _ h1
  exact ⟨_, _, _, _, e⟩
/-- f(e, ..) where the name f (slot i) holds a function that was made inside a def -/
def tCallV (nm qual : Str) (params : Arguments) (body : FuncBody) (scope : Scope) (sp : List (Str × V) → Sp) (E : XK) (i : Nat) (t : TA) : TE := fun σ H Q => ∃ f fv, σ[i]? = some (some (.ref f)) ∧ CloAt H f nm qual params body scope fv ∧ t σ H fun vs H1 => CloAt H1 f nm qual params body scope fv ∧ sp fv vs H1 Q E
theorem pe_callV (i : Nat) (F : CloOk X.prog X.w X.K X.mg X.base CX k nm qual params body scope ps sp) (hr : Room k X.A) (hx : Passes CX X E) (ha : PA X (e :: es) t) (hN : X.N[i]? = some x := by rfl) (hv : Vis X.env.scope x := by first | exact Or.inl rfl | exact Or.inr (Or.inl rfl) | exact Or.inr (Or.inr rfl)) (hd : (x == ("__debug__" : Str)) = false := by decide)
    (hcd : (x == ("__classdict__" : Str)) = false := by decide) (he : starEach (e :: es) X.env = (false, eval e X.env) :: starEach es X.env := by rfl) (hpl : (backTo pos (starEach es X.env)).any (·.1) = false := by rfl) :
    PE X (.Call (.Name x p) (e :: es) [] pos) (tCallV nm qual params body scope sp E i t) := by
  intro pins s σ H Q I h
  obtain ⟨f, fv, e1, hc, h⟩ := h
  refine wpAny_Call_Name_kw (thn (pe_var (pos := p) hN hv hd hcd pins s σ H (fun v H1 => v = .ref f ∧ H1 = H) I ⟨_, e1, rfl, rfl⟩) fun u s1 ⟨v, H1, I1, r, q1, q2⟩ => ?_)
  subst q1; subst q2
  cases (show u = Value.ref f from r)
  refine PySem.W.callWith_F (hc.fn I1) (thn (ha pos pins s1 σ H1 _ I1 h) fun us s2 ⟨vs, H2, I2, r2, q⟩ => ⟨q.1.fn I2, ?_⟩) he hpl
  exact run_clo F hr hx I2 q.1 r2 q.2
end

/-! ### a def that makes functions: the names they close over (cap) are stored once -/
theorem Inv.capd {X : Cx} {pins : List (Addr × Obj)} {σ : St} {H : Hp} {s : Shared} (hfn : ∀ x, X.fn x = true) (I : Inv X pins σ H s) (g : Str → Bool) : Inv { X with fn := g } pins σ H s := by
  have ok := I.ok
  refine ⟨⟨ok.mod, ok.kind, ok.glob, ok.blt, ok.above, ok.inj, ok.has, fun x c _ h => ok.cab x c (hfn x) h, ok.hd, ok.frames, ok.stk, ok.exf, ok.bs, ok.bsz, ok.noex, ok.exfs, ok.funs, ok.frf, ok.cab2, ok.hz⟩, I.os, I.bare, I.base, I.loc, I.cell, I.free, fun x c e => ?_, I.pin, I.hok, I.len⟩
  rcases I.freeC x c e with z | ⟨z, _⟩
  · exact .inl z
  · rw [hfn x] at z; cases z
abbrev capFn (cap : List Str) : Str → Bool := fun x => !(cap.contains x)
abbrev cxCap (cap : List Str) (CX : CXT) (P : Program) (w : World) (K : PySem.W.Frag) (mg : Str → Option Value) (base : Heap) (N : List Str) (qual : Str) (scope : Scope) (f : Addr) (cd : Value) (A : Around) (outer : List Env) (s : Shared) (H : Hp) (E : XK) : Cx :=
  { cxOf CX P w K mg base N qual scope f cd A outer s H E with fn := capFn cap }
theorem Fun.okC {P : Program} {w : World} {K : PySem.W.Frag} {mg : Str → Option Value} {base : Heap} {x qual : Str} {st : Stmt} {f c : Addr} {fd : FuncData} {N ps : List Str} {k : Nat} {sp : Sp} (cap : List Str) (F : Fun K x qual st f fd) (hc : fd.code = .ref c) (S : FnScope N ps (defScope st)) (len : ∀ vs H Q E, sp vs H Q E → vs.length = ps.length)
    (hbody : ∀ (A : Around) (outer : List Env) (s : Shared) (H : Hp) (vs : List V) (Q : VK) (E : XK), Room k (A.deeper (envOfC qual (defScope st) s.heap.objs.size f (.ref c))) → sp vs H Q E →
      ∃ t, PSs (cxCap cap CX0 P w K mg base N qual (defScope st) f (.ref c) A outer s H E).nox (defBody st) t ∧ t { nx := fun _ H' => Q .non H', rt := Q } (start N vs) H) : FnOk P w K mg base CX0 (k + 1) f fd ps sp := by
  obtain ⟨oc, od, kV, doc, pm, an, cdv, ct, osl, rfl, lk, hcd⟩ := F.ex
  obtain rfl : cdv = .ref c := hc
  refine ⟨len, fun A outer s H args us vs Q E hr e0 hb r hsp => ?_⟩
  have hl := len _ _ _ _ hsp
  have KX : K.In s.heap := e0.mod.kin.keeps fun b o e => (e0.bs b o e).1
  have lim : s.heap.NoLimit := e0.mod.nolimit.keeps fun b o e => (e0.bs b o e).1
  have hkind : ∀ y ∈ ps.zip us, (defScope st).names.lookup y.1 = some .local ∨ ((defScope st).names.lookup y.1 = some .cell ∧ ((cellsFrom (s.heap.objs.size + 1) (defScope st).names []).lookup y.1).isSome = true) := fun ⟨n, v⟩ hy => by
    rcases S.par n (List.of_mem_zip hy).1 with q | q
    · exact .inl q
    · exact .inr ⟨q, PySem.W.cellsFrom_some _ _ _ (.inl q)⟩
  refine codeAny_call_function hr.depth (KX _ _ lk) rfl S.co S.gen rfl (PySem.W.codeRec_of KX hcd) (hb _ _ _ _ ?_)
  refine wpAny_newFunctionEnv_cells S.kind hkind fun env he s1 x => ?_
  subst he
  refine ⟨lim.keeps x.toInCall.keep, codeAny_func ?_⟩
  obtain ⟨t, ht, hq⟩ := hbody A outer s H vs Q E (hr.deeper _) hsp
  have I : Inv (cxOf CX0 P w K mg base N qual (defScope st) f (.ref c) A outer s H E) [] (start N vs) H s1 := inv_start S hr.hd e0 hl r x
  have I' : Inv (cxCap cap CX0 P w K mg base N qual (defScope st) f (.ref c) A outer s H E).nox [] (start N vs) H s1 := (I.capd (fun _ => rfl) (capFn cap)).wish _
  refine wpAny_mono (ht [] s1 (start N vs) H _ I' hq) (fun fl s' hs => ?_) fun e s' hs => hs.elim
  have fin : ∀ {σ' : St} {H' : Hp} {v : V} {u : Value}, Inv (cxCap cap CX0 P w K mg base N qual (defScope st) f (.ref c) A outer s H E).nox [] σ' H' s' → RelV v u → Q v H' → CE outer P w H s Q u s' :=
    fun {σ' H' v u} J rv q => ⟨v, H', J.os, J.bare, J.base, J.hok, rv, q⟩
  cases fl with
  | ret u =>
    obtain ⟨v, σ', H', J, rv, q⟩ := hs
    exact fin J rv q
  | next =>
    obtain ⟨σ', H', J, q⟩ := hs
    exact fin (v := V.non) (u := Value.none) J rfl q
  | brk =>
    obtain ⟨_, _, _, q⟩ := hs
    exact False.elim q
  | cont =>
    obtain ⟨_, _, _, q⟩ := hs
    exact False.elim q

section
variable {X : Cx} {c P : Addr} {qs : List (Pos × Str)} {name q : Str} {params : Arguments} {scope : Scope} {pos : Pos} {fns : List Str}
theorem ce_lambda {e : Expr} (hcode : X.env.code = .ref c) (T : TabK X.K c P) (hql : X.env.qual ++ "<lambda>" = q) (hq : (pos, q) ∈ qs) (hu : (qs.all fun p => !((pos.line == p.1.line) && (pos.col == p.1.col)) || (p.2 == q)) = true)
    (hfr : (scope.names.filter fun y => y.2 == .free).map (·.1) = fns) (hdef : defaultsOf params X.env = ([], []) := by rfl) :
    PE X (.Lambda params e scope pos) (tFn X P qs fns "<lambda>" q params (.expr e) scope) := by
  subst hql
  exact pe_lambda hcode T hq hu hfr hdef
theorem cs_def {b : List Stmt} (i : Nat) (hcode : X.env.code = .ref c) (T : TabK X.K c P) (hql : qualnameIn X.env name name = q) (hq : (pos, q) ∈ qs) (hu : (qs.all fun p => !((pos.line == p.1.line) && (pos.col == p.1.col)) || (p.2 == q)) = true)
    (hfr : (scope.names.filter fun y => y.2 == .free).map (·.1) = fns) (hN : X.N.Nodup) (hi : X.N[i]? = some name) (hx : X.env.scope.names.lookup name = some .local)
    (hd0 : params.defaults = [] := by rfl) (hk0 : params.kw_defaults = [] := by rfl) (ha : annTrees params none X.env = [] := by rfl) :
    PS X (.FunctionDef name params b [] none [] scope none name pos) (tDef i (tFn X P qs fns name q params (.stmts b) scope)) := by
  subst hql
  exact ps_def hcode T hq hu hfr hN hi hx hd0 hk0 ha
end
/-- a code table of the written part -/
theorem tabK_of {K : PySem.W.Frag} {c P : Addr} (e : PySem.W.codeHdIn K c P = true) : TabK K c P := fun _ X => PySem.W.codeHd_of_K X e
end L2
namespace L2
open PySem PySem.Spec PyProof.Rows
theorem ct_pc {X : Cx} {a b : Expr} {pos : Pos} {op : CmpOp} {t : TE} (h : PC X op a b t) (h1 : behindInMarks op b = false) : PT X (.Compare a [op] [b] pos) (cB t) := by
  intro pins s σ H Q I hw
  refine wpAny_isTrue_Compare1 (thn (h pins s σ H _ I hw) fun v s1 h1 => thn h1 fun u s2 h2 => thn h2 fun c s3 ⟨x, H1, I1, r1, q1⟩ => ?_) h1
  obtain ⟨d, rfl, q⟩ := boolK_of q1
  cases r1
  exact wpAny_truthy_bool ⟨H1, I1, q⟩
end L2
namespace L2
open PySem PySem.Spec PyProof.Rows
/-- [f(x) for x in a list], f's values known -/
theorem comp_list {K : PySem.W.Frag} {l : Addr} {xs : List V} {te : TE} {caps : L2.St} {Q : VK} {H2 : Hp} (f : V → V) (hl : SqL K H2 l xs) (hn : xs.length ≤ sizeLine)
    (hs : ∀ (x : V) (H3 : Hp), x ∈ xs → Same H2 H3 → ∀ R : VK, (∀ H6, Same H3 H6 → R (f x) H6) → te (some x :: caps) H3 R)
    (hd : ∀ D H', H2 D = none → Same H2 H' → H' D = some (.lst (xs.map f)) → Q (.ref D) H') : CompAt (Itl K l) caps tAll te Q H2 := by
  unfold CompAt
  intro D hD
  refine ⟨fun i m acc H3 => m = xs.length - i ∧ i ≤ xs.length ∧ acc = (xs.take i).map f ∧ H3 D = some (.lst acc) ∧ Same H2 H3, ⟨xs.length, by simp, Nat.zero_le _, rfl, upd_same, Same.new hD⟩, ?_⟩
  rintro i m acc H3 ⟨rfl, hi, rfl, hD3, s3⟩
  refine ⟨hD3, ?_⟩
  have q := s3.seq hl
  by_cases hlt : i < xs.length
  · have hx : xs[i]? = some xs[i] := List.getElem?_eq_getElem hlt
    refine .inr ⟨⟨xs, xs[i], q, hx⟩, by simp; omega, fun v H4 y => ?_⟩
    obtain ⟨e, y⟩ := y
    have ev := y xs q
    rw [hx] at ev
    cases ev
    subst e
    refine ⟨fun _ => ?_, fun z => by cases z⟩
    refine hs _ _ (List.getElem_mem hlt) s3 _ fun H6 s6 => ⟨s6.at hD3, xs.length - (i + 1), by omega, rfl, hlt, ?_, upd_same, (s3.trans s6).put hD⟩
    rw [List.take_succ, hx, List.map_append]; rfl
  · have e : i = xs.length := by omega
    subst e
    rw [List.take_length] at hD3
    exact .inl ⟨⟨xs, q, Nat.le_refl _⟩, hd D H3 hD s3 hD3⟩
end L2

/-! dead statements; all, any of a list of bools; sum of a list of ints; xs.insert(i, y); len of what is a list or a tuple -/
namespace L2
open PySem PySem.Spec PyProof.Rows
section
variable {X : Cx}
theorem ps_dead {st : Stmt} : PS X st (fun _ _ _ => False) := fun _ _ _ _ _ _ q => q.elim
theorem pe_dead {e : Expr} : PE X e (fun _ _ _ => False) := fun _ _ _ _ _ _ q => q.elim
theorem vals_bools : ∀ {bs : List Bool} {us : List Value}, Vals (bs.map V.bl) us → us = bs.map Value.bool
  | [], [], _ => rfl
  | [], _ :: _, h => by cases h
  | _ :: _, [], h => by cases h
  | b :: bs, u :: us, h => by
    cases h with
    | cons h1 h2 =>
      rw [vals_bools h2]
      cases h1
      rfl
theorem range_all (bs : List Bool) (d : Bool) : (List.range bs.length).all (fun i => bs.getD i d) = bs.all id := by
  rw [Bool.eq_iff_iff, List.all_eq_true, List.all_eq_true]
  constructor
  · intro h x hx
    obtain ⟨i, hi, rfl⟩ := List.mem_iff_getElem.mp hx
    have := h i (by simpa using hi)
    simpa [hi] using this
  · intro h i hi
    have hi' : i < bs.length := by simpa using hi
    have := h bs[i] (List.getElem_mem hi')
    simpa [hi'] using this
theorem range_any (bs : List Bool) (d : Bool) : (List.range bs.length).any (fun i => bs.getD i d) = bs.any id := by
  rw [Bool.eq_iff_iff, List.any_eq_true, List.any_eq_true]
  constructor
  · rintro ⟨i, hi, h⟩
    have hi' : i < bs.length := by simpa using hi
    exact ⟨bs[i], List.getElem_mem hi', by simpa [hi'] using h⟩
  · rintro ⟨x, hx, h⟩
    obtain ⟨i, hi, rfl⟩ := List.mem_iff_getElem.mp hx
    exact ⟨i, by simpa using hi, by simpa [hi] using h⟩
def rAllB (K : PySem.W.Frag) (f : List Bool → Bool) : List V → Hp → VK → Prop := fun xs H Q => ∃ p bs, xs = [.ref p] ∧ SqL K H p (bs.map V.bl) ∧ Q (.bl (f bs)) H
theorem truth_bools {prog : Program} {w : World} {A : Around} (bs : List Bool) : TruthOf prog w A (fun i v => (bs.map Value.bool).toArray[i]? = some v) (fun i => bs.getD i true) := by
  intro i v s Q E hP hQ
  have e : v = .bool (bs.getD i true) := by
    simp only [List.getElem?_toArray, List.getElem?_map] at hP
    cases q : bs[i]? with
    | none => rw [q] at hP; cases hP
    | some b => rw [q] at hP; simp at hP; rw [← hP]; simp [List.getD, q]
  rw [e]
  exact wpAny_truthy_bool hQ
theorem call_allB (hc : X.calm = true) : CallR X (.builtin "all") (rAllB X.K fun bs => bs.all id) := by
  intro pins s σ H xs us Q I r h
  obtain ⟨p, bs, rfl, hq, q⟩ := h
  obtain ⟨u, rfl, rx⟩ := vals1 r
  cases rx
  obtain ⟨its, r', pl, hz⟩ := I.list hq
  have e := vals_bools r'
  subst e
  have hL := pl.isList
  have hlt : p < s.heap.objs.size := by obtain ⟨_, e, _⟩ := hL; exact Heap.lt_size e
  refine call_all_walk (wpAny_pyIter_list hL ⟨_, _, _, _, _, _, fun i => bs.getD i true, rfl, Walks.list (A := X.A.in1) (I.ok.hd hc) _ p (Nat.ne_of_lt hlt) (bs.map Value.bool).toArray, ⟨⟨_, Heap.get?_push_size _ rfl, rfl, rfl⟩, hL.push _⟩, truth_bools bs, fun h' tk hk => ?_⟩)
  refine ⟨.bl (bs.all id), H, I.kept (t' := tk) (fun b o e => hk b o (fun hb => ?_) (Heap.get?_push_of_some _ e)), ?_, q⟩
  · exact absurd (Heap.lt_size e) (by rw [List.mem_singleton.mp hb]; exact Nat.lt_irrefl _)
  · have e := range_all bs true
    simp only [List.size_toArray, List.length_map]
    rw [e]; rfl
theorem call_anyB (hc : X.calm = true) : CallR X (.builtin "any") (rAllB X.K fun bs => bs.any id) := by
  intro pins s σ H xs us Q I r h
  obtain ⟨p, bs, rfl, hq, q⟩ := h
  obtain ⟨u, rfl, rx⟩ := vals1 r
  cases rx
  obtain ⟨its, r', pl, hz⟩ := I.list hq
  have e := vals_bools r'
  subst e
  have hL := pl.isList
  have hlt : p < s.heap.objs.size := by obtain ⟨_, e, _⟩ := hL; exact Heap.lt_size e
  refine call_any_walk (wpAny_pyIter_list hL ⟨_, _, _, _, _, _, fun i => bs.getD i true, rfl, Walks.list (A := X.A.in1) (I.ok.hd hc) _ p (Nat.ne_of_lt hlt) (bs.map Value.bool).toArray, ⟨⟨_, Heap.get?_push_size _ rfl, rfl, rfl⟩, hL.push _⟩, truth_bools bs, fun h' tk hk => ?_⟩)
  refine ⟨.bl (bs.any id), H, I.kept (t' := tk) (fun b o e => hk b o (fun hb => ?_) (Heap.get?_push_of_some _ e)), ?_, q⟩
  · exact absurd (Heap.lt_size e) (by rw [List.mem_singleton.mp hb]; exact Nat.lt_irrefl _)
  · have e := range_any bs true
    simp only [List.size_toArray, List.length_map]
    rw [e]; rfl
/-- sum of a list of ints -/
def rSumI (K : PySem.W.Frag) : List V → Hp → VK → Prop := fun xs H Q => ∃ (p : Addr) (ns : List Int), xs = [.ref p] ∧ SqL K H p (ns.map V.int) ∧ Q (.int ns.sum) H
theorem call_sumI (hc : X.calm = true) : CallR X (.builtin "sum") (rSumI X.K) := by
  intro pins s σ H xs us Q I r h
  obtain ⟨p, ns, rfl, hq, q⟩ := h
  obtain ⟨u, rfl, rx⟩ := vals1 r
  cases rx
  obtain ⟨its, r', pl, hz⟩ := I.list hq
  have hi := intsAre_of r'
  have hL := pl.isList
  have hn := hi.numsOf
  obtain ⟨ys, e⟩ := hi.allInts.items
  rw [e] at hL
  have e2 : numsOf its = numsOf (intItems ys).toList := by rw [← e]
  rw [e2, nums_intItems] at hn
  refine sum_intListG (I.ok.hd hc) hL fun h' tk t' hk => ⟨.int ns.sum, H, I.kept (t' := tk) hk, ⟨t', ?_⟩, q⟩
  rw [preSum_eq, List.take_of_length_le (by simp), hn]
/-- xs.insert(i, y), i among the places -/
def rInsert : V → List V → Hp → VK → Prop := fun x vs H Q => ∃ l xs y, ∃ j : Nat, x = .ref l ∧ vs = [.int j, y] ∧ H l = some (.lst xs) ∧ xs.length < sizeLine ∧ j ≤ xs.length ∧ Q .non (upd H l (.lst (xs.take j ++ y :: xs.drop j)))
end
end L2

/-! enumerate(a list), and a list comprehension whose clause has two names: for i, x in .. -/
namespace L2
open PySem PySem.Spec PyProof.Rows
section
variable {X : Cx} {pins : List (Addr × Obj)} {σ : St} {H : Hp} {s : Shared} {h' : Heap}
/-- untracked records of ours (iterators) have turned, and an object was laid -/
theorem Inv.turnLaid {t' : Nat} {ch : List Addr} {a : Addr} {o : HO} (I : Inv X pins σ H s) (k : ∀ b u, b ∉ ch → s.heap.get? b = some u → h'.get? b = some u) (hp : s.heap.objs.size ≤ a) (new : ObjOk X.prog X.w (upd H a o) h' a o)
    (hn : ∀ b ∈ ch, H b = none) (hl : ∀ b ∈ ch, b < s.heap.objs.size) (hch : ∀ b ∈ ch, (b ∈ X.ex ∨ X.s₀.heap.objs.size ≤ b) ∧ b ≠ X.env.locals ∧ (∀ x c, X.env.cells.lookup x = some c → c ≠ b) ∧ ∀ p ∈ X.pn ++ pins, p.1 ≠ b) :
    Inv X pins σ (upd H a o) { s with heap := h', toks := t' } := by
  have nit : ∀ b u, H b = some u → b ∉ ch := fun b u e z => by rw [hn b z] at e; cases e
  have fr := I.hok.fresh hp
  refine I.call' (s' := { s with heap := h', toks := t' }) (ch := ch) rfl ⟨fun b o q _ _ hx => k b o hx q, fun b o q _ _ hx => ⟨o.slots, k b o hx q⟩, fun b o q n _ => ?_, fun b o q hx => ⟨o, k b o hx q⟩, fun b u q _ => ?_⟩ (fun b u e => ?_) I.bare hch
  · rw [upd_ne (Nat.ne_of_lt (Nat.lt_of_lt_of_le (Heap.lt_size q) hp))]; exact n
  · rw [upd_ne (ne_of_none q fr)]; exact q
  · by_cases hb : b = a
    · subst hb; rw [upd_same] at e; cases e; exact new
    · rw [upd_ne hb] at e
      refine (I.hok b u e).stay (fun c v hc q => k c v ?_ q) (fun c q => by rw [upd_ne (ne_of_none q fr)]; exact q) fun c xs q _ => by rw [upd_ne (ne_of_none q fr)]; exact q
      rcases hc with z | z
      · rw [z]; exact nit b u e
      · exact nit c _ z
end
/-- enumerate of the list at a: at each turn a new tuple -/
def Ite (K : PySem.W.Frag) (a : Addr) : It :=
  ⟨fun i H => ∃ xs x, SqL K H a xs ∧ xs[i]? = some x, fun i H v H' => ∃ T x, v = .ref T ∧ H T = none ∧ H' = upd H T (.tup [.int i, x]) ∧ ∀ xs, SqL K H a xs → xs[i]? = some x, fun i H => ∃ xs, SqL K H a xs ∧ xs.length ≤ i⟩
theorem turn_enum {P : Program} {w : World} {K : PySem.W.Frag} {es : List Expr} {k : Nat} {pos : Pos} (a e it : Addr) (hne : e ≠ it) : Turn P w K (.Tuple es k pos) (Ite K a) [e, it] e (fun i h => (∃ old, IsEnum h e it (i : Nat) old) ∧ h.IsListIter it a i) where
  mem := by simp
  obj := fun i h st b hb => by
    obtain ⟨⟨old, he⟩, ⟨o, e1, c, d⟩⟩ := st
    rcases List.mem_cons.mp hb with z | z
    · subst z
      exact ⟨_, he, fun v z => by cases z⟩
    · rw [List.mem_singleton.mp z]
      exact ⟨o, e1, fun v z => by rw [d] at z; cases z⟩
  keep := fun i h h' st kk => by
    obtain ⟨⟨old, he⟩, hit⟩ := st
    exact ⟨⟨old, kk e (by simp) _ he⟩, hit.at fun o x => kk it (by simp) o x⟩
  item := by
    intro X hP hw hK hc i pins s σ H E I hf st hg
    subst hP hw hK
    obtain ⟨xs, x, hq, hx⟩ := hg
    obtain ⟨its, rv, p, hz⟩ := I.list hq
    obtain ⟨u, hu, ru⟩ := rv.get hx
    obtain ⟨⟨old, he⟩, hit⟩ := st
    have he' := Heap.lt_size he
    have hi' : it < s.heap.objs.size := by obtain ⟨o, q, _⟩ := hit; exact Heap.lt_size q
    refine wpAny_pyNext_enum_item he hit p.isList (x := u) (by simpa using hu) hne fun h' heo hit' hT hsz hk => ?_
    refine ⟨_, rfl, wpAny_letOwnedTupleGo_enum (s := { s with heap := h', toks := s.toks + 1 }) heo fun h2 he2 hs2 => ?_⟩
    have hT2 : h2.get? s.heap.objs.size = some { cls := .type "tuple", data := .seq #[.int i s.toks, u] } := (hs2.2 _ (Nat.ne_of_gt he')).trans hT
    have I2 : Inv X pins σ (upd H s.heap.objs.size (.tup [.int i, x])) { s with heap := h2, toks := s.toks + 1 } := by
      refine I.turnLaid (ch := [e, it]) (fun b o hb q => ?_) (Nat.le_refl _) ⟨by simp [sizeLine_eq], [.int i s.toks, u], .cons ⟨_, rfl⟩ (.cons ru .nil), ⟨_, hT2, rfl, _, rfl⟩⟩ (fun b hb => (hf b hb).1) (fun b hb => ?_) fun b hb => ?_
      · have b1 : b ≠ e := fun z => hb (by simp [z])
        have b2 : b ≠ it := fun z => hb (by simp [z])
        exact (hs2.2 b b1).trans (hk b o b1 b2 q)
      · rcases List.mem_cons.mp hb with z | z
        · rw [z]; exact he'
        · rw [List.mem_singleton.mp z]; exact hi'
      · obtain ⟨f0, f1, f2, f3, f4, f5⟩ := hf b hb
        exact ⟨f3, f1, f4, f5⟩
    refine ⟨.ref s.heap.objs.size, _, I2, rfl, ⟨_, x, rfl, I.hok.fresh (Nat.le_refl _), rfl, fun ys hy => by rw [I.list_inj hy hq]; exact hx⟩, ⟨⟨u, by simpa using he2⟩, hit'.extBut hs2.extBut (Ne.symm hne)⟩, fun b hb => ?_⟩
    have hb' : b ≠ s.heap.objs.size := by
      rcases List.mem_cons.mp hb with z | z
      · rw [z]; exact Nat.ne_of_lt he'
      · rw [List.mem_singleton.mp z]; exact Nat.ne_of_lt hi'
    rw [upd_ne hb']
    exact (hf b hb).1
  done := by
    intro X hP hw hK hc i pins s σ H E I hf st hg
    subst hP hw hK
    obtain ⟨xs, hq, hx⟩ := hg
    obtain ⟨its, rv, p, hz⟩ := I.list hq
    obtain ⟨⟨old, he⟩, hit⟩ := st
    obtain ⟨f0, f1, f2, f3, f4, f5⟩ := hf it (by simp)
    have hl := rv.length
    exact wpAny_pyNext_enum_end (I.ok.hd hc) he hit p.isList (by simp; omega) fun h' eb => ⟨rfl, I.turned (t' := s.toks) (fun b o hb e => eb b o hb e) f0 f1 f3 f4 f5⟩
  self := fun _ _ _ _ _ st h => by
    obtain ⟨⟨old, he⟩, _⟩ := st
    exact wpAny_pyIter_enum he h
section
variable {X : Cx} {es : List Expr} {k : Nat} {tp : Pos}
def iEnum (K : PySem.W.Frag) (ta : TA) : TI := fun σ H R => ta σ H fun vs H1 => ∃ a, vs = [.ref a] ∧ (∃ xs, SqL K H1 a xs) ∧ R (Ite K a) H1
theorem pi_enum {l : Expr} {ta : TA} {p pos : Pos} (hg : Gl X "enumerate") (hm : X.mg "enumerate" = none) (ha : PA X [l] ta) (hs : starEach [l] X.env = [(false, eval l X.env)] := by rfl) : PI X (.Tuple es k tp) (.Call (.Name "enumerate" p) [l] [] pos) (iEnum X.K ta) := by
  intro pins s σ H R I h
  refine Call_ (ld_blt I hg hm bt_enumerate (PyProof.Rows.callWith_type1 (thn (ha pos pins s σ H _ I h) fun us s1 ⟨vs, H1, I1, r1, q1⟩ => ?_) hs rfl))
  obtain ⟨a, e, ⟨xs, hq⟩, q⟩ := q1
  subst e
  obtain ⟨u, rfl, ru⟩ := Vals.one r1
  cases ru
  obtain ⟨its, rv, pl, hz⟩ := I1.list hq
  refine call_enumerate_list pl.isList fun h' he hi hsz hk => wpAny_pyIter_enum (s := { s1 with heap := h' }) he ?_
  refine ⟨s1.heap.objs.size + 1, [s1.heap.objs.size + 1, s1.heap.objs.size], _, _, H1, rfl, I1.kept (t' := s1.toks) hk, turn_enum a _ _ (Nat.succ_ne_self _), ⟨⟨.none, by simpa using he⟩, hi⟩, fun b hb => ?_, q⟩
  rcases List.mem_cons.mp hb with z | z
  · rw [z]; exact I1.fpOk (Nat.le_succ _) (I1.hok.fresh (Nat.le_succ _))
  · rw [List.mem_singleton.mp z]; exact I1.fpOk (Nat.le_refl _) (I1.hok.fresh (Nat.le_refl _))
end
structure BlkOk2 (X : Cx) (scope : Scope) (x1 x2 : Str) (cap : List Nat) (ys : List Str) : Prop where
  kind : scope.kind = .function
  nocell : ∀ y ∈ scope.names, y.2 ≠ .cell
  locs : ∀ y ∈ scope.names, y.2 = .local → scope.names.lookup y.1 = some .local
  lx1 : scope.names.lookup x1 = some .local
  lx2 : scope.names.lookup x2 = some .local
  fr : ∀ y ∈ scope.names, y.2 = .free → X.env.kindOf y.1 = some .cell ∨ X.env.kindOf y.1 = some .free
  cap : CapOk X scope cap ys
  nd : (x1 :: x2 :: ys).Nodup
theorem blk2_mk {X : Cx} {scope : Scope} {x1 x2 : Str} {cap : List Nat} {ys : List Str} (kind : scope.kind = .function) (h1 : (scope.names.all fun y => !(y.2 == .cell)) = true) (h2 : (scope.names.all fun y => !(y.2 == .local) || scope.names.lookup y.1 == some .local) = true)
    (hx1 : scope.names.lookup x1 = some .local) (hx2 : scope.names.lookup x2 = some .local) (h3 : (scope.names.all fun y => !(y.2 == .free) || (X.env.kindOf y.1 == some .cell || X.env.kindOf y.1 == some .free)) = true) (hcap : CapOk X scope cap ys) (hnd : (x1 :: x2 :: ys).Nodup) : BlkOk2 X scope x1 x2 cap ys := by
  refine ⟨kind, fun y hy e => ?_, fun y hy e => ?_, hx1, hx2, fun y hy e => ?_, hcap, hnd⟩
  · have := List.all_eq_true.mp h1 y hy
    rw [e] at this; exact absurd this (by decide)
  · have := List.all_eq_true.mp h2 y hy
    rw [e] at this
    simpa using this
  · have := List.all_eq_true.mp h3 y hy
    rw [e] at this
    simpa using this
section
variable {X : Cx} {scope : Scope} {x1 x2 : Str} {cap : List Nat} {ys : List Str}
theorem BlkOk2.clos (B : BlkOk2 X scope x1 x2 cap ys) (ok : X.Ok) : ∀ y ∈ scope.names, y.2 = .free → ∃ c, X.env.cells.lookup y.1 = some c := fun y hy e => ok.has y.1 (B.fr y hy e)
theorem BlkOk2.sub (B : BlkOk2 X scope x1 x2 cap ys) (ok : X.Ok) {z : Str} {c : Addr} (h : (clOf X.env.cells scope.names []).lookup z = some c) : X.env.cells.lookup z = some c := by
  rcases clOf_sub (B.clos ok) h with q | q
  · simp at q
  · exact q
/-- the block's first state -/
theorem BlkOk2.start {pins : List (Addr × Obj)} {σ : St} {H₂ : Hp} {s₂ : Shared} {fp : List Addr} {h₁ : Heap} {tk : Nat} {C D : Addr} (B : BlkOk2 X scope x1 x2 cap ys) (I : Inv X pins σ H₂ s₂)
    (hf : ∀ b ∈ fp, FpOk X pins H₂ b) (hD : s₂.heap.objs.size ≤ D) (hC : s₂.heap.objs.size ≤ C) (hDC : D ≠ C) (hk : ∀ b o, s₂.heap.get? b = some o → h₁.get? b = some o)
    (hns : ∃ m, h₁.Ns C m) (hl : h₁.get? D = some { cls := .type "list", data := .seq ([] : List Value).toArray }) (hfp : ∀ b ∈ fp, b < s₂.heap.objs.size) :
    Inv (X.blk scope C (x1 :: x2 :: ys) s₂ H₂ fp) [] (none :: none :: capV σ cap) (upd H₂ D (.lst [])) { s₂ with heap := h₁, toks := tk } := by
  have ok := I.ok
  have freshC : H₂ C = none := I.hok.fresh hC
  have freshD : H₂ D = none := I.hok.fresh hD
  have lt : ∀ b o, s₂.heap.get? b = some o → b < s₂.heap.objs.size := fun b o e => Heap.lt_size e
  refine ⟨⟨ok.mod, B.kind, ok.glob, ok.blt, hC, fun y z c h1 h2 => ok.inj y z c (B.sub ok h1) (B.sub ok h2), fun y hy => ?_, fun y c h => (Bool.false_ne_true h).elim, ok.hd, ok.frames, .inl rfl, fun b hb => ⟨?_, fun y c h e => ?_⟩, I.bs, Nat.le_trans ok.bsz I.sz, fun b o e hb => ?_, fun b hb hs => ?_, I.stack, I.stkFree, fun y c h => (Bool.false_ne_true h).elim, fun b hb => I.hok.fresh hb⟩,
    rfl, I.bare, Un.laid hk hD freshD, ?_, fun y c h => ?_, ?_, fun y c h => ?_, fun p hp => ?_, ?_, ?_⟩
  · have hy' : (relabel scope X.env).names.lookup y = some .cell ∨ (relabel scope X.env).names.lookup y = some .free := hy
    have m : (y, NameKind.free) ∈ scope.names := by
      rcases hy' with q | q
      · exact relabel_of q (.inl rfl) B.nocell
      · exact relabel_of q (.inr rfl) B.nocell
    exact clOf_mem (.inl m)
  · exact Nat.ne_of_lt (Nat.lt_of_lt_of_le (hfp b hb) hC)
  · exact (hf b hb).2.2.2.2.1 y c (B.sub ok h) e
  · rcases (hf b hb).2.2.2.1 with q | q
    · exact ok.noex b o e q
    · exact absurd (Nat.lt_of_lt_of_le (Heap.lt_size (ok.bs b o e).1) q) (Nat.lt_irrefl _)
  · rcases List.mem_cons.mp (I.stkSub b hs) with q | q
    · exact (hf b hb).2.1 q
    · exact (hf b hb).2.2.1 q
  · obtain ⟨m, hm⟩ := hns
    refine ⟨m, hm, fun i y v e1 e2 e3 => ?_⟩
    cases i with
    | zero => simp at e2
    | succ i =>
     cases i with
     | zero => simp at e2
     | succ i =>
      obtain ⟨j, n1, n2, n3, n4⟩ := capOk_get (i := i) B.cap (by simpa [Cx.blk] using e1) (by simpa using e2)
      obtain ⟨m0, hn0, hl0⟩ := I.loc
      have vis : Vis X.env.scope y := by
        rcases n4 with q | q
        · exact .inr (.inl q)
        · exact .inr (.inr q)
      obtain ⟨u, ru, l⟩ := hl0 j y v n1 n2 vis
      refine ⟨u, ru, .inr ⟨relabel_free n3, ?_⟩⟩
      rcases l with ⟨k, _⟩ | ⟨_, c, ec, z⟩
      · rw [k] at n4
        rcases n4 with q | q <;> cases q
      · obtain ⟨c', ec'⟩ := clOf_mem (cells := X.env.cells) (cs := []) (.inl (lookup_mem_names n3))
        have := B.sub ok ec'
        rw [ec] at this; cases this
        obtain ⟨o, ho, hd⟩ := z
        exact ⟨c, ec', o, hk c o ho, hd⟩
  · obtain ⟨v, o, ho, hd⟩ := I.cell y c (B.sub ok h)
    exact ⟨v, o, hk c o ho, hd⟩
  · show upd H₂ D _ C = none
    rw [upd_ne (Ne.symm hDC)]; exact freshC
  · obtain ⟨v, o, ho, hd⟩ := I.cell y c (B.sub ok h)
    rw [upd_ne (Nat.ne_of_lt (Nat.lt_of_lt_of_le (lt c o ho) hD))]
    refine (I.freeC y c (B.sub ok h)).imp id fun ⟨_, o', ho', hno⟩ => ⟨rfl, o', ho', fun z i v e1 k e2 => ?_⟩
    cases i with
    | zero => simp at e2
    | succ i =>
     cases i with
     | zero => simp at e2
     | succ i =>
      obtain ⟨j, n1, n2, n3, n4⟩ := capOk_get (i := i) B.cap (by simpa [Cx.blk] using e1) (by simpa using e2)
      exact hno z j v n1 n4 n2
  · exact absurd (show p ∈ ([] : List (Addr × Obj)) from hp) (by simp)
  · exact I.hok.laid hk hD ⟨Nat.zero_le _, [], 0, .nil, hl⟩
  · simp [Cx.blk, capV, capOk_len B.cap]
/-- the frame around it, behind the block -/
theorem BlkOk2.back {pins : List (Addr × Obj)} {σ : St} {H₂ H' : Hp} {s₂ s' : Shared} {fp : List Addr} {C : Addr} {pl : List (Addr × Obj)} {σ' : St} (B : BlkOk2 X scope x1 x2 cap ys) (I : Inv X pins σ H₂ s₂)
    (hf : ∀ b ∈ fp, FpOk X pins H₂ b) (J : Inv (X.blk scope C (x1 :: x2 :: ys) s₂ H₂ fp) pl σ' H' s') : Inv X pins σ H' s' :=
  I.call' (ch := fp) J.os J.base J.hok J.bare fun b hb => by
    obtain ⟨f0, f1, f2, f3, f4, f5⟩ := hf b hb
    refine ⟨?_, f1, f4, f5⟩
    rcases f3 with q | q
    · exact .inl q
    · exact .inr q
theorem BlkOk2.far {pins : List (Addr × Obj)} {σ : St} {H₂ H' : Hp} {s₂ s' : Shared} {fp : List Addr} {C : Addr} {pl : List (Addr × Obj)} {σ' : St} (I : Inv X pins σ H₂ s₂)
    (hC : s₂.heap.objs.size ≤ C) (J : Inv (X.blk scope C (x1 :: x2 :: ys) s₂ H₂ fp) pl σ' H' s') :
    H' C = none ∧ C ≠ X.env.locals ∧ X.s₀.heap.objs.size ≤ C ∧ (∀ z c, X.env.cells.lookup z = some c → c ≠ C) ∧ ∀ p ∈ X.pn ++ pins, p.1 ≠ C := by
  refine ⟨J.free, Nat.ne_of_gt (Nat.lt_of_lt_of_le I.lt hC), Nat.le_trans I.sz hC, fun z c e q => ?_, fun p hp q => ?_⟩
  · obtain ⟨v, w⟩ := I.cell z c e
    exact absurd (Nat.lt_of_lt_of_le w.lt (by rw [q]; exact hC)) (Nat.lt_irrefl _)
  · exact absurd (Nat.lt_of_lt_of_le (Heap.lt_size (I.pin p hp).1) (by rw [q]; exact hC)) (Nat.lt_irrefl _)
end

/-- what a comprehension asks, from its iterator on; opened by CompAt2.mk alone -/
@[irreducible] def CompAt2 (K : PySem.W.Frag) (J : It) (caps : St) (tt : TT) (te : TE) (Q : VK) (H2 : Hp) : Prop := ∀ D, H2 D = none → ∃ W : CW, (∃ m, W 0 m [] (upd H2 D (.lst []))) ∧
  ∀ i m acc H3, W i m acc H3 → H3 D = some (.lst acc) ∧ ((J.stop i H3 ∧ Q (.ref D) H3) ∨ (J.go i H3 ∧ acc.length < sizeLine ∧ ∀ v H4, J.yld i H3 v H4 → ∃ T v1 v2, v = .ref T ∧ SqT K H4 T [v1, v2] ∧ tt (some v1 :: some v2 :: caps) H4 fun b H5 =>
    (b = true → te (some v1 :: some v2 :: caps) H5 fun u H6 => H6 D = some (.lst acc) ∧ ∃ m', m' < m ∧ W (i + 1) m' (acc ++ [u]) (upd H6 D (.lst (acc ++ [u])))) ∧ (b = false → ∃ m', m' < m ∧ W (i + 1) m' acc H5)))
/-- [e for x in it if c] -/
def tComp2 (K : PySem.W.Frag) (cap : List Nat) (wi : TI) (tt : TT) (te : TE) : TE := fun σ H Q => wi σ H fun J H2 => CompAt2 K J (capV σ cap) tt te Q H2
section
variable {X : Cx} {scope : Scope} {x1 x2 : Str} {cap : List Nat} {ys : List Str} {elt iter : Expr} {ifs : List Expr} {px1 px2 px pos : Pos} {kx : Nat} {wi : TI} {tt : TT} {te : TE}
/-- the block itself: from the iterator on -/
theorem comp_block2 (B : BlkOk2 X scope x1 x2 cap ys) (hc : X.calm = true) (he : ∀ C s H fp, PE (X.blk scope C (x1 :: x2 :: ys) s H fp) elt te) (ht : ∀ C s H fp, CTs (X.blk scope C (x1 :: x2 :: ys) s H fp) ifs tt)
    {pins : List (Addr × Obj)} {σ : St} {s₂ : Shared} {Q : VK} {RR : Value → Addr → Result → Shared → Prop} {itv : Value} {E : Value → Shared → Prop}
    (hp : PIE X pins σ (.Tuple [.Name x1 px1, .Name x2 px2] kx px) (fun J H2 => CompAt2 X.K J (capV σ cap) tt te Q H2) itv s₂)
    (hR : ∀ (D C : Addr) (H' : Hp) (s' : Shared), Inv X pins σ H' s' → (∃ m, s'.heap.Ns C m) → H' C = none → C ≠ X.env.locals → X.s₀.heap.objs.size ≤ C → (∀ z c, X.env.cells.lookup z = some c → c ≠ C) → (∀ p ∈ X.pn ++ pins, p.1 ≠ C) → Q (.ref D) H' → RR (.ref D) C (.ok .next) s') :
    wpAny (model X.prog X.w) X.A (newList []) (fun acc s₃ => wpAny (model X.prog X.w) X.A (newFunctionEnv scope X.env.globals (clOf X.env.cells scope.names []) [] X.env.qual none .none (some X.env)) (fun cenv s₄ =>
      codeAny (model X.prog X.w) X.A (.compStart (.ListComp elt [⟨.Tuple [.Name x1 px1, .Name x2 px2] kx px, iter, ifs, 0⟩] scope pos) 0 itv acc { cenv with scope := relabel scope X.env }) (RR acc cenv.locals) s₄) E s₃) E s₂ := by
  obtain ⟨it, fp, tn, J, H2, e, I2, T, st2, f2, hw⟩ := hp
  subst e
  unfold CompAt2 at hw
  refine wpAny_newObj_type (wpAny_newFunctionEnv B.nocell (by intro y hy; simp at hy) (fun h₁ hns₁ hsb₁ => ?_) B.kind)
  dsimp only at hns₁ hsb₁ ⊢
  generalize hG : s₂.heap.push { cls := .type "list", dict := none, data := .seq ([] : List Value).toArray } = G at hns₁ hsb₁ ⊢
  have hsz : G.objs.size = s₂.heap.objs.size + 1 := by rw [← hG, Heap.size_push]
  have hCle : s₂.heap.objs.size ≤ G.objs.size := by omega
  have hDC : s₂.heap.objs.size ≠ G.objs.size := by omega
  have old : ∀ b o, s₂.heap.get? b = some o → h₁.get? b = some o := fun b o q => by
    have lt := Heap.lt_size q
    refine hsb₁.extBut b o (Nat.ne_of_lt (Nat.lt_of_lt_of_le lt hCle)) (Heap.get?_push_of_some _ ?_)
    rw [← hG]; exact Heap.get?_push_of_some _ q
  have accAt : h₁.get? s₂.heap.objs.size = some { cls := .type "list", data := .seq ([] : List Value).toArray } := by
    refine hsb₁.extBut _ _ hDC (Heap.get?_push_of_some _ ?_)
    rw [← hG]; exact Heap.get?_push_size _ rfl
  have hfp : ∀ b ∈ fp, b < s₂.heap.objs.size := fun b hb => by
    obtain ⟨o, ho, _⟩ := T.obj _ _ st2 b hb
    exact Heap.lt_size ho
  obtain ⟨W, ⟨m0, w0⟩, turn⟩ := hw s₂.heap.objs.size (I2.hok.fresh (Nat.le_refl _))
  generalize htk : s₂.toks + ([] : List (Str × Value)).length = tk
  have I0 := B.start (tk := tk) (C := G.objs.size) I2 f2 (Nat.le_refl _) hCle hDC old ⟨_, hns₁⟩ accAt hfp
  have st0 : tn 0 h₁ := T.keep _ _ _ st2 fun b hb o q => old b o q
  -- what stays true of the iterator's objects
  have f3 : ∀ {H' : Hp}, (∀ b ∈ fp, H' b = none) → ∀ b ∈ fp, FpOk (X.blk scope G.objs.size (x1 :: x2 :: ys) s₂ H2 fp) [] H' b := fun hn b hb => by
    obtain ⟨f0, f1, f2', f3', f4, f5⟩ := f2 b hb
    refine ⟨hn b hb, Nat.ne_of_lt (Nat.lt_of_lt_of_le (hfp b hb) hCle), fun hs => ?_, .inl hb, fun z c q => f4 z c (B.sub I2.ok q), fun p hp => absurd (show p ∈ ([] : List (Addr × Obj)) from hp) (by simp)⟩
    rcases List.mem_cons.mp (I2.stkSub b hs) with q | q
    · exact f1 q
    · exact f2' q
  have n0 : ∀ b ∈ fp, upd H2 s₂.heap.objs.size (.lst []) b = none := fun b hb => by
    rw [upd_ne (Nat.ne_of_lt (hfp b hb))]; exact (f2 b hb).1
  have loop : ∀ sx : Shared, sx = { s₂ with heap := h₁, toks := tk } →
      codeAny (model X.prog X.w) X.A (.compLoop (.ListComp elt [⟨.Tuple [.Name x1 px1, .Name x2 px2] kx px, iter, ifs, 0⟩] scope pos) 0 (.ref it) (.ref s₂.heap.objs.size) (compEnvC scope (clOf X.env.cells scope.names []) G.objs.size X.env)) (RR (.ref s₂.heap.objs.size) G.objs.size) sx := by
    rintro sx rfl
    refine comp_turns (fun n s' => ∃ i acc H', Inv (X.blk scope G.objs.size (x1 :: x2 :: ys) s₂ H2 fp) [] (none :: none :: capV σ cap) H' s' ∧ tn i s'.heap ∧ (∀ b ∈ fp, H' b = none) ∧ W i n acc H') ?_ m0 ⟨0, [], _, I0, st0, n0, w0⟩
    rintro n s3 ⟨i, acc, H3, I3, st3, fr3, w3⟩
    obtain ⟨hD3, alt⟩ := turn i n acc H3 w3
    rcases alt with ⟨stop, q⟩ | ⟨go, hlen, step⟩
    · refine wpAny_mono (T.done (X.blk scope G.objs.size (x1 :: x2 :: ys) s₂ H2 fp) rfl rfl rfl hc i [] s3 _ H3 (fun _ _ => False) I3 (f3 fr3) st3 stop) (fun r s4 ⟨hr, I4⟩ => ?_) fun _ _ z => z.elim
      subst hr
      obtain ⟨g1, g2, g3, g4, g5⟩ := BlkOk2.far I2 hCle I4
      obtain ⟨m4, hm4, _⟩ := I4.loc
      exact hR _ _ H3 s4 (B.back I2 f2 I4) ⟨m4, hm4⟩ g1 g2 g3 g4 g5 q
    · refine wpAny_mono (T.item (X.blk scope G.objs.size (x1 :: x2 :: ys) s₂ H2 fp) rfl rfl rfl hc i [] s3 _ H3 (fun _ _ => False) I3 (f3 fr3) st3 go) (fun r s4 ⟨u, hr, h4⟩ => ?_) fun _ _ z => z.elim
      subst hr
      refine wpAny_mono h4 (fun _ s4 ⟨v, H4, I4, rv, y4, st4, fr4⟩ => ?_) fun _ _ z => z.elim
      have I4' := I4.pinned (f3 fr4) (T.obj _ _ st4)
      obtain ⟨Tt, v1, v2, ev, hT4, step⟩ := step v H4 y4
      have G0 : PG (X.blk scope G.objs.size (x1 :: x2 :: ys) s₂ H2 fp) (.Tuple [.Name x1 px1, .Name x2 px2] kx px) (gTup X.K 2 (gCons (gName 0) (gCons (gName 1) gNil))) :=
        pg_tup hc (pgs_cons (pg_name (i := 0) B.nd rfl (.inl (lookup_relabel_local B.lx1)) (.inr (lookup_relabel_local B.lx1))) (pgs_cons (pg_name (i := 1) B.nd rfl (.inl (lookup_relabel_local B.lx2)) (.inr (lookup_relabel_local B.lx2))) pgs_nil))
      refine wpAny_mono (G0 _ s4 _ H4 v u (fun σ5 H5 => σ5 = some v1 :: some v2 :: capV σ cap ∧ H4 = H5) I4' rv ⟨Tt, [v1, v2], ev, hT4, rfl, ⟨v1, _, rfl, v2, _, rfl, ⟨rfl, rfl, rfl⟩⟩⟩) (fun _ s5 z5 => ?_) fun _ _ z => z.elim
      obtain ⟨σ5, H5, I5, e5, e6⟩ := z5
      subst e5 e6
      have I5' : Inv (X.blk scope G.objs.size (x1 :: x2 :: ys) s₂ H2 fp) ([] ++ pinsAt fp s4.heap) (some v1 :: some v2 :: capV σ cap) H4 s5 := I5
      refine wpAny_mono (ht _ _ _ _ _ s5 _ H4 _ I5' step) (fun ok s6 ⟨H6, I6, q6⟩ => ?_) fun _ _ z => z.elim
      have pinned : ∀ {σ7 : St} {H7 : Hp} {s7 : Shared}, Inv (X.blk scope G.objs.size (x1 :: x2 :: ys) s₂ H2 fp) ([] ++ pinsAt fp s4.heap) σ7 H7 s7 → tn (i + 1) s7.heap ∧ ∀ b ∈ fp, H7 b = none := fun {σ7 H7 s7} I7 => by
        refine ⟨T.keep _ _ _ st4 fun b hb o e => (I7.pin (b, o) (List.mem_append_right _ (List.mem_append_right _ (mem_pinsAt hb e)))).1, fun b hb => ?_⟩
        obtain ⟨o, e, d⟩ := T.obj _ _ st4 b hb
        exact (I7.pin (b, o) (List.mem_append_right _ (List.mem_append_right _ (mem_pinsAt hb e)))).2.1
      have weak : ∀ {H7 : Hp} {s7 : Shared}, Inv (X.blk scope G.objs.size (x1 :: x2 :: ys) s₂ H2 fp) ([] ++ pinsAt fp s4.heap) (some v1 :: some v2 :: capV σ cap) H7 s7 → Inv (X.blk scope G.objs.size (x1 :: x2 :: ys) s₂ H2 fp) [] (none :: none :: capV σ cap) H7 s7 := fun I7 =>
        (I7.unpinned (pins := [])).weak rfl fun j z e => by
          cases j with
          | zero => simp at e
          | succ j =>
            cases j with
            | zero => simp at e
            | succ j => simpa using e
      cases ok with
      | false =>
        rw [if_neg Bool.false_ne_true]
        obtain ⟨m', hm', w'⟩ := q6.2 rfl
        exact ⟨m', hm', i + 1, acc, H6, weak I6, (pinned I6).1, (pinned I6).2, w'⟩
      | true =>
        rw [if_pos rfl]
        refine wpAny_mono (he _ _ _ _ _ s6 _ H6 _ I6 (q6.1 rfl)) (fun y s7 ⟨z, H7, I7, rz, hD7, m', hm', w'⟩ => ?_) fun _ _ z => z.elim
        refine wpAny_mono (mt_append (X := X.blk scope G.objs.size (x1 :: x2 :: ys) s₂ H2 fp) _ s7 _ H7 (.ref s₂.heap.objs.size) [z] (.ref s₂.heap.objs.size) [y] (fun _ H8 => H8 = upd H7 s₂.heap.objs.size (.lst (acc ++ [z]))) I7 rfl (.cons rz .nil) ⟨_, acc, z, rfl, rfl, hD7, hlen, rfl⟩) (fun _ s8 ⟨_, H8, I8, _, e8⟩ => ?_) fun _ _ z => z.elim
        subst e8
        exact ⟨m', hm', i + 1, _, _, weak I8, (pinned I8).1, (pinned I8).2, w'⟩
  exact codeAny_compStart_list (loop _ rfl) (T.self _ 0 _ _ _ st0 (loop _ rfl))
theorem pe_comp2 (B : BlkOk2 X scope x1 x2 cap ys) (hc : X.calm = true) (hi : PI X (.Tuple [.Name x1 px1, .Name x2 px2] kx px) iter wi) (he : ∀ C s H fp, PE (X.blk scope C (x1 :: x2 :: ys) s H fp) elt te) (ht : ∀ C s H fp, CTs (X.blk scope C (x1 :: x2 :: ys) s H fp) ifs tt)
    (hs : ∀ x, foldedSetIterable iter X.env x = pure x := by intro _; rfl) : PE X (.ListComp elt [⟨.Tuple [.Name x1 px1, .Name x2 px2] kx px, iter, ifs, 0⟩] scope pos) (tComp2 X.K cap wi tt te) := by
  intro pins s σ H Q I h
  rw [eval_ListComp]
  refine wpAny_comprehension_free (use := none) rfl hs (closure_is (B.clos I.ok)) B.kind B.locs ?_
  refine thn (hi pins s σ H _ I h) fun v s1 h1 => thn h1 fun itv s2 h2 => ?_
  refine comp_block2 (Q := Q) (RR := fun acc C => compPost (model X.prog X.w) X.A X.xe none (EP X pins σ Q) acc C) B hc he ht h2 ?_
  rintro D C H' s' J ⟨m, hm⟩ g1 g2 g3 g4 g5 q
  exact ⟨m, hm, fun h' sb => ⟨.ref D, H', J.turned (t' := s'.toks) (fun b o hb e => (sb.2 b hb).trans e) g1 g2 (.inr g3) g4 g5, rfl, q⟩⟩
/-- name = [e for x in it if c], stored ahead of the block's end -/
theorem ps_setComp2 {i : Nat} {y : Str} {pos' spos : Pos} (B : BlkOk2 X scope x1 x2 cap ys) (hc : X.calm = true) (hN : X.N.Nodup) (hi : X.N[i]? = some y) (hy : X.env.scope.names.lookup y = some .local) (hit : PI X (.Tuple [.Name x1 px1, .Name x2 px2] kx px) iter wi)
    (he : ∀ C s H fp, PE (X.blk scope C (x1 :: x2 :: ys) s H fp) elt te) (ht : ∀ C s H fp, CTs (X.blk scope C (x1 :: x2 :: ys) s H fp) ifs tt)
    (hsw : swapsWith (.ListComp elt [⟨.Tuple [.Name x1 px1, .Name x2 px2] kx px, iter, ifs, 0⟩] scope pos) (some (.Name y pos')) spos.line X.env = pure true := by rfl)
    (hs : ∀ x, foldedSetIterable iter X.env x = pure x := by intro _; rfl) :
    PS X (.Assign [.Name y pos'] (.ListComp elt [⟨.Tuple [.Name x1 px1, .Name x2 px2] kx px, iter, ifs, 0⟩] scope pos) spos) (tAsg (tComp2 X.K cap wi tt te) (gName i)) := by
  intro pins s σ H D I h
  rw [exec_Assign_Name_used _ _ _ _ hsw]
  refine wpAny_bind (wpAny_standAt (wpAny_bind ?_))
  show wpAny _ X.A (do let _ ← comprehension (.ListComp elt [⟨.Tuple [.Name x1 px1, .Name x2 px2] kx px, iter, ifs, 0⟩] scope pos) scope X.env _ (newList []) false (eval iter X.env) (some (assign (.Name y pos') X.env))) _ _ s
  refine wpAny_bind (wpAny_mono (wpAny_comprehension_free (use := some (assign (.Name y pos') X.env)) (Q := fun _ s' => SP X pins D .next s') rfl hs (closure_is (B.clos I.ok)) B.kind B.locs
    (thn (hit pins s σ H _ I h) fun v s1 h1 => thn h1 fun itv s2 h2 => ?_)) (fun _ s' hq => wpAny_pure (wpAny_pure hq)) fun _ _ e => e)
  refine comp_block2 (Q := fun v H1 => gName i v σ H1 D.nx) (RR := fun acc C => compPost (model X.prog X.w) X.A X.xe (some (assign (.Name y pos') X.env)) (fun _ s' => SP X pins D .next s') acc C) B hc he ht h2 ?_
  rintro Da C H' s' J ⟨m, hm⟩ g1 g2 g3 g4 g5 q
  show wpAny _ X.A (assign (.Name y pos') X.env (.ref Da)) _ _ s'
  refine (wpAny_assign_Name (store_ok2 (v := .ref Da) J hN hi (.inl hy) rfl (fun s4 J4 ⟨a, sb, ha⟩ => ?_) (.inr hy)))
  have hCa : C ≠ a := by
    rcases ha with z | z
    · rw [z]; exact g2
    · exact fun w => g4 y a z w.symm
  refine ⟨m, hm.sameBut sb hCa, fun h' sb' => ?_⟩
  exact ⟨_, H', J4.turned (t' := s4.toks) (fun b o hb e => (sb'.2 b hb).trans e) g1 g2 (.inr g3) g4 g5, q⟩
end
end L2

/-! comprehensions by an invariant of what was made; with a test; over enumerate; the same data on both sides of == -/
namespace L2
open PySem PySem.Spec PyProof.Rows
theorem paired_snoc {α β : Type} {F : α → β → Prop} {a : α} {b : β} (h : F a b) : ∀ {as : List α} {bs : List β}, Paired F as bs → Paired F (as ++ [a]) (bs ++ [b])
  | _, _, .nil => .cons h .nil
  | _, _, .cons x xs => .cons x (paired_snoc h xs)
theorem paired_get {α β : Type} {F : α → β → Prop} : ∀ {as : List α} {bs : List β} {i : Nat} {b : β}, Paired F as bs → bs[i]? = some b → ∃ a, as[i]? = some a ∧ F a b
  | _, _, i, b, .nil, h => by simp at h
  | _, _, 0, b, .cons x xs, h => by simp at h; subst h; exact ⟨_, rfl, x⟩
  | _, _, i + 1, b, .cons x xs, h => by obtain ⟨a, h1, h2⟩ := paired_get (i := i) xs (by simpa using h); exact ⟨a, by simpa using h1, h2⟩
theorem paired_get1 {α β : Type} {F : α → β → Prop} : ∀ {as : List α} {bs : List β} {i : Nat} {a : α}, Paired F as bs → as[i]? = some a → ∃ b, bs[i]? = some b ∧ F a b
  | _, _, i, b, .nil, h => by simp at h
  | _, _, 0, b, .cons x xs, h => by simp at h; subst h; exact ⟨_, rfl, x⟩
  | _, _, i + 1, b, .cons x xs, h => by obtain ⟨a, h1, h2⟩ := paired_get1 (i := i) xs (by simpa using h); exact ⟨a, by simpa using h1, h2⟩
/-- the heap without D -/
def del (H : Hp) (D : Addr) : Hp := fun b => if b = D then none else H b
theorem del_self {H : Hp} {D : Addr} : del H D D = none := by unfold del; rw [if_pos rfl]
theorem del_ne {H : Hp} {D b : Addr} (h : b ≠ D) : del H D b = H b := by unfold del; rw [if_neg h]
theorem del_same {H : Hp} {D : Addr} : Same (del H D) H := fun b u e => by
  by_cases h : b = D
  · rw [h, del_self] at e; cases e
  · rw [del_ne h] at e; exact e
theorem del_upd {H : Hp} {D : Addr} {o : HO} : del (upd H D o) D = del H D := by
  funext b
  by_cases h : b = D
  · rw [h, del_self, del_self]
  · rw [del_ne h, del_ne h, upd_ne h]
theorem del_none {H : Hp} {D : Addr} (h : H D = none) : del H D = H := by
  funext b
  by_cases e : b = D
  · rw [e, del_self, h]
  · rw [del_ne e]
theorem same_del {H H' : Hp} {D : Addr} (s : Same H H') : Same (del H D) (del H' D) := fun b u e => by
  by_cases h : b = D
  · rw [h, del_self] at e; cases e
  · rw [del_ne h] at e ⊢; exact s b u e
/-- [e for x in range(..)]: an invariant of what was made -/
theorem comp_itsP {lo st : Int} {n : Nat} {te : TE} {caps : L2.St} {Q : VK} {H2 : Hp} (Pv : Nat → List V → Hp → Prop) (hn : n ≤ sizeLine) (h0 : Pv 0 [] H2)
    (hs : ∀ (i : Nat) acc H3 H3', i < n → Same H2 H3 → Same H3 H3' → Pv i acc H3 → ∀ R : VK, (∀ u H6', Same H3' H6' → (∀ H6, Same H3 H6 → (∀ p o, (H3' p = none ∨ ∀ ys, o ≠ HO.lst ys) → H6' p = some o → H6 p = some o) → Pv (i + 1) (acc ++ [u]) H6) → R u H6') → te (some (.int (lo + i * st)) :: caps) H3' R)
    (hd : ∀ D acc H H', H2 D = none → H D = none → Same H2 H → Same H H' → Pv n acc H → acc.length = n → H' D = some (.lst acc) → Q (.ref D) H') : CompAt (Its lo st n) caps tAll te Q H2 := by
  unfold CompAt
  intro D hD
  refine ⟨fun i m acc H3 => m = n - i ∧ i ≤ n ∧ acc.length = i ∧ H3 D = some (.lst acc) ∧ Same H2 (del H3 D) ∧ Pv i acc (del H3 D), ⟨n, by simp, Nat.zero_le _, rfl, upd_same, ?_, ?_⟩, ?_⟩
  · rw [del_upd, del_none hD]; exact Same.refl _
  · rw [del_upd, del_none hD]; exact h0
  rintro i m acc H3 ⟨rfl, hi, hacc, hD3, s3, p3⟩
  refine ⟨hD3, ?_⟩
  by_cases hlt : i < n
  · refine .inr ⟨hlt, by omega, fun v H4 y => ?_⟩
    obtain ⟨e, y⟩ := y
    subst e y
    refine ⟨fun _ => ?_, fun z => by cases z⟩
    refine hs i acc _ _ hlt s3 del_same p3 _ fun u H6' s6 k => ⟨s6.at hD3, n - (i + 1), by omega, rfl, hlt, by simp [hacc], upd_same, ?_, ?_⟩
    · rw [del_upd]; exact s3.trans (same_del s6)
    · rw [del_upd]
      refine k _ (same_del s6) fun p o q1 q2 => ?_
      rw [del_ne (fun z => by
        rcases q1 with q1 | q1
        · rw [z, hD3] at q1; cases q1
        · rw [z, s6.at hD3] at q2; cases q2; exact q1 _ rfl)]
      exact q2
  · have e : i = n := by omega
    subst e
    exact .inl ⟨Nat.le_refl _, hd D acc _ H3 hD del_self s3 del_same p3 hacc hD3⟩
theorem comp_listP {K : PySem.W.Frag} {l : Addr} {xs : List V} {te : TE} {caps : L2.St} {Q : VK} {H2 : Hp} (Pv : Nat → List V → Hp → Prop) (hl : SqL K H2 l xs) (hn : xs.length ≤ sizeLine) (h0 : Pv 0 [] H2)
    (hs : ∀ (i : Nat) x acc H3 H3', xs[i]? = some x → Same H2 H3 → Same H3 H3' → Pv i acc H3 → ∀ R : VK, (∀ u H6', Same H3' H6' → (∀ H6, Same H3 H6 → (∀ p o, (H3' p = none ∨ ∀ ys, o ≠ HO.lst ys) → H6' p = some o → H6 p = some o) → Pv (i + 1) (acc ++ [u]) H6) → R u H6') → te (some x :: caps) H3' R)
    (hd : ∀ D acc H H', H2 D = none → H D = none → Same H2 H → Same H H' → Pv xs.length acc H → acc.length = xs.length → H' D = some (.lst acc) → Q (.ref D) H') : CompAt (Itl K l) caps tAll te Q H2 := by
  unfold CompAt
  intro D hD
  refine ⟨fun i m acc H3 => m = xs.length - i ∧ i ≤ xs.length ∧ acc.length = i ∧ H3 D = some (.lst acc) ∧ Same H2 (del H3 D) ∧ Pv i acc (del H3 D), ⟨xs.length, by simp, Nat.zero_le _, rfl, upd_same, ?_, ?_⟩, ?_⟩
  · rw [del_upd, del_none hD]; exact Same.refl _
  · rw [del_upd, del_none hD]; exact h0
  rintro i m acc H3 ⟨rfl, hi, hacc, hD3, s3, p3⟩
  refine ⟨hD3, ?_⟩
  have q := (s3.trans del_same).seq hl
  by_cases hlt : i < xs.length
  · have hx : xs[i]? = some xs[i] := List.getElem?_eq_getElem hlt
    refine .inr ⟨⟨xs, xs[i], q, hx⟩, by omega, fun v H4 y => ?_⟩
    obtain ⟨e, y⟩ := y
    have ev := y xs q
    rw [hx] at ev
    cases ev
    subst e
    refine ⟨fun _ => ?_, fun z => by cases z⟩
    refine hs i _ acc _ _ hx s3 del_same p3 _ fun u H6' s6 k => ⟨s6.at hD3, xs.length - (i + 1), by omega, rfl, hlt, by simp [hacc], upd_same, ?_, ?_⟩
    · rw [del_upd]; exact s3.trans (same_del s6)
    · rw [del_upd]
      refine k _ (same_del s6) fun p o q1 q2 => ?_
      rw [del_ne (fun z => by
        rcases q1 with q1 | q1
        · rw [z, hD3] at q1; cases q1
        · rw [z, s6.at hD3] at q2; cases q2; exact q1 _ rfl)]
      exact q2
  · have e : i = xs.length := by omega
    subst e
    exact .inl ⟨⟨xs, q, Nat.le_refl _⟩, hd D acc _ H3 hD del_self s3 del_same p3 hacc hD3⟩
theorem comp_tupP {K : PySem.W.Frag} {l : Addr} {xs : List V} {te : TE} {caps : L2.St} {Q : VK} {H2 : Hp} (Pv : Nat → List V → Hp → Prop) (hl : SqT K H2 l xs) (hn : xs.length ≤ sizeLine) (h0 : Pv 0 [] H2)
    (hs : ∀ (i : Nat) x acc H3 H3', xs[i]? = some x → Same H2 H3 → Same H3 H3' → Pv i acc H3 → ∀ R : VK, (∀ u H6', Same H3' H6' → (∀ H6, Same H3 H6 → (∀ p o, (H3' p = none ∨ ∀ ys, o ≠ HO.lst ys) → H6' p = some o → H6 p = some o) → Pv (i + 1) (acc ++ [u]) H6) → R u H6') → te (some x :: caps) H3' R)
    (hd : ∀ D acc H H', H2 D = none → H D = none → Same H2 H → Same H H' → Pv xs.length acc H → acc.length = xs.length → H' D = some (.lst acc) → Q (.ref D) H') : CompAt (Itt K l) caps tAll te Q H2 := by
  unfold CompAt
  intro D hD
  refine ⟨fun i m acc H3 => m = xs.length - i ∧ i ≤ xs.length ∧ acc.length = i ∧ H3 D = some (.lst acc) ∧ Same H2 (del H3 D) ∧ Pv i acc (del H3 D), ⟨xs.length, by simp, Nat.zero_le _, rfl, upd_same, ?_, ?_⟩, ?_⟩
  · rw [del_upd, del_none hD]; exact Same.refl _
  · rw [del_upd, del_none hD]; exact h0
  rintro i m acc H3 ⟨rfl, hi, hacc, hD3, s3, p3⟩
  refine ⟨hD3, ?_⟩
  have q := (s3.trans del_same).seqT hl
  by_cases hlt : i < xs.length
  · have hx : xs[i]? = some xs[i] := List.getElem?_eq_getElem hlt
    refine .inr ⟨⟨xs, xs[i], q, hx⟩, by omega, fun v H4 y => ?_⟩
    obtain ⟨e, y⟩ := y
    have ev := y xs q
    rw [hx] at ev
    cases ev
    subst e
    refine ⟨fun _ => ?_, fun z => by cases z⟩
    refine hs i _ acc _ _ hx s3 del_same p3 _ fun u H6' s6 k => ⟨s6.at hD3, xs.length - (i + 1), by omega, rfl, hlt, by simp [hacc], upd_same, ?_, ?_⟩
    · rw [del_upd]; exact s3.trans (same_del s6)
    · rw [del_upd]
      refine k _ (same_del s6) fun p o q1 q2 => ?_
      rw [del_ne (fun z => by
        rcases q1 with q1 | q1
        · rw [z, hD3] at q1; cases q1
        · rw [z, s6.at hD3] at q2; cases q2; exact q1 _ rfl)]
      exact q2
  · have e : i = xs.length := by omega
    subst e
    exact .inl ⟨⟨xs, q, Nat.le_refl _⟩, hd D acc _ H3 hD del_self s3 del_same p3 hacc hD3⟩
/-- [x for x in xs if p(x)] -/
theorem comp_listF {K : PySem.W.Frag} {l : Addr} {xs : List V} {tt : TT} {te : TE} {caps : L2.St} {Q : VK} {H2 : Hp} (p : V → Bool) (f : V → V) (hl : SqL K H2 l xs) (hn : xs.length < sizeLine)
    (ht : ∀ (x : V) (H3 : Hp), x ∈ xs → Same H2 H3 → ∀ R : Bool → Hp → Prop, (∀ H6, Same H3 H6 → R (p x) H6) → tt (some x :: caps) H3 R)
    (hs : ∀ (x : V) (H3 : Hp), x ∈ xs → p x = true → Same H2 H3 → ∀ R : VK, (∀ H6, Same H3 H6 → R (f x) H6) → te (some x :: caps) H3 R)
    (hd : ∀ D H', H2 D = none → Same H2 H' → H' D = some (.lst ((xs.filter p).map f)) → Q (.ref D) H') : CompAt (Itl K l) caps tt te Q H2 := by
  unfold CompAt
  intro D hD
  refine ⟨fun i m acc H3 => m = xs.length - i ∧ i ≤ xs.length ∧ acc = ((xs.take i).filter p).map f ∧ H3 D = some (.lst acc) ∧ Same H2 H3, ⟨xs.length, by simp, Nat.zero_le _, rfl, upd_same, Same.new hD⟩, ?_⟩
  rintro i m acc H3 ⟨rfl, hi, rfl, hD3, s3⟩
  refine ⟨hD3, ?_⟩
  have q := s3.seq hl
  by_cases hlt : i < xs.length
  · have hx : xs[i]? = some xs[i] := List.getElem?_eq_getElem hlt
    have hle : (((xs.take i).filter p).map f).length < sizeLine := by
      rw [List.length_map]
      refine Nat.lt_of_le_of_lt (List.length_filter_le _ _) ?_
      rw [List.length_take]; omega
    have et : xs.take (i + 1) = xs.take i ++ [xs[i]] := by rw [List.take_succ, hx]; rfl
    refine .inr ⟨⟨xs, xs[i], q, hx⟩, hle, fun v H4 y => ?_⟩
    obtain ⟨e, y⟩ := y
    have ev := y xs q
    rw [hx] at ev
    cases ev
    subst e
    refine ht _ _ (List.getElem_mem hlt) s3 _ fun H5 s5 => ⟨fun hp => ?_, fun hp => ?_⟩
    · refine hs _ _ (List.getElem_mem hlt) hp (s3.trans s5) _ fun H6 s6 => ⟨s6.at (s5.at hD3), xs.length - (i + 1), by omega, rfl, hlt, ?_, upd_same, (s3.trans (s5.trans s6)).put hD⟩
      rw [et, List.filter_append, List.map_append]
      simp [hp]
    · refine ⟨xs.length - (i + 1), by omega, rfl, hlt, ?_, s5.at hD3, s3.trans s5⟩
      rw [et, List.filter_append, List.map_append]
      simp [hp]
  · have e : i = xs.length := by omega
    subst e
    rw [List.take_length] at hD3 ⊢
    exact .inl ⟨⟨xs, q, Nat.le_refl _⟩, hd D H3 hD s3 hD3⟩
/-- [i for i, x in enumerate(xs) if p(i, x)] -/
theorem comp2_enumF {K : PySem.W.Frag} {l : Addr} {xs : List V} {tt : TT} {te : TE} {caps : L2.St} {Q : VK} {H2 : Hp} (p : Nat → V → Bool) (hl : SqL K H2 l xs) (hn : xs.length < sizeLine)
    (ht : ∀ (i : Nat) (x : V) (H3 : Hp), xs[i]? = some x → Same H2 H3 → ∀ R : Bool → Hp → Prop, (∀ H6, Same H3 H6 → R (p i x) H6) → tt (some (.int i) :: some x :: caps) H3 R)
    (hs : ∀ (i : Nat) (x : V) (H3 : Hp), xs[i]? = some x → Same H2 H3 → ∀ R : VK, (∀ H6, Same H3 H6 → R (.int i) H6) → te (some (.int i) :: some x :: caps) H3 R)
    (hd : ∀ D H', H2 D = none → Same H2 H' → H' D = some (.lst (((List.range xs.length).filter fun i => p i (xs.getD i .non)).map fun (i : Nat) => V.int i)) → Q (.ref D) H') : CompAt2 K (Ite K l) caps tt te Q H2 := by
  unfold CompAt2
  intro D hD
  refine ⟨fun i m acc H3 => m = xs.length - i ∧ i ≤ xs.length ∧ acc = ((List.range i).filter fun i => p i (xs.getD i .non)).map (fun (i : Nat) => V.int i) ∧ H3 D = some (.lst acc) ∧ Same H2 H3, ⟨xs.length, by simp, Nat.zero_le _, rfl, upd_same, Same.new hD⟩, ?_⟩
  rintro i m acc H3 ⟨rfl, hi, rfl, hD3, s3⟩
  refine ⟨hD3, ?_⟩
  have q := s3.seq hl
  by_cases hlt : i < xs.length
  · have hx : xs[i]? = some xs[i] := List.getElem?_eq_getElem hlt
    have hle : (((List.range i).filter fun i => p i (xs.getD i .non)).map fun (i : Nat) => V.int i).length < sizeLine := by
      rw [List.length_map]
      refine Nat.lt_of_le_of_lt (List.length_filter_le _ _) ?_
      rw [List.length_range]; omega
    have eg : xs.getD i .non = xs[i] := by simp [List.getD, hx]
    refine .inr ⟨⟨xs, xs[i], q, hx⟩, hle, fun v H4 y => ?_⟩
    obtain ⟨T, x, rfl, hT, rfl, y⟩ := y
    have ev := y xs q
    rw [hx] at ev
    cases ev
    have s4 := Same.new (o := .tup [.int i, xs[i]]) hT
    refine ⟨T, .int i, xs[i], rfl, SqT.of upd_same, ?_⟩
    refine ht i _ _ hx (s3.trans s4) _ fun H5 s5 => ⟨fun hp => ?_, fun hp => ?_⟩
    · refine hs i _ _ hx (s3.trans (s4.trans s5)) _ fun H6 s6 => ⟨s6.at (s5.at (s4.at hD3)), xs.length - (i + 1), by omega, rfl, hlt, ?_, upd_same, (s3.trans (s4.trans (s5.trans s6))).put hD⟩
      rw [List.range_succ, List.filter_append, List.map_append, List.filter_cons, eg, if_pos hp]
      rfl
    · refine ⟨xs.length - (i + 1), by omega, rfl, hlt, ?_, s5.at (s4.at hD3), s3.trans (s4.trans s5)⟩
      rw [List.range_succ, List.filter_append, List.map_append, List.filter_cons, eg, if_neg (by rw [hp]; exact Bool.false_ne_true)]
      simp
  · have e : i = xs.length := by omega
    subst e
    exact .inl ⟨⟨xs, q, Nat.le_refl _⟩, hd D H3 hD s3 hD3⟩
/-- == of what has the same data -/
theorem deq_same {K : PySem.W.Frag} {f : Bool → Bool} {x y : V} {H : Hp} {Q : VK} {d : PyData} (hx : Rp K H x d) (hy : Rp K H y d) (hd : SeqAt.shaped d = true) (q : Q (.bl (f true)) H) : rDeq K f x y H Q :=
  ⟨d, d, hx, hy, hd, hd, by rw [PySem.SeqAt.eqv_refl d (SeqAt.canLay_of_shaped hd)]; exact q⟩
theorem rps_of {K : PySem.W.Frag} {H : Hp} {α : Type} {F : V → α → Prop} {g : α → PyData} (h : ∀ v a, F v a → Rp K H v (g a)) : ∀ {vs : List V} {as : List α}, Paired F vs as → Rps K H vs (as.map g)
  | _, _, .nil => .nil
  | _, _, .cons x xs => .cons (h _ _ x) (rps_of h xs)
end L2
namespace L2
open PySem PySem.Spec PyProof.Rows
section
variable {X : Cx} {K : PySem.W.Frag}
/-! the same rules in a block, with the fragment by its name -/
theorem ix_listK (e : X.K = K) : IxR X (rIxL K) := e ▸ ix_list
theorem ix_tupK (e : X.K = K) : IxR X (rIxT K) := e ▸ ix_tup
theorem in_seqK (e : X.K = K) : OpR X (compareOp .In) (rIn K false) := e ▸ op_in_seq
theorem notIn_seqK (e : X.K = K) : OpR X (compareOp .NotIn) (rIn K true) := e ▸ op_notIn_seq
theorem sl_listK (e : X.K = K) : SlR X (rSlL K) := e ▸ sl_list
theorem isiK (e : X.K = K) : CallR X (.builtin "isinstance") (rIsi K) := e ▸ call_isi
theorem deqK (e : X.K = K) (hu : X.A.units + 64 < cLine) : OpR X (compareOp .Eq) (rDeq K fun b => b) := e ▸ o_deq hu
theorem dneK (e : X.K = K) (hu : X.A.units + 64 < cLine) : OpR X (compareOp .NotEq) (rDeq K fun b => !b) := e ▸ o_dne hu
end
end L2
namespace L2
open PySem PySem.Spec PyProof.Rows
theorem LLat.off {H0 H H' : Hp} {l p : Addr} {as : List Addr} {xss : List (List Int)} {o : HO} (L : LLat H0 H l as xss) (hp : p ∉ l :: as) (e : upd H p o = H') : LLat H0 H' l as xss := by
  subst e
  refine ⟨?_, L.nd, L.len, fun i b xs h1 h2 => ?_, L.fr, L.frs⟩
  · rw [upd_ne (fun z => hp (by rw [z]; exact List.mem_cons_self))]; exact L.top
  · rw [upd_ne (fun z => hp (by rw [← z]; exact List.mem_cons_of_mem _ (List.mem_of_getElem? h1)))]; exact L.each i b xs h1 h2
theorem inV_ints (i : Int) (own : List Int) : inV (.int i) (own.map V.int) = decide (i ∈ own) := by
  unfold inV
  rw [List.any_map, Bool.eq_iff_iff, List.any_eq_true, decide_eq_true_iff]
  constructor
  · rintro ⟨y, hy, h⟩
    have : y = i := by simpa [eqV, Function.comp] using h
    rw [← this]; exact hy
  · intro h
    exact ⟨i, h, by simp [eqV, Function.comp]⟩
theorem flat_ints (xs : List Int) : (xs.map V.int).all flatV = true := by
  rw [List.all_eq_true]
  intro x hx
  obtain ⟨y, _, rfl⟩ := List.mem_map.mp hx
  rfl
theorem cutV_ints (es : List Int) (lo hi : Option Int) : cutV (es.map V.int) lo hi = ((es.drop (HT.sIx es.length 0 lo)).take (HT.sIx es.length es.length hi - HT.sIx es.length 0 lo)).map V.int := by
  unfold cutV
  rw [List.length_map, ← List.map_drop, ← List.map_take]
theorem filter_ints (p : V → Bool) (xs : List Int) : (xs.map V.int).filter p = (xs.filter fun x => p (.int x)).map V.int := by
  rw [List.filter_map]; rfl
end L2
namespace L2
open PySem PySem.Spec PyProof.Rows
theorem sIx_nn {n d : Nat} {i : Int} (h0 : 0 ≤ i) : HT.sIx n d (some i) = min i.toNat n := by
  show (if i < 0 then (i + (n : Int)).toNat else min i.toNat n) = _
  rw [if_neg (by omega)]
end L2

/-! a walk over what is a list or a tuple; xs.insert(i, y); pairs and permutations; places of lambdas -/
namespace L2
open PySem PySem.Spec PyProof.Rows
theorem pi_alt {X : Cx} {tg l : Expr} {wi wj : TI} (h : PI X tg l wi) (k : PI X tg l wj) : PI X tg l (fun σ H R => wi σ H R ∨ wj σ H R) :=
  fun pins s σ H R I q => q.elim (fun z => h pins s σ H R I z) (fun z => k pins s σ H R I z)
section
variable {X : Cx}
def rInsertI : V → List V → Hp → VK → Prop := fun x vs H Q => ∃ (l : Addr) (xs : List V) (y : V) (k : Int), x = .ref l ∧ vs = [.int k, y] ∧ H l = some (.lst xs) ∧ xs.length < sizeLine ∧ 0 ≤ k ∧ k ≤ xs.length ∧ Q .non (upd H l (.lst (xs.take k.toNat ++ y :: xs.drop k.toNat)))
theorem mt_insertN : MtM X "list.insert" rInsertI := by
  intro pins s σ H x vs v us Q I rx rv h
  obtain ⟨l, xs, y, k, rfl, rfl, hH, hz, hk0, hk, q⟩ := h
  cases rx
  obtain ⟨u0, u, rfl, ⟨t, rfl⟩, ru⟩ := rv.two
  obtain ⟨z, its, n, r, hl, e⟩ := I.lstM hH
  have hlen := r.length
  have hfit : ¬ (!Builtin.List.listFitsIndex k) = true := by
    have : k ≤ 2 ^ 62 := by
      rw [sizeLine_eq] at hz; omega
    simp [Builtin.List.listFitsIndex]
    omega
  have hsz : its.toArray.size ≤ sizeLine := by rw [List.size_toArray]; omega
  have M := AutoListH.list_insert_list_int_val_1 l its.toArray n k t u hfit hsz
  refine call_meets F.slot_list_insert ⟨_, e, rfl⟩ F.entry_list_insert (F.args_list_insert_3 _ _ _) M ⟨e, ?_⟩
  refine ⟨.non, _, I.lset (its' := its.take k.toNat ++ u :: its.drop k.toNat) hH e ?_ ((r.take _).append (.cons ru (r.drop _))) ?_, rfl, q⟩
  · have hneg : ¬ (k < 0) := by omega
    have hmin : min k.toNat its.length = k.toNat := by omega
    simp only [hneg, if_false, List.size_toArray, hmin]
    apply Array.ext'
    simp [List.extract_eq_drop_take]
    rw [List.take_of_length_le (by simp)]
  · rw [List.length_append, List.length_cons, List.length_take, List.length_drop]; omega
end
theorem perm_paired {α β : Type} {F : α → β → Prop} {us ts : List α} (h : us.Perm ts) : ∀ {rs : List β}, Paired F ts rs → ∃ rs' : List β, Paired F us rs' ∧ rs'.Perm rs := by
  induction h with
  | nil => intro rs p; exact ⟨rs, p, List.Perm.refl _⟩
  | cons x h ih =>
    intro rs p
    cases p with
    | cons p1 p2 =>
      obtain ⟨r, q1, q2⟩ := ih p2
      exact ⟨_, .cons p1 q1, q2.cons _⟩
  | swap x y l =>
    intro rs p
    cases p with
    | cons p1 p2 =>
      cases p2 with
      | cons p2 p3 => exact ⟨_, .cons p2 (.cons p1 p3), List.Perm.swap _ _ _⟩
  | trans h1 h2 ih1 ih2 =>
    intro rs p
    obtain ⟨r1, q1, q2⟩ := ih2 p
    obtain ⟨r2, q3, q4⟩ := ih1 q1
    exact ⟨r2, q3, q4.trans q2⟩
theorem perm_sum {xs ys : List Int} (h : xs.Perm ys) : xs.sum = ys.sum := by
  induction h with
  | nil => rfl
  | cons x h ih => simp only [List.sum_cons, ih]
  | swap x y l => simp only [List.sum_cons]; omega
  | trans h1 h2 ih1 ih2 => exact ih1.trans ih2
theorem insert_perm {α : Type} (xs : List α) (j : Nat) (y : α) : (xs.take j ++ y :: xs.drop j).Perm (xs ++ [y]) := by
  have h : (xs.take j ++ y :: xs.drop j).Perm (y :: (xs.take j ++ xs.drop j)) := List.perm_middle
  rw [List.take_append_drop] at h
  exact h.trans (List.perm_append_singleton _ _).symm
/-! the way to a lambda in a text -/
def forBody : Stmt → List Stmt
  | .For _ _ b _ _ => b
  | _ => []
def asgVal : Stmt → Expr
  | .Assign _ v _ => v
  | _ => .Constant .none 0 ⟨0, 0, 0, 0⟩
def retVal : Stmt → Expr
  | .Return (some v) _ => v
  | _ => .Constant .none 0 ⟨0, 0, 0, 0⟩
def callArg (i : Nat) : Expr → Expr
  | .Call _ as _ _ => as.getD i (.Constant .none 0 ⟨0, 0, 0, 0⟩)
  | _ => .Constant .none 0 ⟨0, 0, 0, 0⟩
def lamArgs : Expr → Arguments
  | .Lambda a _ _ _ => a
  | _ => defArgs (.Pass ⟨0, 0, 0, 0⟩)
def lamBody : Expr → Expr
  | .Lambda _ b _ _ => b
  | e => e
def lamScope : Expr → Scope
  | .Lambda _ _ s _ => s
  | _ => defScope (.Pass ⟨0, 0, 0, 0⟩)
theorem atI_in {xs : List Int} {x v : Int} (h0 : 0 ≤ x) (h : xs[x.toNat]? = some v) : atI (xs.map V.int) x = some (.int v) := by
  have := atI_nat (xs := xs.map V.int) (j := x.toNat) (v := .int v) (by rw [List.getElem?_map, h]; rfl)
  rwa [Int.toNat_of_nonneg h0] at this
theorem ixN_in {n : Nat} {x : Int} (h0 : 0 ≤ x) (h : x < n) : ixN n x = some x.toNat := by
  unfold ixN
  rw [if_pos h0, if_pos h]
end L2

namespace K25
open PySem PySem.Spec PyProof.Rows L2
/-! the text by places -/
def top (i : Nat) : Stmt := PySem.Challenge.pw_oneroom_k25_meant_and_cost.main.body.getD i (.Pass ⟨0, 0, 0, 0⟩)
abbrev s_Row_init : Stmt := inClass (top 5) 0
abbrev s_Row_covered : Stmt := inClass (top 5) 2
abbrev s_Take_init : Stmt := inClass (top 6) 0
abbrev s_Take_source_for : Stmt := inClass (top 6) 5
abbrev s_Take_sign_for : Stmt := inClass (top 6) 6
abbrev s_Take_cost : Stmt := inClass (top 6) 7
abbrev s_Take_told : Stmt := inClass (top 6) 8
abbrev s_Put_init : Stmt := inClass (top 7) 0
abbrev s_Put_sign_for : Stmt := inClass (top 7) 4
abbrev s_Put_cost : Stmt := inClass (top 7) 5
abbrev s_Put_told : Stmt := inClass (top 7) 6
abbrev s_row_of : Stmt := top 8
abbrev s_tells_take : Stmt := top 9
abbrev s_tells_put : Stmt := top 10
abbrev s_are_signs : Stmt := top 11
abbrev s_is_sign : Stmt := top 12
abbrev s_is_whole_from : Stmt := top 13
abbrev s_is_whole : Stmt := top 14
abbrev s_meant : Stmt := top 16
abbrev s_cost : Stmt := top 17
abbrev s_plain : Stmt := top 18
abbrev s_cell_at : Stmt := top 20
abbrev s_mixed : Stmt := top 21
abbrev s_sign : Stmt := top 22
abbrev s_rows : Stmt := top 23
abbrev s_mixed_up : Stmt := top 24
abbrev s_price : Stmt := top 25
abbrev s_law : Stmt := top 26
abbrev c_meant : Addr := 270
abbrev P_meant : Addr := 266
def qs_meant : List (Pos × Str) := [(⟨103, 45, 103, 65⟩, "meant.<locals>.<lambda>")]
structure Adr where
  f_Row_init : Addr
  d_Row_init : FuncData
  f_Row_covered : Addr
  d_Row_covered : FuncData
  f_Take_init : Addr
  d_Take_init : FuncData
  f_Take_source_for : Addr
  d_Take_source_for : FuncData
  f_Take_sign_for : Addr
  d_Take_sign_for : FuncData
  f_Take_cost : Addr
  d_Take_cost : FuncData
  f_Take_told : Addr
  d_Take_told : FuncData
  f_Put_init : Addr
  d_Put_init : FuncData
  f_Put_sign_for : Addr
  d_Put_sign_for : FuncData
  f_Put_cost : Addr
  d_Put_cost : FuncData
  f_Put_told : Addr
  d_Put_told : FuncData
  f_row_of : Addr
  d_row_of : FuncData
  f_tells_take : Addr
  d_tells_take : FuncData
  f_tells_put : Addr
  d_tells_put : FuncData
  f_are_signs : Addr
  d_are_signs : FuncData
  f_is_sign : Addr
  d_is_sign : FuncData
  f_is_whole_from : Addr
  d_is_whole_from : FuncData
  f_is_whole : Addr
  d_is_whole : FuncData
  f_meant : Addr
  d_meant : FuncData
  f_cost : Addr
  d_cost : FuncData
  f_plain : Addr
  d_plain : FuncData
  f_cell_at : Addr
  d_cell_at : FuncData
  f_mixed : Addr
  d_mixed : FuncData
  f_sign : Addr
  d_sign : FuncData
  f_rows : Addr
  d_rows : FuncData
  f_mixed_up : Addr
  d_mixed_up : FuncData
  f_price : Addr
  d_price : FuncData
  f_law : Addr
  d_law : FuncData
  C_Row : Addr
  C_Take : Addr
  C_Put : Addr
structure Txt (K : PySem.W.Frag) (mg : Str → Option Value) (a : Adr) : Prop where
  F_Row_init : Fun K "__init__" "Row.__init__" s_Row_init a.f_Row_init a.d_Row_init
  b_Row_init : Binds K a.d_Row_init ["self", "to"] []
  F_Row_covered : Fun K "covered" "Row.covered" s_Row_covered a.f_Row_covered a.d_Row_covered
  b_Row_covered : Binds K a.d_Row_covered ["self"] []
  F_Take_init : Fun K "__init__" "Take.__init__" s_Take_init a.f_Take_init a.d_Take_init
  b_Take_init : Binds K a.d_Take_init ["self", "to", "start", "count"] []
  F_Take_source_for : Fun K "source_for" "Take.source_for" s_Take_source_for a.f_Take_source_for a.d_Take_source_for
  b_Take_source_for : Binds K a.d_Take_source_for ["self", "cell"] []
  F_Take_sign_for : Fun K "sign_for" "Take.sign_for" s_Take_sign_for a.f_Take_sign_for a.d_Take_sign_for
  b_Take_sign_for : Binds K a.d_Take_sign_for ["self", "cell", "read"] []
  F_Take_cost : Fun K "cost" "Take.cost" s_Take_cost a.f_Take_cost a.d_Take_cost
  b_Take_cost : Binds K a.d_Take_cost ["self"] []
  F_Take_told : Fun K "told" "Take.told" s_Take_told a.f_Take_told a.d_Take_told
  b_Take_told : Binds K a.d_Take_told ["self"] []
  F_Put_init : Fun K "__init__" "Put.__init__" s_Put_init a.f_Put_init a.d_Put_init
  b_Put_init : Binds K a.d_Put_init ["self", "to", "signs"] []
  F_Put_sign_for : Fun K "sign_for" "Put.sign_for" s_Put_sign_for a.f_Put_sign_for a.d_Put_sign_for
  b_Put_sign_for : Binds K a.d_Put_sign_for ["self", "cell", "read"] []
  F_Put_cost : Fun K "cost" "Put.cost" s_Put_cost a.f_Put_cost a.d_Put_cost
  b_Put_cost : Binds K a.d_Put_cost ["self"] []
  F_Put_told : Fun K "told" "Put.told" s_Put_told a.f_Put_told a.d_Put_told
  b_Put_told : Binds K a.d_Put_told ["self"] []
  F_row_of : Fun K "row_of" "row_of" s_row_of a.f_row_of a.d_row_of
  b_row_of : Binds K a.d_row_of ["told"] []
  m_row_of : mg "row_of" = some (.ref a.f_row_of)
  F_tells_take : Fun K "tells_take" "tells_take" s_tells_take a.f_tells_take a.d_tells_take
  b_tells_take : Binds K a.d_tells_take ["told"] []
  m_tells_take : mg "tells_take" = some (.ref a.f_tells_take)
  F_tells_put : Fun K "tells_put" "tells_put" s_tells_put a.f_tells_put a.d_tells_put
  b_tells_put : Binds K a.d_tells_put ["told"] []
  m_tells_put : mg "tells_put" = some (.ref a.f_tells_put)
  F_are_signs : Fun K "are_signs" "are_signs" s_are_signs a.f_are_signs a.d_are_signs
  b_are_signs : Binds K a.d_are_signs ["signs"] []
  m_are_signs : mg "are_signs" = some (.ref a.f_are_signs)
  F_is_sign : Fun K "is_sign" "is_sign" s_is_sign a.f_is_sign a.d_is_sign
  b_is_sign : Binds K a.d_is_sign ["value"] []
  m_is_sign : mg "is_sign" = some (.ref a.f_is_sign)
  F_is_whole_from : Fun K "is_whole_from" "is_whole_from" s_is_whole_from a.f_is_whole_from a.d_is_whole_from
  b_is_whole_from : Binds K a.d_is_whole_from ["least", "value"] []
  m_is_whole_from : mg "is_whole_from" = some (.ref a.f_is_whole_from)
  F_is_whole : Fun K "is_whole" "is_whole" s_is_whole a.f_is_whole a.d_is_whole
  b_is_whole : Binds K a.d_is_whole ["value"] []
  m_is_whole : mg "is_whole" = some (.ref a.f_is_whole)
  F_meant : Fun K "meant" "meant" s_meant a.f_meant a.d_meant
  b_meant : Binds K a.d_meant ["paper", "elder"] []
  m_meant : mg "meant" = some (.ref a.f_meant)
  tk_meant : TabK K c_meant P_meant
  cd_meant : a.d_meant.code = .ref c_meant
  F_cost : Fun K "cost" "cost" s_cost a.f_cost a.d_cost
  b_cost : Binds K a.d_cost ["paper"] []
  m_cost : mg "cost" = some (.ref a.f_cost)
  F_plain : Fun K "plain" "plain" s_plain a.f_plain a.d_plain
  b_plain : Binds K a.d_plain ["old", "newer"] []
  m_plain : mg "plain" = some (.ref a.f_plain)
  F_cell_at : Fun K "_law_cell_at" "_law_cell_at" s_cell_at a.f_cell_at a.d_cell_at
  b_cell_at : Binds K a.d_cell_at ["_law_script", "_law_k"] []
  m_cell_at : mg "_law_cell_at" = some (.ref a.f_cell_at)
  F_mixed : Fun K "_law_mixed" "_law_mixed" s_mixed a.f_mixed a.d_mixed
  b_mixed : Binds K a.d_mixed ["_law_cell", "_law_k"] []
  m_mixed : mg "_law_mixed" = some (.ref a.f_mixed)
  F_sign : Fun K "_law_sign" "_law_sign" s_sign a.f_sign a.d_sign
  b_sign : Binds K a.d_sign ["_law_cell", "_law_k"] []
  m_sign : mg "_law_sign" = some (.ref a.f_sign)
  F_rows : Fun K "_law_rows" "_law_rows" s_rows a.f_rows a.d_rows
  b_rows : Binds K a.d_rows ["_law_elder", "_law_cells"] []
  m_rows : mg "_law_rows" = some (.ref a.f_rows)
  F_mixed_up : Fun K "_law_mixed_up" "_law_mixed_up" s_mixed_up a.f_mixed_up a.d_mixed_up
  b_mixed_up : Binds K a.d_mixed_up ["_law_rows_here", "_law_cell"] []
  m_mixed_up : mg "_law_mixed_up" = some (.ref a.f_mixed_up)
  F_price : Fun K "_law_price" "_law_price" s_price a.f_price a.d_price
  b_price : Binds K a.d_price ["_law_rows_here"] []
  m_price : mg "_law_price" = some (.ref a.f_price)
  F_law : Fun K "law" "law" s_law a.f_law a.d_law
  b_law : Binds K a.d_law ["_law_script"] []
  m_Row : mg "Row" = some (.ref a.C_Row)
  c_Row : Cls K a.C_Row
  na_Row_count : NoAttr K a.C_Row "count"
  na_Row_to : NoAttr K a.C_Row "to"
  m_Take : mg "Take" = some (.ref a.C_Take)
  c_Take : Cls K a.C_Take
  na_Take_count : NoAttr K a.C_Take "count"
  na_Take_source : NoAttr K a.C_Take "source"
  na_Take_to : NoAttr K a.C_Take "to"
  mk_Take : Mk K a.C_Take a.f_Take_init
  m_Put : mg "Put" = some (.ref a.C_Put)
  c_Put : Cls K a.C_Put
  na_Put_count : NoAttr K a.C_Put "count"
  na_Put_signs : NoAttr K a.C_Put "signs"
  na_Put_to : NoAttr K a.C_Put "to"
  mk_Put : Mk K a.C_Put a.f_Put_init
  me_Put_cost : Meth K a.C_Put "cost" a.f_Put_cost
  me_Put_covered : Meth K a.C_Put "covered" a.f_Row_covered
  me_Put_sign_for : Meth K a.C_Put "sign_for" a.f_Put_sign_for
  me_Take_cost : Meth K a.C_Take "cost" a.f_Take_cost
  me_Take_covered : Meth K a.C_Take "covered" a.f_Row_covered
  me_Take_sign_for : Meth K a.C_Take "sign_for" a.f_Take_sign_for
  me_Take_source_for : Meth K a.C_Take "source_for" a.f_Take_source_for
  cm_Row_init : ClsM K a.C_Row "__init__" a.f_Row_init
  n_abs : mg "abs" = none
  n_all : mg "all" = none
  n_bool : mg "bool" = none
  n_int : mg "int" = none
  n_isinstance : mg "isinstance" = none
  n_len : mg "len" = none
  n_list : mg "list" = none
  n_range : mg "range" = none
  n_sum : mg "sum" = none
  n_tuple : mg "tuple" = none
theorem sc_Row_init : FnScope ["self", "to"] ["self", "to"] (defScope s_Row_init) := ⟨rfl, rfl, rfl, by decide +kernel, rfl, by decide +kernel, by decide +kernel⟩
theorem sc_Row_covered : FnScope ["self"] ["self"] (defScope s_Row_covered) := ⟨rfl, rfl, rfl, by decide +kernel, rfl, by decide +kernel, by decide +kernel⟩
theorem sc_Take_init : FnScope ["self", "to", "start", "count"] ["self", "to", "start", "count"] (defScope s_Take_init) := ⟨rfl, rfl, rfl, by decide +kernel, rfl, by decide +kernel, by decide +kernel⟩
theorem sc_Take_source_for : FnScope ["self", "cell"] ["self", "cell"] (defScope s_Take_source_for) := ⟨rfl, rfl, rfl, by decide +kernel, rfl, by decide +kernel, by decide +kernel⟩
theorem sc_Take_sign_for : FnScope ["self", "cell", "read"] ["self", "cell", "read"] (defScope s_Take_sign_for) := ⟨rfl, rfl, rfl, by decide +kernel, rfl, by decide +kernel, by decide +kernel⟩
theorem sc_Take_cost : FnScope ["self"] ["self"] (defScope s_Take_cost) := ⟨rfl, rfl, rfl, by decide +kernel, rfl, by decide +kernel, by decide +kernel⟩
theorem sc_Take_told : FnScope ["self"] ["self"] (defScope s_Take_told) := ⟨rfl, rfl, rfl, by decide +kernel, rfl, by decide +kernel, by decide +kernel⟩
theorem sc_Put_init : FnScope ["self", "to", "signs"] ["self", "to", "signs"] (defScope s_Put_init) := ⟨rfl, rfl, rfl, by decide +kernel, rfl, by decide +kernel, by decide +kernel⟩
theorem sc_Put_sign_for : FnScope ["self", "cell", "read"] ["self", "cell", "read"] (defScope s_Put_sign_for) := ⟨rfl, rfl, rfl, by decide +kernel, rfl, by decide +kernel, by decide +kernel⟩
theorem sc_Put_cost : FnScope ["self"] ["self"] (defScope s_Put_cost) := ⟨rfl, rfl, rfl, by decide +kernel, rfl, by decide +kernel, by decide +kernel⟩
theorem sc_Put_told : FnScope ["self"] ["self"] (defScope s_Put_told) := ⟨rfl, rfl, rfl, by decide +kernel, rfl, by decide +kernel, by decide +kernel⟩
theorem sc_row_of : FnScope ["told"] ["told"] (defScope s_row_of) := ⟨rfl, rfl, rfl, by decide +kernel, rfl, by decide +kernel, by decide +kernel⟩
theorem sc_tells_take : FnScope ["told"] ["told"] (defScope s_tells_take) := ⟨rfl, rfl, rfl, by decide +kernel, rfl, by decide +kernel, by decide +kernel⟩
theorem sc_tells_put : FnScope ["told"] ["told"] (defScope s_tells_put) := ⟨rfl, rfl, rfl, by decide +kernel, rfl, by decide +kernel, by decide +kernel⟩
theorem sc_are_signs : FnScope ["signs"] ["signs"] (defScope s_are_signs) := ⟨rfl, rfl, rfl, by decide +kernel, rfl, by decide +kernel, by decide +kernel⟩
theorem sc_is_sign : FnScope ["value"] ["value"] (defScope s_is_sign) := ⟨rfl, rfl, rfl, by decide +kernel, rfl, by decide +kernel, by decide +kernel⟩
theorem sc_is_whole_from : FnScope ["least", "value"] ["least", "value"] (defScope s_is_whole_from) := ⟨rfl, rfl, rfl, by decide +kernel, rfl, by decide +kernel, by decide +kernel⟩
theorem sc_is_whole : FnScope ["value"] ["value"] (defScope s_is_whole) := ⟨rfl, rfl, rfl, by decide +kernel, rfl, by decide +kernel, by decide +kernel⟩
theorem sc_meant : FnScope ["paper", "elder", "newer", "told", "row", "cell"] ["paper", "elder"] (defScope s_meant) := ⟨rfl, rfl, rfl, by decide +kernel, rfl, by decide +kernel, by decide +kernel⟩
theorem sc_cost : FnScope ["paper"] ["paper"] (defScope s_cost) := ⟨rfl, rfl, rfl, by decide +kernel, rfl, by decide +kernel, by decide +kernel⟩
theorem sc_plain : FnScope ["old", "newer"] ["old", "newer"] (defScope s_plain) := ⟨rfl, rfl, rfl, by decide +kernel, rfl, by decide +kernel, by decide +kernel⟩
theorem sc_cell_at : FnScope ["_law_script", "_law_k"] ["_law_script", "_law_k"] (defScope s_cell_at) := ⟨rfl, rfl, rfl, by decide +kernel, rfl, by decide +kernel, by decide +kernel⟩
theorem sc_mixed : FnScope ["_law_cell", "_law_k", "_law_number"] ["_law_cell", "_law_k"] (defScope s_mixed) := ⟨rfl, rfl, rfl, by decide +kernel, rfl, by decide +kernel, by decide +kernel⟩
theorem sc_sign : FnScope ["_law_cell", "_law_k", "_law_draw"] ["_law_cell", "_law_k"] (defScope s_sign) := ⟨rfl, rfl, rfl, by decide +kernel, rfl, by decide +kernel, by decide +kernel⟩
theorem sc_rows : FnScope ["_law_elder", "_law_cells", "_law_rows_here", "_law_newer", "_law_cell", "_law_signs", "_law_start"] ["_law_elder", "_law_cells"] (defScope s_rows) := ⟨rfl, rfl, rfl, by decide +kernel, rfl, by decide +kernel, by decide +kernel⟩
theorem sc_mixed_up : FnScope ["_law_rows_here", "_law_cell", "_law_got", "_law_k"] ["_law_rows_here", "_law_cell"] (defScope s_mixed_up) := ⟨rfl, rfl, rfl, by decide +kernel, rfl, by decide +kernel, by decide +kernel⟩
theorem sc_price : FnScope ["_law_rows_here", "_law_got", "_law_row"] ["_law_rows_here"] (defScope s_price) := ⟨rfl, rfl, rfl, by decide +kernel, rfl, by decide +kernel, by decide +kernel⟩
theorem sc_law : FnScope ["_law_script", "_law_elder", "_law_rows_here", "_law_newer", "_law_paper", "_law_handed", "_law_got", "_law_told", "_law_due"] ["_law_script"] (defScope s_law) := ⟨rfl, rfl, rfl, by decide +kernel, rfl, by decide +kernel, by decide +kernel⟩
/-! rows as data -/
def takeF (to st c : Int) : List (Str × V) := [("to", .int to), ("count", .int c), ("source", .int st)]
def putFs (to : Int) (t : Addr) (n : Int) : List (Str × V) := [("to", .int to), ("count", .int n), ("signs", .ref t)]
def rngI (lo : Int) (n : Nat) : List Int := (List.range n).map fun (i : Nat) => lo + (i : Int)
theorem rngV_eq (lo : Int) (n : Nat) : rngV lo n = (rngI lo n).map V.int := by simp [rngV, rngI, Function.comp_def]
theorem rngI_length (lo : Int) (n : Nat) : (rngI lo n).length = n := by simp [rngI]
theorem mem_rngI {x lo : Int} {n : Nat} : x ∈ rngI lo n ↔ lo ≤ x ∧ x < lo + n := by
  unfold rngI
  rw [List.mem_map]
  constructor
  · rintro ⟨i, hi, rfl⟩
    have := List.mem_range.mp hi
    omega
  · rintro ⟨h1, h2⟩
    exact ⟨(x - lo).toNat, List.mem_range.mpr (by omega), by omega⟩
inductive RowD where
  | take (to st c : Int)
  | put (to : Int) (sg : List Int)
def RowD.isTake : RowD → Bool
  | .take .. => true
  | .put .. => false
/-- the row's tuple -/
def TupAt (K : PySem.W.Frag) (H : Hp) (t : Addr) : RowD → Prop
  | .take to st c => H t = some (.tup [.str "take", .int to, .int st, .int c])
  | .put to sg => ∃ u, H t = some (.tup [.str "put", .int to, .ref u]) ∧ H u = some (.tup (sg.map V.int))
theorem TupAt.same {K : PySem.W.Frag} {H H' : Hp} {t : Addr} {r : RowD} (h : TupAt K H t r) (s : Same H H') : TupAt K H' t r := by
  cases r with
  | take to st c => exact s.at h
  | put to sg => obtain ⟨u, h1, h2⟩ := h; exact ⟨u, s.at h1, s.at h2⟩
/-- the row's tuple, made behind H -/
def TupNew (H H' : Hp) (t : Addr) : RowD → Prop
  | .take to st c => H t = none ∧ H' t = some (.tup [.str "take", .int to, .int st, .int c])
  | .put to sg => H t = none ∧ ∃ u, H' t = some (.tup [.str "put", .int to, .ref u]) ∧ H u = none ∧ H' u = some (.tup (sg.map V.int))
theorem TupNew.at {K : PySem.W.Frag} {H H' H6 : Hp} {t : Addr} {r : RowD} (h : TupNew H H' t r) (k : ∀ p o, (H p = none ∨ ∀ ys, o ≠ HO.lst ys) → H' p = some o → H6 p = some o) : TupAt K H6 t r := by
  cases r with
  | take to st c => exact k _ _ (.inl h.1) h.2
  | put to sg => obtain ⟨h0, u, h1, h2, h3⟩ := h; exact ⟨u, k _ _ (.inl h0) h1, k _ _ (.inl h2) h3⟩
/-- the row's object -/
def ObjAt (K : PySem.W.Frag) (a : Adr) (H : Hp) (o : Addr) : RowD → Prop
  | .take to st c => ∃ dx, H o = some (.ins a.C_Take dx (takeF to st c))
  | .put to sg => ∃ dx u, H o = some (.ins a.C_Put dx (putFs to u sg.length)) ∧ H u = some (.tup (sg.map V.int))
theorem ObjAt.same {K : PySem.W.Frag} {a : Adr} {H H' : Hp} {o : Addr} {r : RowD} (h : ObjAt K a H o r) (s : Same H H') : ObjAt K a H' o r := by
  cases r with
  | take to st c => obtain ⟨dx, h⟩ := h; exact ⟨dx, s.at h⟩
  | put to sg => obtain ⟨dx, u, h1, h2⟩ := h; exact ⟨dx, u, s.at h1, s.at h2⟩
theorem ObjAt.mv {K : PySem.W.Frag} {a : Adr} {H H' H6 : Hp} {o : Addr} {r : RowD} (h : ObjAt K a H' o r) (k : ∀ p o, (H p = none ∨ ∀ ys, o ≠ HO.lst ys) → H' p = some o → H6 p = some o) : ObjAt K a H6 o r := by
  cases r with
  | take to st c => obtain ⟨dx, h⟩ := h; exact ⟨dx, k _ _ (.inr fun ys z => by cases z) h⟩
  | put to sg => obtain ⟨dx, u, h1, h2⟩ := h; exact ⟨dx, u, k _ _ (.inr fun ys z => by cases z) h1, k _ _ (.inr fun ys z => by cases z) h2⟩
theorem TupAt.mv {K : PySem.W.Frag} {H H' H6 : Hp} {t : Addr} {r : RowD} (h : TupAt K H' t r) (k : ∀ p o, (H p = none ∨ ∀ ys, o ≠ HO.lst ys) → H' p = some o → H6 p = some o) : TupAt K H6 t r := by
  cases r with
  | take to st c => exact k _ _ (.inr fun ys z => by cases z) h
  | put to sg => obtain ⟨u, h1, h2⟩ := h; exact ⟨u, k _ _ (.inr fun ys z => by cases z) h1, k _ _ (.inr fun ys z => by cases z) h2⟩
def RowD.ok : RowD → Prop
  | .take to st c => 0 ≤ to ∧ 0 ≤ st ∧ 1 ≤ c
  | .put to sg => 0 ≤ to ∧ sg ≠ [] ∧ sg.length ≤ 100000 ∧ ∀ x ∈ sg, (x.natAbs : Int) < 10 ^ 60
def RowD.dat : RowD → PyData
  | .take to st c => .tuple [.str "take", .int to, .int st, .int c]
  | .put to sg => .tuple [.str "put", .int to, .tuple (sg.map PyData.int)]
theorem rps_ints {K : PySem.W.Frag} {H : Hp} : ∀ xs : List Int, Rps K H (xs.map V.int) (xs.map PyData.int)
  | [] => .nil
  | x :: xs => .cons (.int x) (rps_ints xs)
theorem TupAt.rp {K : PySem.W.Frag} {H : Hp} {t : Addr} {r : RowD} (h : TupAt K H t r) : Rp K H (.ref t) r.dat := by
  cases r with
  | take to st c => exact .tup (SqT.of h) (.cons (.str _) (.cons (.int _) (.cons (.int _) (.cons (.int _) .nil))))
  | put to sg => obtain ⟨u, h1, h2⟩ := h; exact .tup (SqT.of h1) (.cons (.str _) (.cons (.int _) (.cons (.tup (SqT.of h2) (rps_ints sg)) .nil)))
theorem dat_can (r : RowD) : PyData.canLay0 r.dat = true := by
  cases r with
  | take to st c => simp [RowD.dat, PyData.canLay0, PyData.canLayAll0]; decide +kernel
  | put to sg => simp [RowD.dat, PyData.canLay0, PyData.canLayAll0, PySem.W.ke_canLayAll0 sg]; decide +kernel
theorem dat_depth (r : RowD) : PyData.depth r.dat ≤ 2 := by
  cases r with
  | take to st c => simp [RowD.dat, PyData.depth, PyData.depthAll]
  | put to sg => simp [RowD.dat, PyData.depth, PyData.depthAll, PySem.W.ke_depthAll sg]
theorem dats_can : ∀ rs : List RowD, PyData.canLayAll0 (rs.map RowD.dat) = true
  | [] => by simp [PyData.canLayAll0]
  | x :: r => by simp only [List.map_cons, PyData.canLayAll0, dat_can, dats_can r, Bool.and_true]
theorem dats_depth : ∀ rs : List RowD, PyData.depthAll (rs.map RowD.dat) ≤ 2
  | [] => by simp [PyData.depthAll]
  | x :: r => by
    simp only [List.map_cons, PyData.depthAll]
    have := dat_depth x
    have := dats_depth r
    omega
theorem dats_shaped (rs : List RowD) : SeqAt.shaped (.list (rs.map RowD.dat)) = true := by
  unfold SeqAt.shaped
  have h1 : PyData.canLay0 (.list (rs.map RowD.dat)) = true := by unfold PyData.canLay0; exact dats_can rs
  have h2 : PyData.depth (.list (rs.map RowD.dat)) ≤ 64 := by unfold PyData.depth; have := dats_depth rs; omega
  rw [h1, decide_eq_true h2]; rfl
/-- a list of rows' tuples, of rows' objects -/
def TupsAt (K : PySem.W.Frag) (H : Hp) (l : Addr) (rs : List RowD) : Prop := ∃ ts : List Addr, SqL K H l (ts.map V.ref) ∧ Paired (TupAt K H) ts rs
def ObjsAt (K : PySem.W.Frag) (a : Adr) (H : Hp) (l : Addr) (rs : List RowD) : Prop := ∃ ts : List Addr, SqL K H l (ts.map V.ref) ∧ Paired (ObjAt K a H) ts rs
theorem TupsAt.same {K : PySem.W.Frag} {H H' : Hp} {l : Addr} {rs : List RowD} (h : TupsAt K H l rs) (s : Same H H') : TupsAt K H' l rs := by
  obtain ⟨ts, h1, h2⟩ := h; exact ⟨ts, s.seq h1, L2.Paired.imp' (fun _ _ z => z.same s) h2⟩
theorem ObjsAt.same {K : PySem.W.Frag} {a : Adr} {H H' : Hp} {l : Addr} {rs : List RowD} (h : ObjsAt K a H l rs) (s : Same H H') : ObjsAt K a H' l rs := by
  obtain ⟨ts, h1, h2⟩ := h; exact ⟨ts, s.seq h1, L2.Paired.imp' (fun _ _ z => z.same s) h2⟩
theorem tups_rp {K : PySem.W.Frag} {H : Hp} : ∀ {ts : List Addr} {rs : List RowD}, Paired (TupAt K H) ts rs → Rps K H (ts.map V.ref) (rs.map RowD.dat)
  | _, _, .nil => .nil
  | _, _, .cons x xs => .cons x.rp (tups_rp xs)
theorem TupsAt.rp {K : PySem.W.Frag} {H : Hp} {l : Addr} {rs : List RowD} (h : TupsAt K H l rs) : Rp K H (.ref l) (.list (rs.map RowD.dat)) := by
  obtain ⟨ts, h1, h2⟩ := h
  exact .lst h1 (tups_rp h2)
theorem sqT_wr {K : PySem.W.Frag} {H : Hp} {t p C dx : Addr} {xs : List V} {fs : List (Str × V)} {o : HO} (h : SqT K H t xs) (hp : H p = some (.ins C dx fs)) : SqT K (upd H p o) t xs := by
  rcases h with (h | ⟨ob, h⟩) | h
  · exact .inl (.inl (by rw [upd_ne (ne_of h hp (by intro z; cases z))]; exact h))
  · exact .inl (.inr ⟨ob, by rw [upd_ne (ne_of h hp (by intro z; cases z))]; exact h⟩)
  · exact .inr h
/-! the promises -/
def sp_Row_init (K : PySem.W.Frag) : Sp := fun vs H Q _ => ∃ (p C dx : Addr) (to : Int), vs = [.ref p, .int to] ∧ H p = some (.ins C dx []) ∧ Cls K C ∧ NoAttr K C "to" ∧ NoAttr K C "count" ∧ Q .non (upd H p (.ins C dx [("to", .int to), ("count", .int 0)]))
def sp_Take_init (a : Adr) : Sp := fun vs H Q _ => ∃ (p dx : Addr) (to st c : Int), vs = [.ref p, .int to, .int st, .int c] ∧ H p = some (.ins a.C_Take dx []) ∧ Q .non (upd H p (.ins a.C_Take dx (takeF to st c)))
def sp_Put_init (K : PySem.W.Frag) (a : Adr) : Sp := fun vs H Q _ => ∃ (p dx t : Addr) (to : Int) (xs : List V), vs = [.ref p, .int to, .ref t] ∧ H p = some (.ins a.C_Put dx []) ∧ SqT K H t xs ∧ Q .non (upd H p (.ins a.C_Put dx (putFs to t xs.length)))
/-- a new list of the ints ns -/
def newL (H : Hp) (Q : VK) (ns : List Int) : Prop := ∀ (l : Addr) (H' : Hp), Same H H' → H l = none → H' l = some (.lst (ns.map V.int)) → Q (.ref l) H'
def sp_stays (a : Adr) : Sp := fun vs H Q _ => ∃ (p dx : Addr) (to st c : Int), vs = [.ref p] ∧ H p = some (.ins a.C_Take dx (takeF to st c)) ∧ Q (.bl (decide (st = to))) H
def sp_is_whole : Sp := fun vs H Q _ => ∃ i : Int, vs = [.int i] ∧ Q (.bl true) H
def sp_is_whole_from : Sp := fun vs H Q _ => ∃ l i : Int, vs = [.int l, .int i] ∧ Q (.bl (decide (l ≤ i))) H
def sp_is_sign : Sp := fun vs H Q _ => ∃ i : Int, vs = [.int i] ∧ (i.natAbs : Int) < 10 ^ 60 ∧ Q (.bl true) H
def sp_are_signs (K : PySem.W.Frag) : Sp := fun vs H Q _ => ∃ (u : Addr) (sg : List Int), vs = [.ref u] ∧ H u = some (.tup (sg.map V.int)) ∧ sg ≠ [] ∧ sg.length ≤ 100000 ∧ (∀ x ∈ sg, (x.natAbs : Int) < 10 ^ 60) ∧ ∀ H', Same H H' → Q (.bl true) H'
def sp_tells_take (K : PySem.W.Frag) : Sp := fun vs H Q _ => ∃ (t : Addr) (r : RowD), vs = [.ref t] ∧ TupAt K H t r ∧ r.ok ∧ Q (.bl r.isTake) H
def sp_tells_put (K : PySem.W.Frag) : Sp := fun vs H Q _ => ∃ (t : Addr) (to : Int) (sg : List Int), vs = [.ref t] ∧ TupAt K H t (.put to sg) ∧ RowD.ok (.put to sg) ∧ ∀ H', Same H H' → Q (.bl true) H'
def sp_row_of (K : PySem.W.Frag) (a : Adr) : Sp := fun vs H Q _ => ∃ (t : Addr) (r : RowD), vs = [.ref t] ∧ TupAt K H t r ∧ r.ok ∧ ∀ (o : Addr) (H' : Hp), Same H H' → H o = none → ObjAt K a H' o r → Q (.ref o) H'
def sp_Ttold (a : Adr) : Sp := fun vs H Q _ => ∃ (o dx : Addr) (to st c : Int), vs = [.ref o] ∧ H o = some (.ins a.C_Take dx (takeF to st c)) ∧ ∀ t, H t = none → Q (.ref t) (upd H t (.tup [.str "take", .int to, .int st, .int c]))
def sp_Ptold (a : Adr) : Sp := fun vs H Q _ => ∃ (o dx u : Addr) (to n : Int), vs = [.ref o] ∧ H o = some (.ins a.C_Put dx (putFs to u n)) ∧ ∀ t, H t = none → Q (.ref t) (upd H t (.tup [.str "put", .int to, .ref u]))
def mixed (c k : Int) : Int :=
  let n := (c % 2147483647 + 7919 * k + 1) * 48271 % 2147483647
  n * (n / 1009 + 69621) % 2147483647
def cellAt (ns : List Int) (k : Int) : Int := if k < ns.length then ns.getD k.toNat 0 else 0
def sp_covered (K : PySem.W.Frag) : Sp := fun vs H Q _ => ∃ (p C dx : Addr) (fs : List (Str × V)) (to c : Int), vs = [.ref p] ∧ H p = some (.ins C dx fs) ∧ Cls K C ∧ NoAttr K C "to" ∧ NoAttr K C "count" ∧ fs.lookup ("to" : Str) = some (.int to) ∧ fs.lookup ("count" : Str) = some (.int c) ∧ c.toNat ≤ 2 ^ 24 ∧ newL H Q (rngI to c.toNat)
def sp_cell_at (K : PySem.W.Frag) : Sp := fun vs H Q _ => ∃ (l : Addr) (ns : List Int) (k : Int), vs = [.ref l, .int k] ∧ SqL K H l (ns.map V.int) ∧ 0 ≤ k ∧ Q (.int (cellAt ns k)) H
def sp_mixed : Sp := fun vs H Q _ => ∃ c k : Int, vs = [.int c, .int k] ∧ Q (.int (mixed c k)) H
/-! papers -/
def RowD.to : RowD → Int
  | .take t _ _ => t
  | .put t _ => t
def RowD.cnt : RowD → Nat
  | .take _ _ c => c.toNat
  | .put _ sg => sg.length
def RowD.cst : RowD → Int
  | .take .. => 4
  | .put _ sg => 2 + sg.length
def RowD.sg (es : List Int) : RowD → List Int
  | .take _ st c => (es.drop st.toNat).take c.toNat
  | .put _ sg => sg
/-- within the elder text -/
def RowD.fits (es : List Int) : RowD → Prop
  | .take _ st c => st + c ≤ es.length
  | .put _ _ => True
theorem RowD.sg_len {es : List Int} {r : RowD} (ok : r.ok) (f : r.fits es) : (r.sg es).length = r.cnt := by
  cases r with
  | take to st c =>
    obtain ⟨k1, k2, k3⟩ := ok
    have f' : st + c ≤ es.length := f
    simp only [RowD.sg, RowD.cnt, List.length_take, List.length_drop]
    omega
  | put to sg => rfl
theorem RowD.ok.to {r : RowD} (ok : r.ok) : 0 ≤ r.to := by
  cases r with
  | take to st c => exact ok.1
  | put to sg => exact ok.1
/-- the row tells what stands in nw -/
def Tells (es nw : List Int) (r : RowD) : Prop := r.ok ∧ r.fits es ∧ r.to + r.cnt ≤ nw.length ∧ ∀ i : Nat, i < r.cnt → nw[(r.to + i).toNat]? = (r.sg es)[i]?
def Covers (r : RowD) (j : Nat) : Prop := r.to ≤ j ∧ (j : Int) < r.to + r.cnt
inductive Til (es : List Int) : List RowD → List Int → Prop
  | nil : Til es [] []
  | snoc {rs : List RowD} {nw : List Int} {r : RowD} : Til es rs nw → r.ok → r.fits es → r.to = nw.length → Til es (rs ++ [r]) (nw ++ r.sg es)
theorem Tells.more {es nw : List Int} {r : RowD} (h : Tells es nw r) (ys : List Int) : Tells es (nw ++ ys) r := by
  obtain ⟨h1, h2, h3, h4⟩ := h
  have := h1.to
  refine ⟨h1, h2, by rw [List.length_append]; omega, fun i hi => ?_⟩
  rw [List.getElem?_append_left (by omega)]
  exact h4 i hi
theorem Til.tells {es : List Int} {rs : List RowD} {nw : List Int} (h : Til es rs nw) : ∀ r ∈ rs, Tells es nw r := by
  induction h with
  | nil => intro r hr; simp at hr
  | @snoc rs nw r h1 h2 h3 h4 ih =>
    intro x hx
    rcases List.mem_append.mp hx with z | z
    · exact (ih x z).more _
    · rw [List.mem_singleton.mp z]
      refine ⟨h2, h3, by rw [List.length_append, RowD.sg_len h2 h3, h4]; omega, fun i hi => ?_⟩
      have e : (r.to + (i : Int)).toNat = nw.length + i := by rw [h4]; omega
      rw [e, List.getElem?_append_right (by omega)]
      congr 1
      omega
theorem Til.covers {es : List Int} {rs : List RowD} {nw : List Int} (h : Til es rs nw) : ∀ j, j < nw.length → ∃ r ∈ rs, Covers r j := by
  induction h with
  | nil => intro j hj; simp at hj
  | @snoc rs nw r h1 h2 h3 h4 ih =>
    intro j hj
    by_cases hlt : j < nw.length
    · obtain ⟨x, hx, hc⟩ := ih j hlt
      exact ⟨x, List.mem_append_left _ hx, hc⟩
    · rw [List.length_append, RowD.sg_len h2 h3] at hj
      exact ⟨r, by simp, by unfold Covers; omega⟩
theorem Til.small {es : List Int} {rs : List RowD} {nw : List Int} (h : Til es rs nw) (he : ∀ x ∈ es, (x.natAbs : Int) < 10 ^ 60) : ∀ x ∈ nw, (x.natAbs : Int) < 10 ^ 60 := by
  induction h with
  | nil => intro x hx; simp at hx
  | @snoc rs nw r h1 h2 h3 h4 ih =>
    intro x hx
    rcases List.mem_append.mp hx with z | z
    · exact ih x z
    · cases r with
      | take to st c => exact he x (List.mem_of_mem_drop (List.mem_of_mem_take z))
      | put to sg => exact h2.2.2.2 x z
theorem plain_tells {es nw : List Int} (h1 : nw.length ≤ 100000) (h2 : ∀ x ∈ nw, (x.natAbs : Int) < 10 ^ 60) : ∀ r ∈ (if nw = [] then [] else [RowD.put 0 nw]), Tells es nw r := by
  intro r hr
  split at hr
  · simp at hr
  · rename_i hne
    rw [List.mem_singleton.mp hr]
    refine ⟨⟨by decide, hne, h1, h2⟩, trivial, by show (0 : Int) + (nw.length : Int) ≤ nw.length; omega, fun i hi => ?_⟩
    show nw[(0 + (i : Int)).toNat]? = nw[i]?
    congr 1; omega
theorem plain_covers (nw : List Int) : ∀ j, j < nw.length → ∃ r ∈ (if nw = [] then [] else [RowD.put 0 nw]), Covers r j := by
  intro j hj
  have hne : nw ≠ [] := fun z => by rw [z] at hj; simp at hj
  rw [if_neg hne]
  refine ⟨_, List.mem_singleton.mpr rfl, ?_⟩
  show (0 : Int) ≤ j ∧ (j : Int) < 0 + (nw.length : Int)
  omega
/-- at the cells of S ys is as nw -/
def Agree (S : Nat → Prop) (ys nw : List Int) : Prop := ys.length = nw.length ∧ ∀ j, S j → ys[j]? = nw[j]?
theorem Agree.set {S S' : Nat → Prop} {ys nw : List Int} {c : Nat} {v : Int} (h : Agree S ys nw) (hv : nw[c]? = some v) (hS : ∀ j, S' j → S j ∨ j = c) : Agree S' (ys.set c v) nw := by
  have hc : c < ys.length := by rw [h.1]; exact (List.getElem?_eq_some_iff.mp hv).1
  refine ⟨by rw [List.length_set]; exact h.1, fun j hj => ?_⟩
  by_cases e : c = j
  · subst e
    rw [List.getElem?_set_self hc, hv]
  · rw [List.getElem?_set_ne e]
    rcases hS j hj with z | z
    · exact h.2 j z
    · exact absurd z.symm e
theorem Agree.all {S : Nat → Prop} {ys nw : List Int} (h : Agree S ys nw) (k : ∀ j, j < nw.length → S j) : ys = nw := by
  apply List.ext_getElem?
  intro j
  by_cases hj : j < nw.length
  · exact h.2 j (k j hj)
  · rw [List.getElem?_eq_none (by rw [h.1]; omega), List.getElem?_eq_none (by omega)]
/-- the paper's tuple -/
def PapAt (K : PySem.W.Frag) (H : Hp) (p : Addr) (o n : Int) (rs : List RowD) : Prop := ∃ t ts, H p = some (.tup [.int o, .int n, .ref t]) ∧ H t = some (.tup (ts.map V.ref)) ∧ Paired (TupAt K H) ts rs
theorem PapAt.same {K : PySem.W.Frag} {H H' : Hp} {p : Addr} {o n : Int} {rs : List RowD} (h : PapAt K H p o n rs) (s : Same H H') : PapAt K H' p o n rs := by
  obtain ⟨t, ts, h1, h2, h3⟩ := h
  exact ⟨t, ts, s.at h1, s.at h2, L2.Paired.imp' (fun _ _ z => z.same s) h3⟩
def papD (o n : Int) (rs : List RowD) : PyData := .tuple [.int o, .int n, .tuple (rs.map RowD.dat)]
theorem PapAt.rp {K : PySem.W.Frag} {H : Hp} {p : Addr} {o n : Int} {rs : List RowD} (h : PapAt K H p o n rs) : Rp K H (.ref p) (papD o n rs) := by
  obtain ⟨t, ts, h1, h2, h3⟩ := h
  exact .tup (SqT.of h1) (.cons (.int _) (.cons (.int _) (.cons (.tup (SqT.of h2) (tups_rp h3)) .nil)))
theorem pap_shaped (o n : Int) (rs : List RowD) : SeqAt.shaped (papD o n rs) = true := by
  unfold SeqAt.shaped papD
  have h1 : PyData.canLay0 (.tuple [.int o, .int n, .tuple (rs.map RowD.dat)]) = true := by simp [PyData.canLay0, PyData.canLayAll0, dats_can rs]
  have h2 : PyData.depth (.tuple [.int o, .int n, .tuple (rs.map RowD.dat)]) ≤ 64 := by
    have := dats_depth rs
    simp only [PyData.depth, PyData.depthAll]; omega
  rw [h1, decide_eq_true h2]; rfl
abbrev e_lam : Expr := callArg 1 (asgVal ((forBody ((forBody ((defBody s_meant).getD 1 (.Pass ⟨0, 0, 0, 0⟩))).getD 1 (.Pass ⟨0, 0, 0, 0⟩))).getD 0 (.Pass ⟨0, 0, 0, 0⟩)))
theorem sc_lam : CloScope ["at", "elder"] ["at"] ["elder"] (lamScope e_lam) := ⟨rfl, rfl, rfl, by decide +kernel, rfl, by decide +kernel, by decide +kernel, by decide +kernel⟩
abbrev LamAt (H : Hp) (f : Addr) (fv : List (Str × V)) : Prop := CloAt H f "<lambda>" "meant.<locals>.<lambda>" (lamArgs e_lam) (.expr (lamBody e_lam)) (lamScope e_lam) fv
def sp_lam : List (Str × V) → Sp := fun fv vs H Q _ => ∃ (e : Addr) (es : List Int) (i v : Int), fv = ([("elder", .ref e)] : List (Str × V)) ∧ vs = [.int i] ∧ H e = some (.lst (es.map V.int)) ∧ 0 ≤ i ∧ es[i.toNat]? = some v ∧ Q (.int v) H
def sp_Tsign (a : Adr) : Sp := fun vs H Q E => ∃ (p dx : Addr) (to st c cell : Int) (f : Addr) (fv : List (Str × V)), vs = [.ref p, .int cell, .ref f] ∧ H p = some (.ins a.C_Take dx (takeF to st c)) ∧ LamAt H f fv ∧ sp_lam fv [.int (st + cell - to)] H Q E0
def sp_Psign (a : Adr) : Sp := fun vs H Q E => ∃ (p dx u : Addr) (to n cell v : Int) (f : V) (sg : List Int), vs = [.ref p, .int cell, f] ∧ H p = some (.ins a.C_Put dx (putFs to u n)) ∧ H u = some (.tup (sg.map V.int)) ∧ 0 ≤ cell - to ∧ sg[(cell - to).toNat]? = some v ∧ Q (.int v) H
def sp_Tcost : Sp := fun vs H Q E => ∃ (p : Addr), vs = [.ref p] ∧ Q (.int 4) H
def sp_Pcost (a : Adr) : Sp := fun vs H Q E => ∃ (p dx u : Addr) (to n : Int), vs = [.ref p] ∧ H p = some (.ins a.C_Put dx (putFs to u n)) ∧ Q (.int (2 + n)) H
def sp_meant (K : PySem.W.Frag) : Sp := fun vs H Q _ => ∃ (p e : Addr) (o : Int) (rs : List RowD) (es nw : List Int), vs = [.ref p, .ref e] ∧ H P_meant = some (.tbl qs_meant) ∧ PapAt K H p o nw.length rs ∧ H e = some (.lst (es.map V.int)) ∧ (∀ r ∈ rs, Tells es nw r) ∧ (∀ j, j < nw.length → ∃ r ∈ rs, Covers r j) ∧ nw.length ≤ 1000 ∧ rs.length ≤ 1000 ∧ newL H Q nw
def sp_cost (K : PySem.W.Frag) : Sp := fun vs H Q _ => ∃ (p : Addr) (o n : Int) (rs : List RowD), vs = [.ref p] ∧ PapAt K H p o n rs ∧ (∀ r ∈ rs, r.ok) ∧ rs.length ≤ 1000 ∧ ∀ H', Same H H' → Q (.int (rs.map RowD.cst).sum) H'
def plainRs (ns : List Int) : List RowD := if ns = [] then [] else [.put 0 ns]
def sp_plain (K : PySem.W.Frag) : Sp := fun vs H Q _ => ∃ (o : Int) (l : Addr) (ns : List Int), vs = [.int o, .ref l] ∧ H l = some (.lst (ns.map V.int)) ∧ ∀ (p : Addr) (H' : Hp), Same H H' → PapAt K H' p o ns.length (plainRs ns) → Q (.ref p) H'
/-! the law's own -/
theorem TupAt.off {K : PySem.W.Frag} {H : Hp} {t p : Addr} {r : RowD} {xs : List V} {o : HO} (h : TupAt K H t r) (hp : H p = some (.lst xs)) : TupAt K (upd H p o) t r := by
  cases r with
  | take to st c => show upd H p o t = _; rw [upd_ne (ne_of h hp (by intro z; cases z))]; exact h
  | put to sg =>
    obtain ⟨u, h1, h2⟩ := h
    exact ⟨u, by rw [upd_ne (ne_of h1 hp (by intro z; cases z))]; exact h1, by rw [upd_ne (ne_of h2 hp (by intro z; cases z))]; exact h2⟩
def sp_sign : Sp := fun vs H Q _ => ∃ c k : Int, vs = [.int c, .int k] ∧ ∀ v : Int, (v.natAbs : Int) < 10 ^ 60 → Q (.int v) H
def sp_rows (K : PySem.W.Frag) : Sp := fun vs H Q _ => ∃ (e c : Addr) (es cs : List Int), vs = [.ref e, .ref c] ∧ H e = some (.lst (es.map V.int)) ∧ H c = some (.lst (cs.map V.int)) ∧ cs.length ≤ 24 ∧ es.length ≤ 60 ∧
  ∀ (p rl nl : Addr) (ts : List Addr) (rs : List RowD) (nw : List Int) (H' : Hp), Same H H' → H' p = some (.tup [.ref rl, .ref nl]) → H' rl = some (.lst (ts.map V.ref)) → Paired (TupAt K H') ts rs → H' nl = some (.lst (nw.map V.int)) → Til es rs nw → rs.length ≤ 24 → nw.length ≤ 288 → Q (.ref p) H'
def sp_mixed_up : Sp := fun vs H Q _ => ∃ (rl : Addr) (c : Int) (ts : List Addr), vs = [.ref rl, .int c] ∧ H rl = some (.lst (ts.map V.ref)) ∧ ts.length ≤ 24 ∧ ∀ (l : Addr) (us : List Addr) (H' : Hp), Same H H' → H' l = some (.lst (us.map V.ref)) → us.Perm ts → Q (.ref l) H'
def sp_price (K : PySem.W.Frag) : Sp := fun vs H Q _ => ∃ (l : Addr) (ts : List Addr) (rs : List RowD), vs = [.ref l] ∧ (H l = some (.lst (ts.map V.ref)) ∨ H l = some (.tup (ts.map V.ref))) ∧ Paired (TupAt K H) ts rs ∧ Q (.int (rs.map RowD.cst).sum) H
def sp_law (K : PySem.W.Frag) : Sp := fun vs H Q _ => ∃ (l : Addr) (ns : List Int), vs = [.ref l] ∧ SqL K H l (ns.map V.int) ∧ ns.length ≤ 63 ∧ H P_meant = some (.tbl qs_meant) ∧ ∀ H', Q (.bl true) H'
local macro_rules | `(tactic| walk_at "w") => `(tactic| (conv => whnf))
local macro_rules | `(tactic| walk_at "few") => `(tactic| first | exact Nat.lt_of_lt_of_le (few_put (n := 998) (by simp)) (by decide) | (simp; done))
local macro_rules | `(tactic| walk_at "pos") => `(tactic| first | (show (0 : Int) < _; decide) | (show (0 : Int) < _; omega) | assumption)
local macro_rules | `(tactic| walk_at "same") => `(tactic| first | exact Same.refl _ | assumption | (refine' Same.trans ?sa ?sb; (case sb => assumption); (case sa => walk_at "same")))
local macro_rules | `(tactic| walk_at "get") => `(tactic| first | assumption | exact upd_same | (refine' Same.at ?ga ?gb; (case gb => assumption); (case ga => walk_at "same")))
local macro_rules | `(tactic| walk_at "sq") => `(tactic| first | assumption | (refine' SqL.of ?g; (case g => walk_at "get")) | (refine' SqT.of ?g; (case g => walk_at "get")) | (refine' Same.seq ?sa ?sb; (case sb => assumption); (case sa => walk_at "same")) | (refine' Same.seqT ?sa ?sb; (case sb => assumption); (case sa => walk_at "same")) | (refine' Or.inl ?g; (case g => walk_at "sq")) | (refine' Or.inr ?g; (case g => walk_at "sq")))
local macro_rules | `(tactic| walk_at "no") => `(tactic| (intro z; first | cases z | (simp at z; done)))
local macro_rules | `(tactic| walk_at "mul") => `(tactic| first | exact Or.inl ⟨by decide, by decide⟩ | exact Or.inr ⟨by decide, by decide⟩ | exact Or.inl ⟨by omega, by omega⟩ | exact Or.inr ⟨by omega, by omega⟩)
local macro_rules | `(tactic| walk_at "side") => `(tactic| first | exact ⟨by decide, by decide⟩ | exact ⟨by decide, by decide, by decide⟩ | walk_at "pos" | walk_at "mul" | (show (_ : Nat) ≤ sizeLine; first | decide | (simp only [List.length_cons, List.length_nil]; decide)))
local macro_rules | `(tactic| walk_at "s") => `(tactic| (refine And.intro (by walk_at "side") ?_; walk_at "w"))
local macro_rules | `(tactic| walk_at "ss") => `(tactic| (repeat (walk_at "s")))

section
variable {P : Program} {w : World} {K : PySem.W.Frag} {mg : Str → Option Value} {base : Heap} {a : Adr}
theorem ok_Row_init (T : Txt K mg a) : FnOk P w K mg base CX0 1 a.f_Row_init a.d_Row_init ["self", "to"] (sp_Row_init K) := by
  refine T.F_Row_init.ok sc_Row_init (fun vs H Q E h => ?_) (fun cdv A outer s H vs Q E hr h => ?_)
  · obtain ⟨p, C, dx, to, rfl, _⟩ := h; rfl
  · obtain ⟨p, C, dx, to, rfl, hp, c, n1, n2, k⟩ := h
    have nd := sc_Row_init.nd
    refine ⟨_, (pss_cons (ps_fld (cv 0) (cv 1) rfl)
    (pss_one (ps_fld (cv 0) pe_int rfl))), ?_⟩
    walk_at "w"
    refine ⟨p, C, dx, _, rfl, hp, c, n1, by walk_at "few", ?_⟩
    walk_at "w"
    refine ⟨p, C, dx, _, rfl, upd_same, c, n2, by walk_at "few", ?_⟩
    walk_at "w"
    rw [upd_upd]
    exact k
theorem ok_Take_init (T : Txt K mg a) : FnOk P w K mg base CX0 2 a.f_Take_init a.d_Take_init ["self", "to", "start", "count"] (sp_Take_init a) := by
  refine T.F_Take_init.ok sc_Take_init (fun vs H Q E h => ?_) (fun cdv A outer s H vs Q E hr h => ?_)
  · obtain ⟨p, dx, to, st, c, rfl, _⟩ := h; rfl
  · obtain ⟨p, dx, to, st, c, rfl, hp, k⟩ := h
    have nd := sc_Take_init.nd
    refine ⟨_, (pss_cons (ps_expr (pe_base (by rfl) T.m_Row T.cm_Row_init (ok_Row_init T) (hr.mono (by decide)) T.b_Row_init .nil pass0 (pa_cons (cv 0) (pa_cons (cv 1) pa_nil))))
    (pss_cons (ps_fld (cv 0) (cv 2) rfl)
    (pss_one (ps_fld (cv 0) (cv 3) rfl)))), ?_⟩
    walk_at "w"
    refine ⟨p, _, dx, to, rfl, hp, T.c_Take, T.na_Take_to, T.na_Take_count, ?_⟩
    walk_at "w"
    refine ⟨p, _, dx, _, rfl, upd_same, T.c_Take, T.na_Take_source, by walk_at "few", ?_⟩
    walk_at "w"
    refine ⟨p, _, dx, _, rfl, upd_same, T.c_Take, T.na_Take_count, by walk_at "few", ?_⟩
    walk_at "w"
    rw [upd_upd, upd_upd]
    exact k
theorem ok_Put_init (T : Txt K mg a) : FnOk P w K mg base CX0 2 a.f_Put_init a.d_Put_init ["self", "to", "signs"] (sp_Put_init K a) := by
  refine T.F_Put_init.ok sc_Put_init (fun vs H Q E h => ?_) (fun cdv A outer s H vs Q E hr h => ?_)
  · obtain ⟨p, dx, t, to, xs, rfl, _⟩ := h; rfl
  · obtain ⟨p, dx, t, to, xs, rfl, hp, ht, k⟩ := h
    have nd := sc_Put_init.nd
    have ht1 : ∀ o, SqT K (upd H p o) t xs := fun o => sqT_wr ht hp
    refine ⟨_, (pss_cons (ps_expr (pe_base (by rfl) T.m_Row T.cm_Row_init (ok_Row_init T) (hr.mono (by decide)) T.b_Row_init .nil pass0 (pa_cons (cv 0) (pa_cons (cv 1) pa_nil))))
    (pss_cons (ps_fld (cv 0) (pe_callTy call_tuple_of (by rfl) T.n_tuple bt_tuple (pa_cons (cv 2) pa_nil)) rfl)
    (pss_one (ps_fld (cv 0) (pe_callB call_len_seq (by rfl) T.n_len bt_len (pa_cons (pe_fld (cv 0) rfl) pa_nil)) rfl)))), ?_⟩
    walk_at "w"
    refine ⟨p, _, dx, to, rfl, hp, T.c_Put, T.na_Put_to, T.na_Put_count, ?_⟩
    walk_at "w"
    refine ⟨t, xs, rfl, .inr ⟨ht1 _, ?_⟩⟩
    walk_at "w"
    refine ⟨p, _, dx, _, rfl, upd_same, T.c_Put, T.na_Put_signs, by walk_at "few", ?_⟩
    walk_at "w"
    refine ⟨p, _, dx, _, .ref t, rfl, upd_same, T.c_Put, T.na_Put_signs, rfl, ?_⟩
    walk_at "w"
    refine ⟨t, xs, rfl, .inr (sqT_wr (ht1 _) upd_same), ?_⟩
    walk_at "w"
    refine ⟨p, _, dx, _, rfl, upd_same, T.c_Put, T.na_Put_count, by walk_at "few", ?_⟩
    walk_at "w"
    rw [upd_upd, upd_upd]
    exact k
theorem ok_Row_covered (T : Txt K mg a) : FnOk P w K mg base CX0 1 a.f_Row_covered a.d_Row_covered ["self"] (sp_covered K) := by
  refine T.F_Row_covered.ok sc_Row_covered (fun vs H Q E h => ?_) (fun cdv A outer s H vs Q E hr h => ?_)
  · obtain ⟨p, C, dx, fs, to, c, rfl, _⟩ := h; rfl
  · obtain ⟨p, C, dx, fs, to, c, rfl, hp, cl, n1, n2, l1, l2, hc, k⟩ := h
    have nd := sc_Row_covered.nd
    refine ⟨_, (pss_one (ps_ret (pe_callTy (call_list_rng rfl) (by rfl) T.n_list bt_list (pa_cons (ce_range2 (by rfl) T.n_range (pa_cons (pe_fld (cv 0) rfl) (pa_cons (pe_op o_add (pe_fld (cv 0) rfl) (pe_fld (cv 0) rfl)) pa_nil))) pa_nil)))), ?_⟩
    walk_at "w"
    refine ⟨p, C, dx, fs, _, rfl, hp, cl, n1, l1, ?_⟩
    walk_at "w"
    refine ⟨p, C, dx, fs, _, rfl, hp, cl, n1, l1, ?_⟩
    walk_at "w"
    refine ⟨p, C, dx, fs, _, rfl, hp, cl, n2, l2, ?_⟩
    walk_at "w"
    intro r hr1
    walk_at "w"
    have e : rngN to (to + c) 1 = c.toNat := by rw [rngN_one]; congr 1; omega
    refine ⟨r, to, to + c, rfl, upd_same, by rw [e]; exact hc, fun l hl => ?_⟩
    rw [e, rngV_eq]
    have hl0 : H l = none := Same.free (Same.new hr1) hl
    exact k l _ ((Same.new hr1).put hl0) hl0 upd_same
theorem ok_cell_at (T : Txt K mg a) : FnOk P w K mg base CX0 1 a.f_cell_at a.d_cell_at ["_law_script", "_law_k"] (sp_cell_at K) := by
  refine T.F_cell_at.ok sc_cell_at (fun vs H Q E h => ?_) (fun cdv A outer s H vs Q E hr h => ?_)
  · obtain ⟨l, ns, k, rfl, _⟩ := h; rfl
  · obtain ⟨l, ns, k, rfl, hl, hk, q⟩ := h
    have nd := sc_cell_at.nd
    refine ⟨_, (pss_cons (cs_if (ct_cmp o_lt (cv 1) (pe_callB call_len_seq (by rfl) T.n_len bt_len (pa_cons (cv 0) pa_nil))) (pss_one (ps_ret (pe_ix ix_list (cv 0) (cv 1) (fun _ _ => rfl)))) pss_nil)
    (pss_one (ps_ret pe_int))), ?_⟩
    walk_at "w"
    refine ⟨l, _, rfl, .inl hl, ?_⟩
    walk_at "w"
    refine ⟨fun e => ?_, fun e => ?_⟩
    · have e' := of_decide_eq_true e
      rw [List.length_map] at e'
      walk_at "w"
      refine ⟨l, _, k, .int (ns.getD k.toNat 0), rfl, rfl, hl, ?_, ?_⟩
      · have hk' : k.toNat < ns.length := by omega
        have := atI_nat (xs := ns.map V.int) (j := k.toNat) (v := .int (ns.getD k.toNat 0)) (by simp [hk'])
        rwa [Int.toNat_of_nonneg hk] at this
      · walk_at "w"
        rw [cellAt, if_pos e'] at q
        exact q
    · have e' := of_decide_eq_false e
      rw [List.length_map] at e'
      rw [cellAt, if_neg e'] at q
      exact q
theorem mod_bounds (x : Int) : 0 ≤ x % 2147483647 ∧ x % 2147483647 < 2147483647 := ⟨Int.emod_nonneg _ (by decide), Int.emod_lt_of_pos _ (by decide)⟩
theorem ok_mixed (T : Txt K mg a) : FnOk P w K mg base CX0 1 a.f_mixed a.d_mixed ["_law_cell", "_law_k"] sp_mixed := by
  refine T.F_mixed.ok sc_mixed (fun vs H Q E h => ?_) (fun cdv A outer s H vs Q E hr h => ?_)
  · obtain ⟨c, k, rfl, _⟩ := h; rfl
  · obtain ⟨c, k, rfl, q⟩ := h
    have nd := sc_mixed.nd
    refine ⟨_, (pss_cons (ps_set (i := 2) nd rfl (Or.inl rfl) (pe_op o_mod (pe_op o_mul (pe_op o_add (pe_op o_add (pe_op o_mod (cv 0) pe_int) (pe_op o_mul pe_int (cv 1))) pe_int) pe_int) pe_int))
    (pss_one (ps_ret (pe_op o_mod (pe_op o_mul (cv 2) (pe_op o_add (pe_op o_fdiv (cv 2) pe_int) pe_int)) pe_int)))), ?_⟩
    have b := mod_bounds ((c % 2147483647 + 7919 * k + 1) * 48271)
    walk_at "w"
    refine ⟨by walk_at "pos", ?_⟩
    walk_at "w"
    refine ⟨.inl ⟨by decide, by decide⟩, ?_⟩
    walk_at "w"
    refine ⟨.inr ⟨by decide, by decide⟩, ?_⟩
    walk_at "w"
    refine ⟨by walk_at "pos", ?_⟩
    walk_at "w"
    refine ⟨⟨by decide, by decide⟩, ?_⟩
    walk_at "w"
    refine ⟨.inl ⟨by omega, by omega⟩, ?_⟩
    walk_at "w"
    refine ⟨by walk_at "pos", ?_⟩
    exact q
theorem ok_is_whole (T : Txt K mg a) : FnOk P w K mg base CX0 1 a.f_is_whole a.d_is_whole ["value"] sp_is_whole := by
  refine T.F_is_whole.ok sc_is_whole (fun vs H Q E h => ?_) (fun cdv A outer s H vs Q E hr h => ?_)
  · obtain ⟨i, rfl, _⟩ := h; rfl
  · obtain ⟨i, rfl, q⟩ := h
    have nd := sc_is_whole.nd
    refine ⟨_, (pss_one (ps_ret (ce_and (pe_callB call_isi (by rfl) T.n_isinstance bt_isinstance (pa_cons (cv 0) (pa_cons (pe_bltn (v := .ty "int") (by rfl) T.n_int bt_int rfl) pa_nil))) (pe_one (ce_not (pe_callB call_isi (by rfl) T.n_isinstance bt_isinstance (pa_cons (cv 0) (pa_cons (pe_bltn (v := .ty "bool") (by rfl) T.n_bool bt_bool rfl) pa_nil)))))))), ?_⟩
    walk_at "w"
    refine ⟨_, _, _, _, true, rfl, rfl, TyOf.int _, rfl, ?_⟩
    walk_at "w"
    refine ⟨fun _ => ?_, by walk_at "no"⟩
    walk_at "w"
    refine ⟨_, _, _, _, false, rfl, rfl, TyOf.int _, rfl, ?_⟩
    exact q
theorem ok_is_whole_from (T : Txt K mg a) : FnOk P w K mg base CX0 2 a.f_is_whole_from a.d_is_whole_from ["least", "value"] sp_is_whole_from := by
  refine T.F_is_whole_from.ok sc_is_whole_from (fun vs H Q E h => ?_) (fun cdv A outer s H vs Q E hr h => ?_)
  · obtain ⟨l, i, rfl, _⟩ := h; rfl
  · obtain ⟨l, i, rfl, q⟩ := h
    have nd := sc_is_whole_from.nd
    refine ⟨_, (pss_one (ps_ret (ce_and (pe_call (ok_is_whole T) (hr.mono (by decide)) (by rfl) T.m_is_whole T.F_is_whole.kp T.b_is_whole .nil pass0 (pa_cons (cv 1) pa_nil)) (pe_one (ce_cmp o_ge (cv 1) (cv 0)))))), ?_⟩
    walk_at "w"
    refine ⟨i, rfl, ?_⟩
    walk_at "w"
    exact ⟨fun _ => q, by walk_at "no"⟩
theorem ok_is_sign (T : Txt K mg a) : FnOk P w K mg base CX0 2 a.f_is_sign a.d_is_sign ["value"] sp_is_sign := by
  refine T.F_is_sign.ok sc_is_sign (fun vs H Q E h => ?_) (fun cdv A outer s H vs Q E hr h => ?_)
  · obtain ⟨i, rfl, _⟩ := h; rfl
  · obtain ⟨i, rfl, hi, q⟩ := h
    have nd := sc_is_sign.nd
    refine ⟨_, (pss_one (ps_ret (ce_and (pe_call (ok_is_whole T) (hr.mono (by decide)) (by rfl) T.m_is_whole T.F_is_whole.kp T.b_is_whole .nil pass0 (pa_cons (cv 0) pa_nil)) (pe_one (ce_cmp o_lt (pe_callB c_abs (by rfl) T.n_abs bt_abs (pa_cons (cv 0) pa_nil)) (pe_op o_pow pe_int pe_int)))))), ?_⟩
    walk_at "w"
    refine ⟨i, rfl, ?_⟩
    walk_at "w"
    refine ⟨fun _ => ?_, by walk_at "no"⟩
    walk_at "w"
    refine ⟨⟨by decide, by decide, by decide⟩, ?_⟩
    walk_at "w"
    show Q (.bl (decide ((i.natAbs : Int) < 10 ^ (60 : Int).toNat))) H
    have e : decide ((i.natAbs : Int) < 10 ^ (60 : Int).toNat) = true := decide_eq_true hi
    rw [e]
    exact q
theorem ok_are_signs (T : Txt K mg a) : FnOk P w K mg base CX0 3 a.f_are_signs a.d_are_signs ["signs"] (sp_are_signs K) := by
  refine T.F_are_signs.ok sc_are_signs (fun vs H Q E h => ?_) (fun cdv A outer s H vs Q E hr h => ?_)
  · obtain ⟨u, sg, rfl, _⟩ := h; rfl
  · obtain ⟨u, sg, rfl, hu, hne, hlen, hs, q⟩ := h
    have nd := sc_are_signs.nd
    refine ⟨_, (pss_one (ps_ret (ce_and (pe_callB call_isi (by rfl) T.n_isinstance bt_isinstance (pa_cons (cv 0) (pa_cons (pe_bltn (v := .ty "tuple") (by rfl) T.n_tuple bt_tuple rfl) pa_nil))) (ce_and (ce_cmp o_gt (pe_callB call_len_seq (by rfl) T.n_len bt_len (pa_cons (cv 0) pa_nil)) pe_int) (pe_one (pe_callB (call_allB rfl) (by rfl) T.n_all bt_all (pa_cons (pe_comp (blk_mk (cap := []) (ys := []) rfl rfl rfl rfl rfl trivial (by decide +kernel)) rfl (pi_tup (cv 0)) (fun _ _ _ _ => (pe_call (ok_is_sign T) (hr.mono (by decide)) (by rfl) T.m_is_sign T.F_is_sign.kp T.b_is_sign .nil pass0 (pa_cons (cv 0) pa_nil))) (fun _ _ _ _ => cts_nil)) pa_nil))))))), ?_⟩
    walk_at "w"
    refine ⟨_, _, _, _, true, rfl, rfl, TyOf.tup hu, rfl, ?_⟩
    walk_at "w"
    refine ⟨fun _ => ?_, by walk_at "no"⟩
    walk_at "w"
    refine ⟨u, _, rfl, .inr (SqT.of hu), ?_⟩
    walk_at "w"
    have hpos : 0 < sg.length := List.length_pos_iff.mpr hne
    refine ⟨fun _ => ?_, fun z => by have := of_decide_eq_false z; rw [List.length_map] at this; omega⟩
    walk_at "w"
    refine ⟨u, rfl, ⟨_, SqT.of hu⟩, ?_⟩
    refine comp_tupP (fun i acc _ => acc = List.replicate i (V.bl true)) (SqT.of hu) (by rw [List.length_map, sizeLine_eq]; omega) rfl (fun i x acc H3 H3' hx s3 s3' hp R hR => ?_) (fun D acc H3 H3' hD hD3 s3 s3' hp hl hv => ?_)
    · rw [List.getElem?_map] at hx
      cases hy : sg[i]? with
      | none => rw [hy] at hx; cases hx
      | some y =>
        rw [hy] at hx
        cases hx
        walk_at "w"
        refine ⟨y, rfl, hs y (List.mem_of_getElem? hy), hR _ _ (Same.refl _) fun H6 _ _ => ?_⟩
        rw [hp, List.replicate_succ']
    · walk_at "w"
      refine ⟨D, List.replicate sg.length true, rfl, SqL.of ?_, ?_⟩
      · rw [hv, hp, List.length_map, List.map_replicate]
      · walk_at "w"
        show Q (.bl ((List.replicate sg.length true).all id)) H3'
        have e : (List.replicate sg.length true).all id = true := by simp
        rw [e]
        exact q _ (s3.trans s3')
theorem ok_tells_take (T : Txt K mg a) : FnOk P w K mg base CX0 3 a.f_tells_take a.d_tells_take ["told"] (sp_tells_take K) := by
  refine T.F_tells_take.ok sc_tells_take (fun vs H Q E h => ?_) (fun cdv A outer s H vs Q E hr h => ?_)
  · obtain ⟨t, r, rfl, _⟩ := h; rfl
  · obtain ⟨t, r, rfl, ht, hk, q⟩ := h
    have nd := sc_tells_take.nd
    refine ⟨_, (pss_cons (cs_if (PW.pt (cw_or (pt_not (ct_val (pe_callB call_isi (by rfl) T.n_isinstance bt_isinstance (pa_cons (cv 0) (pa_cons (pe_bltn (v := .ty "tuple") (by rfl) T.n_tuple bt_tuple rfl) pa_nil))))) (cw_or (ct_cmp o_neI (pe_callB call_len_seq (by rfl) T.n_len bt_len (pa_cons (cv 0) pa_nil)) pe_int) (pw_or1 (ct_cmp o_neS (pe_ix ix_tup (cv 0) pe_int (fun _ _ => rfl)) pe_str))))) (pss_one (ps_ret pe_bl)) pss_nil)
    (pss_one (ps_ret (ce_and (pe_call (ok_is_whole_from T) (hr.mono (by decide)) (by rfl) T.m_is_whole_from T.F_is_whole_from.kp T.b_is_whole_from .nil pass0 (pa_cons pe_int (pa_cons (pe_ix ix_tup (cv 0) pe_int (fun _ _ => rfl)) pa_nil))) (ce_and (pe_call (ok_is_whole_from T) (hr.mono (by decide)) (by rfl) T.m_is_whole_from T.F_is_whole_from.kp T.b_is_whole_from .nil pass0 (pa_cons pe_int (pa_cons (pe_ix ix_tup (cv 0) pe_int (fun _ _ => rfl)) pa_nil))) (pe_one (pe_call (ok_is_whole_from T) (hr.mono (by decide)) (by rfl) T.m_is_whole_from T.F_is_whole_from.kp T.b_is_whole_from .nil pass0 (pa_cons pe_int (pa_cons (pe_ix ix_tup (cv 0) pe_int (fun _ _ => rfl)) pa_nil))))))))), ?_⟩
    cases r with
    | put to sg =>
      obtain ⟨u, h1, h2⟩ := ht
      walk_at "w"
      refine ⟨_, _, _, _, true, rfl, rfl, TyOf.tup h1, rfl, ?_⟩
      walk_at "w"
      refine ⟨by walk_at "no", fun _ => ?_⟩
      walk_at "w"
      refine ⟨t, _, rfl, .inr (SqT.of h1), ?_⟩
      walk_at "w"
      refine ⟨fun _ => ?_, by walk_at "no"⟩
      walk_at "w"
      exact ⟨fun _ => q, by walk_at "no"⟩
    | take to st c =>
      walk_at "w"
      refine ⟨_, _, _, _, true, rfl, rfl, TyOf.tup ht, rfl, ?_⟩
      walk_at "w"
      refine ⟨by walk_at "no", fun _ => ?_⟩
      walk_at "w"
      refine ⟨t, _, rfl, .inr (SqT.of ht), ?_⟩
      walk_at "w"
      refine ⟨by walk_at "no", fun _ => ?_⟩
      walk_at "w"
      refine ⟨t, _, _, .str "take", rfl, rfl, SqT.of ht, rfl, ?_⟩
      walk_at "w"
      refine ⟨by walk_at "no", fun _ => ?_⟩
      walk_at "w"
      obtain ⟨k1, k2, k3⟩ := hk
      refine ⟨t, _, _, .int to, rfl, rfl, SqT.of ht, rfl, ?_⟩
      walk_at "w"
      refine ⟨_, _, rfl, ?_⟩
      walk_at "w"
      refine ⟨fun _ => ?_, fun z => absurd k1 (of_decide_eq_false z)⟩
      walk_at "w"
      refine ⟨t, _, _, .int st, rfl, rfl, SqT.of ht, rfl, ?_⟩
      walk_at "w"
      refine ⟨_, _, rfl, ?_⟩
      walk_at "w"
      refine ⟨fun _ => ?_, fun z => absurd k2 (of_decide_eq_false z)⟩
      walk_at "w"
      refine ⟨t, _, _, .int c, rfl, rfl, SqT.of ht, rfl, ?_⟩
      walk_at "w"
      refine ⟨_, _, rfl, ?_⟩
      walk_at "w"
      rw [decide_eq_true k3]
      exact q
theorem ok_tells_put (T : Txt K mg a) : FnOk P w K mg base CX0 4 a.f_tells_put a.d_tells_put ["told"] (sp_tells_put K) := by
  refine T.F_tells_put.ok sc_tells_put (fun vs H Q E h => ?_) (fun cdv A outer s H vs Q E hr h => ?_)
  · obtain ⟨t, to, sg, rfl, _⟩ := h; rfl
  · obtain ⟨t, to, sg, rfl, ⟨u, h1, h2⟩, ⟨k1, k2, k3, k4⟩, q⟩ := h
    have nd := sc_tells_put.nd
    refine ⟨_, (pss_cons (cs_if (PW.pt (cw_or (pt_not (ct_val (pe_callB call_isi (by rfl) T.n_isinstance bt_isinstance (pa_cons (cv 0) (pa_cons (pe_bltn (v := .ty "tuple") (by rfl) T.n_tuple bt_tuple rfl) pa_nil))))) (cw_or (ct_cmp o_neI (pe_callB call_len_seq (by rfl) T.n_len bt_len (pa_cons (cv 0) pa_nil)) pe_int) (pw_or1 (ct_cmp o_neS (pe_ix ix_tup (cv 0) pe_int (fun _ _ => rfl)) pe_str))))) (pss_one (ps_ret pe_bl)) pss_nil)
    (pss_one (ps_ret (ce_and (pe_call (ok_is_whole_from T) (hr.mono (by decide)) (by rfl) T.m_is_whole_from T.F_is_whole_from.kp T.b_is_whole_from .nil pass0 (pa_cons pe_int (pa_cons (pe_ix ix_tup (cv 0) pe_int (fun _ _ => rfl)) pa_nil))) (pe_one (pe_call (ok_are_signs T) (hr.mono (by decide)) (by rfl) T.m_are_signs T.F_are_signs.kp T.b_are_signs .nil pass0 (pa_cons (pe_ix ix_tup (cv 0) pe_int (fun _ _ => rfl)) pa_nil))))))), ?_⟩
    walk_at "w"
    refine ⟨_, _, _, _, true, rfl, rfl, TyOf.tup h1, rfl, ?_⟩
    walk_at "w"
    refine ⟨by walk_at "no", fun _ => ?_⟩
    walk_at "w"
    refine ⟨t, _, rfl, .inr (SqT.of h1), ?_⟩
    walk_at "w"
    refine ⟨by walk_at "no", fun _ => ?_⟩
    walk_at "w"
    refine ⟨t, _, _, .str "put", rfl, rfl, SqT.of h1, rfl, ?_⟩
    walk_at "w"
    refine ⟨by walk_at "no", fun _ => ?_⟩
    walk_at "w"
    refine ⟨t, _, _, .int to, rfl, rfl, SqT.of h1, rfl, ?_⟩
    walk_at "w"
    refine ⟨_, _, rfl, ?_⟩
    walk_at "w"
    refine ⟨fun _ => ?_, fun z => absurd k1 (of_decide_eq_false z)⟩
    walk_at "w"
    refine ⟨t, _, _, .ref u, rfl, rfl, SqT.of h1, rfl, ?_⟩
    walk_at "w"
    exact ⟨u, sg, rfl, h2, k2, k3, k4, q⟩
theorem ok_row_of (T : Txt K mg a) : FnOk P w K mg base CX0 5 a.f_row_of a.d_row_of ["told"] (sp_row_of K a) := by
  refine T.F_row_of.ok sc_row_of (fun vs H Q E h => ?_) (fun cdv A outer s H vs Q E hr h => ?_)
  · obtain ⟨t, r, rfl, _⟩ := h; rfl
  · obtain ⟨t, r, rfl, ht, hk, q⟩ := h
    have nd := sc_row_of.nd
    refine ⟨_, (pss_cons (cs_if (ct_val (pe_call (ok_tells_take T) (hr.mono (by decide)) (by rfl) T.m_tells_take T.F_tells_take.kp T.b_tells_take .nil pass0 (pa_cons (cv 0) pa_nil))) (pss_one (ps_ret (pe_make T.mk_Take (ok_Take_init T) (hr.mono (by decide)) (by rfl) T.m_Take T.b_Take_init .nil pass0 (pa_cons (pe_ix ix_tup (cv 0) pe_int (fun _ _ => rfl)) (pa_cons (pe_ix ix_tup (cv 0) pe_int (fun _ _ => rfl)) (pa_cons (pe_ix ix_tup (cv 0) pe_int (fun _ _ => rfl)) pa_nil)))))) pss_nil)
    (pss_cons (cs_if (ct_val (pe_call (ok_tells_put T) (hr.mono (by decide)) (by rfl) T.m_tells_put T.F_tells_put.kp T.b_tells_put .nil pass0 (pa_cons (cv 0) pa_nil))) (pss_one (ps_ret (pe_make T.mk_Put (ok_Put_init T) (hr.mono (by decide)) (by rfl) T.m_Put T.b_Put_init .nil pass0 (pa_cons (pe_ix ix_tup (cv 0) pe_int (fun _ _ => rfl)) (pa_cons (pe_ix ix_tup (cv 0) pe_int (fun _ _ => rfl)) pa_nil))))) pss_nil)
    (pss_one ps_dead))), ?_⟩
    walk_at "w"
    refine ⟨t, r, rfl, ht, hk, ?_⟩
    cases r with
    | take to st c =>
      walk_at "w"
      refine ⟨fun _ => ?_, by walk_at "no"⟩
      walk_at "w"
      refine ⟨t, _, _, .int to, rfl, rfl, SqT.of ht, rfl, ?_⟩
      walk_at "w"
      refine ⟨t, _, _, .int st, rfl, rfl, SqT.of ht, rfl, ?_⟩
      walk_at "w"
      refine ⟨t, _, _, .int c, rfl, rfl, SqT.of ht, rfl, ?_⟩
      walk_at "w"
      intro x dx hx hdx hne
      generalize hU : upd H dx (.own x) = H3
      have sH3 := Same.of_eq hdx hU
      have hx3 : H3 x = none := by rw [← hU, upd_ne (Ne.symm hne)]; exact hx
      refine ⟨x, dx, _, _, _, rfl, upd_same, ?_⟩
      rw [upd_upd]
      walk_at "w"
      exact ⟨rfl, q x _ (sH3.trans (Same.new hx3)) hx ⟨dx, upd_same⟩⟩
    | put to sg =>
      walk_at "w"
      refine ⟨by walk_at "no", fun _ => ?_⟩
      walk_at "w"
      refine ⟨t, to, sg, rfl, ht, hk, fun H2 s2 => ?_⟩
      walk_at "w"
      obtain ⟨u, h1, h2⟩ := ht
      refine ⟨fun _ => ?_, by walk_at "no"⟩
      walk_at "w"
      refine ⟨t, _, _, .int to, rfl, rfl, SqT.of (s2.at h1), rfl, ?_⟩
      walk_at "w"
      refine ⟨t, _, _, .ref u, rfl, rfl, SqT.of (s2.at h1), rfl, ?_⟩
      walk_at "w"
      intro x dx hx hdx hne
      generalize hU : upd H2 dx (.own x) = H3
      have sH3 := Same.of_eq hdx hU
      have hx3 : H3 x = none := by rw [← hU, upd_ne (Ne.symm hne)]; exact hx
      refine ⟨x, dx, u, _, _, rfl, upd_same, (sH3.trans (Same.new hx3)).seqT (SqT.of (s2.at h2)), ?_⟩
      rw [upd_upd]
      walk_at "w"
      refine ⟨rfl, q x _ (s2.trans (sH3.trans (Same.new hx3))) (s2.back hx) ⟨dx, u, ?_, (s2.trans (sH3.trans (Same.new hx3))).at h2⟩⟩
      rw [upd_same, List.length_map]
theorem ok_meant_lam (T : Txt K mg a) : CloOk P w K mg base CX0 1 "<lambda>" "meant.<locals>.<lambda>" (lamArgs e_lam) (.expr (lamBody e_lam)) (lamScope e_lam) ["at"] sp_lam := by
  refine clo_expr sc_lam (fun fv vs H Q E h => ?_) (fun _ _ _ _ _ us hl => match us, hl with | [_], _ => rfl) (fun A outer s H f clos cdv fv vs Q E hr h => ?_)
  · obtain ⟨e, es, i, v, rfl, rfl, _⟩ := h; exact ⟨rfl, rfl⟩
  · obtain ⟨e, es, i, v, rfl, rfl, he, hi, hv, k⟩ := h
    have nd := sc_lam.nd
    refine ⟨_, (pe_ix ix_list (cv 1) (cv 0) (fun _ _ => rfl)), ?_⟩
    walk_at "w"
    exact ⟨e, _, i, .int v, rfl, rfl, SqL.of he, atI_in hi hv, k⟩
def sp_Tsource (a : Adr) : Sp := fun vs H Q _ => ∃ (p dx : Addr) (to st c cell : Int), vs = [.ref p, .int cell] ∧ H p = some (.ins a.C_Take dx (takeF to st c)) ∧ Q (.int (st + cell - to)) H
theorem ok_Take_source_for (T : Txt K mg a) : FnOk P w K mg base CX0 1 a.f_Take_source_for a.d_Take_source_for ["self", "cell"] (sp_Tsource a) := by
  refine T.F_Take_source_for.ok sc_Take_source_for (fun vs H Q E h => ?_) (fun cdv A outer s H vs Q E hr h => ?_)
  · obtain ⟨p, dx, to, st, c, cell, rfl, _⟩ := h; rfl
  · obtain ⟨p, dx, to, st, c, cell, rfl, hp, k⟩ := h
    have nd := sc_Take_source_for.nd
    refine ⟨_, (pss_one (ps_ret (pe_op o_sub (pe_op o_add (pe_fld (cv 0) rfl) (cv 1)) (pe_fld (cv 0) rfl)))), ?_⟩
    walk_at "w"
    refine ⟨p, _, dx, _, .int st, rfl, hp, T.c_Take, T.na_Take_source, rfl, ?_⟩
    walk_at "w"
    refine ⟨p, _, dx, _, .int to, rfl, hp, T.c_Take, T.na_Take_to, rfl, ?_⟩
    exact k
theorem ok_Take_sign_for (T : Txt K mg a) : FnOk P w K mg base CX0 2 a.f_Take_sign_for a.d_Take_sign_for ["self", "cell", "read"] (sp_Tsign a) := by
  refine T.F_Take_sign_for.ok sc_Take_sign_for (fun vs H Q E h => ?_) (fun cdv A outer s H vs Q E hr h => ?_)
  · obtain ⟨p, dx, to, st, c, cell, f, fv, rfl, _⟩ := h; rfl
  · obtain ⟨p, dx, to, st, c, cell, f, fv, rfl, hp, hf, k⟩ := h
    have nd := sc_Take_sign_for.nd
    refine ⟨_, (pss_one (ps_ret (pe_callV 2 (ok_meant_lam T) (hr.mono (by decide)) pass0 (pa_cons (pe_meth (cv 0) T.c_Take T.me_Take_source_for (ok_Take_source_for T) (hr.mono (by decide)) T.b_Take_source_for .nil pass0 (pa_cons (cv 1) pa_nil)) pa_nil)))), ?_⟩
    walk_at "w"
    refine ⟨f, fv, rfl, hf, ?_⟩
    walk_at "w"
    refine ⟨p, dx, _, rfl, hp, rfl, ?_⟩
    walk_at "w"
    refine ⟨p, dx, to, st, c, cell, rfl, hp, ?_⟩
    walk_at "w"
    exact ⟨hf, k⟩
theorem ok_Put_sign_for (T : Txt K mg a) : FnOk P w K mg base CX0 1 a.f_Put_sign_for a.d_Put_sign_for ["self", "cell", "read"] (sp_Psign a) := by
  refine T.F_Put_sign_for.ok sc_Put_sign_for (fun vs H Q E h => ?_) (fun cdv A outer s H vs Q E hr h => ?_)
  · obtain ⟨p, dx, u, to, n, cell, v, f, sg, rfl, _⟩ := h; rfl
  · obtain ⟨p, dx, u, to, n, cell, v, f, sg, rfl, hp, hu, hi, hv, k⟩ := h
    have nd := sc_Put_sign_for.nd
    refine ⟨_, (pss_one (ps_ret (pe_ix ix_tup (pe_fld (cv 0) rfl) (pe_op o_sub (cv 1) (pe_fld (cv 0) rfl)) (fun _ _ => rfl)))), ?_⟩
    walk_at "w"
    refine ⟨p, _, dx, _, .ref u, rfl, hp, T.c_Put, T.na_Put_signs, rfl, ?_⟩
    walk_at "w"
    refine ⟨p, _, dx, _, .int to, rfl, hp, T.c_Put, T.na_Put_to, rfl, ?_⟩
    walk_at "w"
    exact ⟨u, _, _, .int v, rfl, rfl, SqT.of hu, atI_in hi hv, k⟩
theorem ok_Take_cost (T : Txt K mg a) : FnOk P w K mg base CX0 1 a.f_Take_cost a.d_Take_cost ["self"] sp_Tcost := by
  refine T.F_Take_cost.ok sc_Take_cost (fun vs H Q E h => ?_) (fun cdv A outer s H vs Q E hr h => ?_)
  · obtain ⟨p, rfl, _⟩ := h; rfl
  · obtain ⟨p, rfl, k⟩ := h
    have nd := sc_Take_cost.nd
    refine ⟨_, (pss_one (ps_ret pe_int)), ?_⟩
    exact k
theorem ok_Put_cost (T : Txt K mg a) : FnOk P w K mg base CX0 1 a.f_Put_cost a.d_Put_cost ["self"] (sp_Pcost a) := by
  refine T.F_Put_cost.ok sc_Put_cost (fun vs H Q E h => ?_) (fun cdv A outer s H vs Q E hr h => ?_)
  · obtain ⟨p, dx, u, to, n, rfl, _⟩ := h; rfl
  · obtain ⟨p, dx, u, to, n, rfl, hp, k⟩ := h
    have nd := sc_Put_cost.nd
    refine ⟨_, (pss_one (ps_ret (pe_op o_add pe_int (pe_fld (cv 0) rfl)))), ?_⟩
    walk_at "w"
    exact ⟨p, _, dx, _, .int n, rfl, hp, T.c_Put, T.na_Put_count, rfl, k⟩
/-- row.covered(), whichever row it is -/
theorem callCov (T : Txt K mg a) {H : Hp} {o : Addr} {r : RowD} {Q : VK} {σ : L2.St} {i : Nat} (ho : ObjAt K a H o r) (hc : r.cnt ≤ 1000) (k : newL H Q (rngI r.to r.cnt)) (hσ : σ[i]? = some (some (.ref o)) := by rfl) :
    tMeth a.C_Put "covered" (sp_covered K) [] E0 (cVar i) tNil σ H Q ∨ tMeth a.C_Take "covered" (sp_covered K) [] E0 (cVar i) tNil σ H Q := by
  cases r with
  | put to sg =>
    obtain ⟨dx, u, h1, h2⟩ := ho
    left
    unfold tMeth cVar
    rw [hσ]
    have hc' : sg.length ≤ 1000 := hc
    exact ⟨o, dx, _, rfl, h1, rfl, o, _, dx, _, to, _, rfl, h1, T.c_Put, T.na_Put_to, T.na_Put_count, rfl, rfl, by simp; omega, k⟩
  | take to st c =>
    obtain ⟨dx, h1⟩ := ho
    right
    unfold tMeth cVar
    rw [hσ]
    have hc' : c.toNat ≤ 1000 := hc
    exact ⟨o, dx, _, rfl, h1, rfl, o, _, dx, _, to, c, rfl, h1, T.c_Take, T.na_Take_to, T.na_Take_count, rfl, rfl, by omega, k⟩
theorem ok_meant (T : Txt K mg a) : FnOk P w K mg base CX0 6 a.f_meant a.d_meant ["paper", "elder"] (sp_meant K) := by
  refine T.F_meant.okC ["elder"] T.cd_meant sc_meant (fun vs H Q E h => ?_) (fun A outer s H vs Q E hr h => ?_)
  · obtain ⟨p, e, o, rs, es, nw, rfl, _⟩ := h; rfl
  · obtain ⟨p, e, o, rs, es, nw, rfl, hP, ⟨t, ts, hp, ht, hts⟩, he, htl, hcv, hnw, hrs, k⟩ := h
    have nd := sc_meant.nd
    refine ⟨_, (pss_track (x := "elder") (i := 1) nd rfl rfl rfl (by kernel_rfl) (pss_cons (ps_set (i := 2) nd rfl (Or.inl rfl) (pe_op op_rep (pe_lst (pa_cons pe_int pa_nil)) (pe_ix ix_tup (cv 0) pe_int (fun _ _ => rfl))))
    (pss_cons (cs_for PassesOwn.never rfl (pi_tup (pe_ix ix_tup (cv 0) pe_int (fun _ _ => rfl))) (pg_name (i := 3) nd rfl (Or.inl rfl)) (pss_cons (ps_set (i := 4) nd rfl (Or.inl rfl) (pe_call (ok_row_of T) (hr.mono (by decide)) (by rfl) T.m_row_of T.F_row_of.kp T.b_row_of .nil pass0 (pa_cons (cv 3) pa_nil)))
    (pss_one (cs_for PassesOwn.never rfl (pi_list (pe_alt (pe_meth0 (cv 4) T.c_Put T.me_Put_covered (ok_Row_covered T) (hr.mono (by decide)) T.b_Row_covered .nil pass0) (pe_meth0 (cv 4) T.c_Take T.me_Take_covered (ok_Row_covered T) (hr.mono (by decide)) T.b_Row_covered .nil pass0))) (pg_name (i := 5) nd rfl (Or.inl rfl)) (pss_one (ps_asg (pe_alt (pe_meth (cv 4) T.c_Put T.me_Put_sign_for (ok_Put_sign_for T) (hr.mono (by decide)) T.b_Put_sign_for .nil pass0 (pa_cons (cv 5) (pa_cons (ce_lambda (c := c_meant) (P := P_meant) (qs := qs_meant) (fns := ["elder"]) rfl T.tk_meant (q := "meant.<locals>.<lambda>") (by kernel_rfl) (.head _) (by kernel_rfl) (by kernel_rfl)) pa_nil))) (pe_meth (cv 4) T.c_Take T.me_Take_sign_for (ok_Take_sign_for T) (hr.mono (by decide)) T.b_Take_sign_for .nil pass0 (pa_cons (cv 5) (pa_cons (ce_lambda (c := c_meant) (P := P_meant) (qs := qs_meant) (fns := ["elder"]) rfl T.tk_meant (q := "meant.<locals>.<lambda>") (by kernel_rfl) (.head _) (by kernel_rfl) (by kernel_rfl)) pa_nil)))) (pg_sub (cv 2) (cv 5) set_list)))))))
    (pss_one (ps_ret (cv 2)))))), ?_⟩
    have tl : ts.length = rs.length := hts.length
    walk_at "w"
    intro a1 e1 z1 d1
    refine And.intro z1 ?_
    generalize hU1 : upd H a1 _ = H1
    have s1 := Same.of_eq z1 hU1
    have c1 := at_of_eq hU1
    clear hU1
    walk_at "w"
    walk_at "ss"
    intro l0 hl0
    generalize hUl0 : upd H1 l0 _ = H2
    have sH2 := Same.of_eq hl0 hUl0
    have el0 := at_of_eq hUl0
    clear hUl0
    walk_at "w"
    refine ⟨p, _, _, .int nw.length, rfl, rfl, SqT.of ((s1.trans sH2).at hp), rfl, ?_⟩
    walk_at "w"
    refine ⟨l0, _, _, rfl, rfl, el0, by omega, by omega, by simp [sizeLine_eq]; omega, ?_⟩
    intro nl hnl
    generalize hUnl : upd H2 nl _ = H3
    have sH3 := Same.of_eq hnl hUnl
    have enl := at_of_eq hUnl
    clear hUnl
    walk_at "w"
    have ef : (List.replicate ((nw.length : Nat) : Int).toNat [V.int 0]).flatten = (List.replicate nw.length (0 : Int)).map V.int := by
      rw [List.flatten_replicate_singleton, List.map_replicate, Int.toNat_natCast]
    rw [ef] at enl
    have s3 : Same H H3 := s1.trans (sH2.trans sH3)
    refine ⟨p, _, _, .ref t, rfl, rfl, SqT.of (s3.at hp), rfl, ?_⟩
    walk_at "w"
    refine ⟨t, rfl, ⟨_, SqT.of (s3.at ht)⟩, ?_⟩
    have s12 : Same H H2 := s1.trans sH2
    have nlf : H2 nl = none := hnl
    refine forAt_tup (xs := ts.map V.ref) (fun k σ G => Same H2 G ∧ ∃ ys x3 x4 x5, σ = [some (.ref p), some (.ref e), some (.ref nl), x3, x4, x5] ∧ G nl = some (.lst (ys.map V.int)) ∧ Agree (fun j => ∃ r ∈ rs.take k, Covers r j) ys nw) ⟨sH3, _, _, _, _, rfl, enl, by simp, fun j hj => ?_⟩ (fun i σ G hi hP1 => ?_) (fun k0 x σ G hx hP1 => ?_) (fun σ G hP1 => ?_)
    · obtain ⟨r, hr1, _⟩ := hj; simp at hr1
    · exact SqT.of ((s12.trans hP1.1).at ht)
    · obtain ⟨sG, ys, x3, x4, x5, rfl, enl', hag⟩ := hP1
      rw [List.getElem?_map] at hx
      cases hb : ts[k0]? with
      | none => rw [hb] at hx; cases hx
      | some t0 =>
        rw [hb] at hx
        cases hx
        obtain ⟨r, hr0, pr⟩ := paired_get1 hts hb
        have hrm : r ∈ rs := List.mem_of_getElem? hr0
        obtain ⟨g1, g2, g3, g4⟩ := htl r hrm
        have gto := g1.to
        have sHG : Same H G := s12.trans sG
        walk_at "w"
        refine ⟨t0, r, rfl, pr.same sHG, g1, fun ob G1 sG1 hob hO => ?_⟩
        walk_at "w"
        have hcnt : r.cnt ≤ 1000 := by omega
        refine callCov T hO hcnt fun cl G2 sG2 hcl ecl => ?_
        walk_at "w"
        refine ⟨cl, rfl, ⟨_, SqL.of ecl⟩, ?_⟩
        have nlc : nl ≠ cl := fun z => by rw [← z, sG1.at enl'] at hcl; cases hcl
        have tk : rs.take (k0 + 1) = rs.take k0 ++ [r] := by rw [List.take_succ, hr0]; rfl
        refine forAt_list (xs := (rngI r.to r.cnt).map V.int) (fun i σ G => Same H2 G ∧ ∃ ys x5, σ = [some (.ref p), some (.ref e), some (.ref nl), some (.ref t0), some (.ref ob), x5] ∧ G nl = some (.lst (ys.map V.int)) ∧ G cl = some (.lst ((rngI r.to r.cnt).map V.int)) ∧ ObjAt K a G ob r ∧ Agree (fun j => (∃ r ∈ rs.take k0, Covers r j) ∨ (r.to ≤ j ∧ (j : Int) < r.to + i)) ys nw)
          ⟨sG.trans (sG1.trans sG2), ys, _, rfl, (sG1.trans sG2).at enl', ecl, hO.same sG2, hag.1, fun j hj => ?_⟩ (fun i σ G hi hP2 => ?_) (fun i x σ G hx hP2 => ?_) (fun σ G hP2 => ?_)
        · rcases hj with z | z
          · exact hag.2 j z
          · omega
        · obtain ⟨_, _, _, _, _, z, _⟩ := hP2
          exact SqL.of z
        · obtain ⟨s4, ys4, y5, rfl, enl4, ecl4, hO4, hag4⟩ := hP2
          rw [List.getElem?_map] at hx
          cases hc0 : (rngI r.to r.cnt)[i]? with
          | none => rw [hc0] at hx; cases hx
          | some cell =>
            rw [hc0] at hx
            cases hx
            have hil : i < r.cnt := by have := (List.getElem?_eq_some_iff.mp hc0).1; rwa [rngI_length] at this
            have hcell : cell = r.to + i := by
              unfold rngI at hc0
              rw [List.getElem?_map, List.getElem?_range hil] at hc0
              exact (Option.some.inj hc0).symm
            obtain ⟨v, hv⟩ : ∃ v, (r.sg es)[i]? = some v := ⟨_, List.getElem?_eq_getElem (by rw [RowD.sg_len g1 g2]; exact hil)⟩
            have hv2 : nw[(r.to + i).toNat]? = some v := (g4 i hil).trans hv
            have c14 := (sH2.trans s4).at c1
            have fin : ∀ G5, Same G G5 → ∃ (p' : Addr) (xs' : List V) (k' : Int) (j' : Nat), V.ref nl = .ref p' ∧ V.int cell = .int k' ∧ G5 p' = some (.lst xs') ∧ ixN xs'.length k' = some j' ∧ (Same H2 (upd G5 p' (.lst (xs'.set j' (.int v)))) ∧ ∃ ys x5, [some (.ref p), some (.ref e), some (.ref nl), some (.ref t0), some (.ref ob), some (.int cell)] = [some (V.ref p), some (.ref e), some (.ref nl), some (.ref t0), some (.ref ob), x5] ∧ upd G5 p' (.lst (xs'.set j' (.int v))) nl = some (.lst (ys.map V.int)) ∧ upd G5 p' (.lst (xs'.set j' (.int v))) cl = some (.lst ((rngI r.to r.cnt).map V.int)) ∧ ObjAt K a (upd G5 p' (.lst (xs'.set j' (.int v)))) ob r ∧ Agree (fun j => (∃ r ∈ rs.take k0, Covers r j) ∨ (r.to ≤ j ∧ (j : Int) < r.to + ((i + 1 : Nat) : Int))) ys nw) := by
              intro G5 s5
              have e5 := s5.at enl4
              refine ⟨nl, _, cell, (r.to + i).toNat, rfl, rfl, e5, ?_, s4.trans s5 |>.put nlf, ys4.set (r.to + i).toNat v, _, rfl, ?_, ?_, ?_, ?_⟩
              · rw [hcell]
                exact ixN_in (by omega) (by rw [List.length_map, hag4.1]; omega)
              · rw [upd_same, List.map_set]
              · rw [upd_ne (Ne.symm nlc)]; exact s5.at ecl4
              · have hO5 := hO4.same s5
                cases r with
                | take to st c =>
                  obtain ⟨dx, q1⟩ := hO5
                  exact ⟨dx, by rw [upd_ne (ne_of q1 e5 (by intro z; cases z))]; exact q1⟩
                | put to sg =>
                  obtain ⟨dx, u, q1, q2⟩ := hO5
                  exact ⟨dx, u, by rw [upd_ne (ne_of q1 e5 (by intro z; cases z))]; exact q1, by rw [upd_ne (ne_of q2 e5 (by intro z; cases z))]; exact q2⟩
              · refine hag4.set hv2 fun j hj => ?_
                rcases hj with z | z
                · exact .inl (.inl z)
                · by_cases hlt : (j : Int) < r.to + i
                  · exact .inl (.inr ⟨z.1, hlt⟩)
                  · exact .inr (by omega)
            walk_at "w"
            cases r with
            | put to sg =>
              obtain ⟨dx, u, q1, q2⟩ := hO4
              left
              refine ⟨ob, dx, _, rfl, q1, rfl, ?_⟩
              walk_at "w"
              refine ⟨(s12.trans s4).at hP, [("elder", .ref e)], rfl, fun x v m => ?_, fun f G5 hf s5 hc => ?_⟩
              · simp only [List.mem_cons, Prod.mk.injEq, List.not_mem_nil, or_false] at m
                obtain ⟨rfl, rfl⟩ := m
                exact ⟨a1, e1, c14⟩
              walk_at "w"
              have eh : cell - to = i := by rw [hcell]; show to + (i : Int) - to = i; omega
              refine ⟨ob, dx, u, to, _, cell, v, _, sg, rfl, s5.at q1, s5.at q2, by rw [eh]; omega, by rw [eh]; exact hv, ?_⟩
              walk_at "w"
              exact fin G5 s5
            | take to st c =>
              obtain ⟨dx, q1⟩ := hO4
              right
              refine ⟨ob, dx, _, rfl, q1, rfl, ?_⟩
              walk_at "w"
              refine ⟨(s12.trans s4).at hP, [("elder", .ref e)], rfl, fun x v m => ?_, fun f G5 hf s5 hc => ?_⟩
              · simp only [List.mem_cons, Prod.mk.injEq, List.not_mem_nil, or_false] at m
                obtain ⟨rfl, rfl⟩ := m
                exact ⟨a1, e1, c14⟩
              walk_at "w"
              obtain ⟨b1, b2, b3⟩ := g1
              have eh : st + cell - to = st + i := by rw [hcell]; show st + (to + (i : Int)) - to = st + i; omega
              refine ⟨ob, dx, to, st, c, cell, f, _, rfl, s5.at q1, hc, e, es, _, v, rfl, rfl, (s12.trans (s4.trans s5)).at he, by rw [eh]; omega, ?_, ?_⟩
              · rw [eh]
                have : ((es.drop st.toNat).take c.toNat)[i]? = some v := hv
                rw [List.getElem?_take_of_lt (show i < c.toNat from hil), List.getElem?_drop] at this
                rw [← this]
                congr 1
                omega
              walk_at "w"
              exact fin G5 s5
        · obtain ⟨s4, ys4, y5, rfl, enl4, ecl4, hO4, hag4⟩ := hP2
          refine ⟨s4, ys4, _, _, _, rfl, enl4, hag4.1, fun j hj => ?_⟩
          obtain ⟨r', hr', hc'⟩ := hj
          rw [tk] at hr'
          rcases List.mem_append.mp hr' with z | z
          · exact hag4.2 j (.inl ⟨r', z, hc'⟩)
          · rw [List.mem_singleton.mp z] at hc'
            refine hag4.2 j (.inr ⟨hc'.1, ?_⟩)
            rw [List.length_map, rngI_length]
            exact hc'.2
    · obtain ⟨sG, ys, x3, x4, x5, rfl, enl', hag⟩ := hP1
      have e : ys = nw := hag.all fun j hj => by
        obtain ⟨r, h1, h2⟩ := hcv j hj
        refine ⟨r, ?_, h2⟩
        rw [List.take_of_length_le (by simp; omega)]
        exact h1
      rw [e] at enl'
      exact k nl G (s12.trans sG) (s12.back nlf) enl'
theorem ok_cost (T : Txt K mg a) : FnOk P w K mg base CX0 6 a.f_cost a.d_cost ["paper"] (sp_cost K) := by
  refine T.F_cost.ok sc_cost (fun vs H Q E h => ?_) (fun cdv A outer s H vs Q E hr h => ?_)
  · obtain ⟨p, o, n, rs, rfl, _⟩ := h; rfl
  · obtain ⟨p, o, n, rs, rfl, ⟨t, ts, hp, ht, hts⟩, hok, hle, q⟩ := h
    have nd := sc_cost.nd
    refine ⟨_, (pss_one (ps_ret (pe_callB (call_sumI rfl) (by rfl) T.n_sum bt_sum (pa_cons (pe_comp (blk_mk (cap := []) (ys := []) rfl rfl rfl rfl rfl trivial (by decide +kernel)) rfl (pi_tup (pe_ix ix_tup (cv 0) pe_int (fun _ _ => rfl))) (fun _ _ _ _ => (pe_alt (pe_meth0 (pe_call (ok_row_of T) (hr.mono (by decide)) (by rfl) T.m_row_of T.F_row_of.kp T.b_row_of .nil pass0 (pa_cons (cv 0) pa_nil)) T.c_Put T.me_Put_cost (ok_Put_cost T) (hr.mono (by decide)) T.b_Put_cost .nil pass0) (pe_meth0 (pe_call (ok_row_of T) (hr.mono (by decide)) (by rfl) T.m_row_of T.F_row_of.kp T.b_row_of .nil pass0 (pa_cons (cv 0) pa_nil)) T.c_Take T.me_Take_cost (ok_Take_cost T) (hr.mono (by decide)) T.b_Take_cost .nil pass0))) (fun _ _ _ _ => cts_nil)) pa_nil)))), ?_⟩
    have tl : ts.length = rs.length := hts.length
    walk_at "w"
    refine ⟨p, _, _, .ref t, rfl, rfl, SqT.of hp, rfl, ?_⟩
    walk_at "w"
    refine ⟨t, rfl, ⟨_, SqT.of ht⟩, ?_⟩
    refine comp_tupP (fun i acc _ => acc = ((rs.take i).map RowD.cst).map V.int) (SqT.of ht) (by rw [List.length_map, sizeLine_eq]; omega) (by simp) (fun i x acc H3 H3' hx s3 s3' hP R hR => ?_) (fun D acc H3 H3' hD hD3 s3 s3' hP hl hv => ?_)
    · rw [List.getElem?_map] at hx
      cases hb : ts[i]? with
      | none => rw [hb] at hx; cases hx
      | some t0 =>
        rw [hb] at hx
        cases hx
        obtain ⟨r, hr0, pr⟩ := paired_get1 hts hb
        have pr' := pr.same (s3.trans s3')
        have ok := hok r (List.mem_of_getElem? hr0)
        have fin : ∀ G, Same H3' G → R (.int r.cst) G := fun G sG => hR _ _ sG fun H6 _ _ => by
          rw [hP, List.take_succ, hr0, List.map_append, List.map_append]; rfl
        cases r with
        | put to sg =>
          left
          walk_at "w"
          refine ⟨t0, _, rfl, pr', ok, fun ob G sG hn hO => ?_⟩
          obtain ⟨dx, u, q1, q2⟩ := hO
          walk_at "w"
          refine ⟨ob, dx, _, rfl, q1, rfl, ?_⟩
          walk_at "w"
          exact ⟨ob, dx, u, to, _, rfl, q1, fin G sG⟩
        | take to st c =>
          right
          walk_at "w"
          refine ⟨t0, _, rfl, pr', ok, fun ob G sG hn hO => ?_⟩
          obtain ⟨dx, q1⟩ := hO
          walk_at "w"
          refine ⟨ob, dx, _, rfl, q1, rfl, ?_⟩
          walk_at "w"
          exact ⟨ob, rfl, fin G sG⟩
    · rw [hP, List.take_of_length_le (by simp; omega)] at hv
      walk_at "w"
      exact ⟨D, _, rfl, SqL.of hv, q _ (s3.trans s3')⟩
theorem ok_plain (T : Txt K mg a) : FnOk P w K mg base CX0 1 a.f_plain a.d_plain ["old", "newer"] (sp_plain K) := by
  refine T.F_plain.ok sc_plain (fun vs H Q E h => ?_) (fun cdv A outer s H vs Q E hr h => ?_)
  · obtain ⟨o, l, ns, rfl, _⟩ := h; rfl
  · obtain ⟨o, l, ns, rfl, hl, q⟩ := h
    have nd := sc_plain.nd
    refine ⟨_, (pss_cons (cs_if (ct_cmp o_eqI (pe_callB call_len_seq (by rfl) T.n_len bt_len (pa_cons (cv 1) pa_nil)) pe_int) (pss_one (ps_ret (pe_tup (pa_cons (cv 0) (pa_cons pe_int (pa_cons (pe_tup pa_nil) pa_nil)))))) pss_nil)
    (pss_one (ps_ret (pe_tup (pa_cons (cv 0) (pa_cons (pe_callB call_len_seq (by rfl) T.n_len bt_len (pa_cons (cv 1) pa_nil)) (pa_cons (pe_tup (pa_cons (pe_tup (pa_cons pe_str (pa_cons pe_int (pa_cons (pe_callTy call_tuple_of (by rfl) T.n_tuple bt_tuple (pa_cons (cv 1) pa_nil)) pa_nil)))) pa_nil)) pa_nil))))))), ?_⟩
    walk_at "w"
    refine ⟨l, _, rfl, .inl (SqL.of hl), ?_⟩
    walk_at "w"
    rw [List.length_map]
    refine ⟨fun e => ?_, fun e => ?_⟩
    · have e' : ns = [] := by have := of_decide_eq_true e; exact List.length_eq_zero_iff.mp (by omega)
      subst e'
      walk_at "w"
      walk_at "ss"
      intro t ht
      generalize hUt : upd H t _ = H1
      have sH1 := Same.of_eq ht hUt
      have et := at_of_eq hUt
      clear hUt
      walk_at "w"
      walk_at "ss"
      intro p hp
      generalize hUp : upd H1 p _ = H2
      have sH2 := Same.of_eq hp hUp
      have ep := at_of_eq hUp
      clear hUp
      walk_at "w"
      exact q p H2 (sH1.trans sH2) ⟨t, [], ep, by walk_at "get", .nil⟩
    · have e' : ns ≠ [] := fun z => by have := of_decide_eq_false e; rw [z] at this; simp at this
      walk_at "w"
      refine ⟨l, _, rfl, .inl (SqL.of hl), ?_⟩
      walk_at "w"
      refine ⟨l, _, rfl, .inl ⟨SqL.of hl, ?_⟩⟩
      intro u hu
      generalize hUu : upd H u _ = H1
      have sH1 := Same.of_eq hu hUu
      have eu := at_of_eq hUu
      clear hUu
      walk_at "w"
      walk_at "ss"
      intro r hr
      generalize hUr : upd H1 r _ = H2
      have sH2 := Same.of_eq hr hUr
      have er := at_of_eq hUr
      clear hUr
      walk_at "w"
      walk_at "ss"
      intro t ht
      generalize hUt : upd H2 t _ = H3
      have sH3 := Same.of_eq ht hUt
      have et := at_of_eq hUt
      clear hUt
      walk_at "w"
      walk_at "ss"
      intro p hp
      generalize hUp : upd H3 p _ = H4
      have sH4 := Same.of_eq hp hUp
      have ep := at_of_eq hUp
      clear hUp
      walk_at "w"
      rw [List.length_map] at ep
      refine q p H4 (by walk_at "same") ⟨t, [r], ep, by walk_at "get", ?_⟩
      rw [plainRs, if_neg e']
      exact .cons ⟨u, by walk_at "get", by walk_at "get"⟩ .nil
theorem ok_sign (T : Txt K mg a) : FnOk P w K mg base CX0 2 a.f_sign a.d_sign ["_law_cell", "_law_k"] sp_sign := by
  refine T.F_sign.ok sc_sign (fun vs H Q E h => ?_) (fun cdv A outer s H vs Q E hr h => ?_)
  · obtain ⟨c, k, rfl, _⟩ := h; rfl
  · obtain ⟨c, k, rfl, q⟩ := h
    have nd := sc_sign.nd
    refine ⟨_, (pss_cons (cs_let (i := 2) nd rfl (Or.inl rfl) (pe_call (ok_mixed T) (hr.mono (by decide)) (by rfl) T.m_mixed T.F_mixed.kp T.b_mixed .nil pass0 (pa_cons (cv 0) (pa_cons (cv 1) pa_nil))))
    (pss_cons (cs_if (ct_cmp o_eqI (pe_op o_mod (cv 2) pe_int) pe_int) (pss_one (ps_ret (pe_op o_mod (pe_op o_fdiv (cv 2) pe_int) pe_int))) pss_nil)
    (pss_one (ps_ret (pe_op o_add (pe_op o_sub (pe_op o_mod (pe_op o_add (pe_op o_mul (cv 2) (cv 2)) (cv 0)) (pe_op o_sub (pe_op o_mul pe_int (pe_op o_pow pe_int pe_int)) pe_int)) (pe_op o_pow pe_int pe_int)) pe_int))))), ?_⟩
    walk_at "w"
    refine ⟨c, k, rfl, ?_⟩
    walk_at "w"
    refine let_int fun d hd => ?_
    walk_at "w"
    have bd : 0 ≤ d ∧ d < 2147483647 := by rw [hd]; exact mod_bounds _
    clear hd
    walk_at "ss"
    refine ⟨fun _ => ?_, fun _ => ?_⟩
    · walk_at "w"
      walk_at "ss"
      refine q _ ?_
      have := Int.emod_nonneg (d / 3) (show (4 : Int) ≠ 0 by decide)
      have := Int.emod_lt_of_pos (d / 3) (show (0 : Int) < 4 by decide)
      show (((d / 3 % 4 : Int).natAbs : Nat) : Int) < 10 ^ 60
      omega
    · walk_at "w"
      walk_at "ss"
      refine q _ ?_
      have e : (10 : Int) ^ (60 : Int).toNat = 10 ^ 60 := rfl
      show (((d * d + c) % (2 * 10 ^ (60 : Int).toNat - 1) - 10 ^ (60 : Int).toNat + 1 : Int).natAbs : Int) < 10 ^ 60
      rw [e]
      have := Int.emod_nonneg (d * d + c) (show (2 * 10 ^ 60 - 1 : Int) ≠ 0 by decide)
      have := Int.emod_lt_of_pos (d * d + c) (show (0 : Int) < 2 * 10 ^ 60 - 1 by decide)
      omega
theorem ok_rows (T : Txt K mg a) : FnOk P w K mg base CX0 3 a.f_rows a.d_rows ["_law_elder", "_law_cells"] (sp_rows K) := by
  refine T.F_rows.ok sc_rows (fun vs H Q E h => ?_) (fun cdv A outer s H vs Q E hr h => ?_)
  · obtain ⟨e, c, es, cs, rfl, _⟩ := h; rfl
  · obtain ⟨e, c, es, cs, rfl, he, hcs, hcl, hel, q⟩ := h
    have nd := sc_rows.nd
    refine ⟨_, (pss_cons (ps_set (i := 2) nd rfl (Or.inl rfl) (pe_lst pa_nil))
    (pss_cons (ps_set (i := 3) nd rfl (Or.inl rfl) (pe_lst pa_nil))
    (pss_cons (cs_for PassesOwn.never rfl (pi_list (cv 1)) (pg_name (i := 4) nd rfl (Or.inr rfl)) (pss_cons (cs_cut (cs_if (PW.pt (cw_or (ct_cmp o_eqI (pe_op o_mod (cv 4) pe_int) pe_int) (pw_or1 (ct_cmp (o_deq hr.units) (cv 0) (pe_lst pa_nil))))) (pss_cons (ps_setComp (i := 5) (blk_mk (cap := [4]) (ys := ["_law_cell"]) rfl rfl rfl rfl rfl ⟨⟨rfl, rfl, .inl rfl⟩, trivial⟩ (by decide +kernel)) rfl nd rfl rfl (ci_range1 (by rfl) T.n_range (pa_cons (pe_op o_add pe_int (pe_op o_mod (pe_op o_fdiv (cv 4) pe_int) pe_int)) pa_nil)) (fun _ _ _ _ => (pe_call (ok_sign T) (hr.mono (by decide)) (by rfl) T.m_sign T.F_sign.kp T.b_sign .nil pass0 (pa_cons (cv 1) (pa_cons (cv 0) pa_nil)))) (fun _ _ _ _ => cts_nil))
    (pss_one (ps_expr (pe_bm PySem.F.plainAttrs_list PySem.F.slot_list_append PySem.F.type_list_append mt_append (cv 2) (pa_cons (pe_tup (pa_cons pe_str (pa_cons (pe_callB call_len_seq (by rfl) T.n_len bt_len (pa_cons (cv 3) pa_nil)) (pa_cons (pe_callTy call_tuple_of (by rfl) T.n_tuple bt_tuple (pa_cons (cv 5) pa_nil)) pa_nil)))) pa_nil))))) (pss_cons (ps_set (i := 6) nd rfl (Or.inl rfl) (pe_op o_mod (pe_op o_fdiv (cv 4) pe_int) (pe_callB call_len_seq (by rfl) T.n_len bt_len (pa_cons (cv 0) pa_nil))))
    (pss_cons (ps_set (i := 5) nd rfl (Or.inl rfl) (pe_slice sl_list (cv 0) (po_some (cv 6)) (po_some (pe_op o_add (pe_op o_add (cv 6) pe_int) (pe_op o_mod (pe_op o_fdiv (cv 4) pe_int) pe_int)))))
    (pss_one (ps_expr (pe_bm PySem.F.plainAttrs_list PySem.F.slot_list_append PySem.F.type_list_append mt_append (cv 2) (pa_cons (pe_tup (pa_cons pe_str (pa_cons (pe_callB call_len_seq (by rfl) T.n_len bt_len (pa_cons (cv 3) pa_nil)) (pa_cons (cv 6) (pa_cons (pe_callB call_len_seq (by rfl) T.n_len bt_len (pa_cons (cv 5) pa_nil)) pa_nil))))) pa_nil))))))))
    (pss_one (ps_set (i := 3) nd rfl (Or.inl rfl) (pe_op op_cat (cv 3) (cv 5))))))
    (pss_one (ps_ret (pe_tup (pa_cons (cv 2) (pa_cons (cv 3) pa_nil)))))))), ?_⟩
    walk_at "w"
    walk_at "ss"
    intro rl hrl
    generalize hUrl : upd H rl _ = H1
    have sH1 := Same.of_eq hrl hUrl
    have erl := at_of_eq hUrl
    clear hUrl
    walk_at "w"
    walk_at "ss"
    intro nl0 hnl0
    generalize hUnl0 : upd H1 nl0 _ = H2
    have sH2 := Same.of_eq hnl0 hUnl0
    have enl0 := at_of_eq hUnl0
    clear hUnl0
    walk_at "w"
    refine ⟨c, rfl, ⟨_, SqL.of ((sH1.trans sH2).at hcs)⟩, ?_⟩
    have neR0 : nl0 ≠ rl := fun z => by rw [z, erl] at hnl0; cases hnl0
    refine forAt_list (xs := cs.map V.int) (fun i σ G => Same H G ∧ ∃ nl ts rs nw x4 x5 x6, σ = [some (.ref e), some (.ref c), some (.ref rl), some (.ref nl), x4, x5, x6] ∧ G nl = some (.lst (nw.map V.int)) ∧ G rl = some (.lst (ts.map V.ref)) ∧ nl ≠ rl ∧ Paired (TupAt K G) ts rs ∧ Til es rs nw ∧ rs.length = i ∧ nw.length ≤ 12 * i)
      ⟨sH1.trans sH2, nl0, [], [], [], _, _, _, rfl, enl0, sH2.at erl, neR0, .nil, .nil, rfl, by simp⟩ (fun i σ G hi hP => SqL.of (hP.1.at hcs)) (fun i x σ G hx hP => ?_) (fun σ G hP => ?_)
    · obtain ⟨sG, nl, ts, rs, nw, x4, x5, x6, rfl, enl, erl, neR, hts, til, hrsl, hnwl⟩ := hP
      rw [List.getElem?_map] at hx
      cases hc0 : cs[i]? with
      | none => rw [hc0] at hx; cases hx
      | some cell =>
      rw [hc0] at hx
      cases hx
      have hil : i < cs.length := (List.getElem?_eq_some_iff.mp hc0).1
      have tl : ts.length = rs.length := hts.length
      walk_at "w"
      refine ⟨fun σ' G' => Same H G' ∧ ∃ (t : Addr) (r : RowD) (sl : Addr) (x6' : Option V), σ' = [some (.ref e), some (.ref c), some (.ref rl), some (.ref nl), some (.int cell), some (.ref sl), x6'] ∧ G' nl = some (.lst (nw.map V.int)) ∧ G' rl = some (.lst ((ts ++ [t]).map V.ref)) ∧ Paired (TupAt K G') (ts ++ [t]) (rs ++ [r]) ∧ G' sl = some (.lst ((r.sg es).map V.int)) ∧ r.ok ∧ r.fits es ∧ r.to = nw.length ∧ r.cnt ≤ 12, ?_, ?_⟩
      · walk_at "w"
        refine ⟨by walk_at "pos", ?_⟩
        walk_at "w"
        refine ⟨fun e1 => ?_, fun e1 => ?_⟩
        · refine ⟨fun _ => ?_, by walk_at "no"⟩
          walk_at "w"
          walk_at "ss"
          have b1 : (0 : Int) ≤ cell / 2 % 5 ∧ cell / 2 % 5 < 5 := ⟨Int.emod_nonneg _ (by decide), Int.emod_lt_of_pos _ (by decide)⟩
          generalize hn : rngN 0 (1 + cell / 2 % 5) 1 = n
          have bn : 1 ≤ n ∧ n ≤ 5 := by rw [← hn, rngN_one]; omega
          clear hn
          refine comp_itsP (fun i acc _ => ∃ sg : List Int, acc = sg.map V.int ∧ sg.length = i ∧ ∀ x ∈ sg, (x.natAbs : Int) < 10 ^ 60) (by rw [sizeLine_eq]; omega) ⟨[], rfl, rfl, by simp⟩ (fun i acc H3 H3' hi s3 s3' hP R hR => ?_) (fun D acc H3 H3' hD hD3 s3 s3' hP hl hv => ?_)
          · obtain ⟨sg, rfl, hsl, hss⟩ := hP
            walk_at "w"
            refine ⟨_, _, rfl, fun v hv => hR _ _ (Same.refl _) fun H6 _ _ => ⟨sg ++ [v], by simp, by simp [hsl], fun x hx => ?_⟩⟩
            rcases List.mem_append.mp hx with z | z
            · exact hss x z
            · rw [List.mem_singleton.mp z]; exact hv
          · obtain ⟨sg, rfl, hsl, hss⟩ := hP
            have sB : Same G H3' := (Same.refl G).trans (s3.trans s3')
            walk_at "w"
            refine ⟨.inl ⟨rfl, _, SqL.of (sB.at erl)⟩, ?_⟩
            walk_at "w"
            refine ⟨nl, _, rfl, .inl (SqL.of (sB.at enl)), ?_⟩
            walk_at "w"
            refine ⟨D, _, rfl, .inl ⟨SqL.of hv, ?_⟩⟩
            intro u hu
            generalize hUu : upd H3' u _ = H4
            have sH4 := Same.of_eq hu hUu
            have eu := at_of_eq hUu
            clear hUu
            walk_at "w"
            walk_at "ss"
            intro t ht
            generalize hUt : upd H4 t _ = H5
            have sH5 := Same.of_eq ht hUt
            have et := at_of_eq hUt
            clear hUt
            walk_at "w"
            have sC : Same G H5 := sB.trans (sH4.trans sH5)
            refine ⟨rl, _, _, rfl, rfl, sC.at erl, by rw [List.length_map, sizeLine_eq]; omega, ?_⟩
            have hrl5 := sC.at erl
            rw [List.length_map] at et
            have hT : TupAt K H5 t (.put nw.length sg) := ⟨u, et, sH5.at eu⟩
            have hD5 : H5 D = some (.lst (sg.map V.int)) := sH5.at (sH4.at hv)
            have neD : D ≠ rl := fun z => by rw [z] at hD; rw [(Same.refl G).at erl] at hD; cases hD
            generalize hU : upd H5 rl _ = H6
            refine ⟨Same.wr (sG.trans sC) hrl hU, t, .put nw.length sg, D, _, rfl, ?_, ?_, ?_, ?_, ?_, trivial, rfl, ?_⟩
            · rw [← hU, upd_ne neR]; exact sC.at enl
            · rw [← hU, upd_same, List.map_append]; rfl
            · refine paired_snoc ?_ (L2.Paired.imp' (fun _ _ (z : TupAt K G _ _) => ?_) hts)
              · rw [← hU]; exact hT.off hrl5
              · rw [← hU]; exact (z.same sC).off hrl5
            · rw [← hU, upd_ne neD]; exact hD5
            · refine ⟨by show (0 : Int) ≤ nw.length; omega, fun z => ?_, by omega, hss⟩
              rw [z] at hsl; simp at hsl; omega
            · show sg.length ≤ 12
              omega
        walk_at "w"
        walk_at "ss"
        intro l5 hl5
        generalize hUl5 : upd G l5 _ = G5
        have sG5 := Same.of_eq hl5 hUl5
        have el5 := at_of_eq hUl5
        clear hUl5
        walk_at "w"
        refine leq_imp (f := fun b => b) ⟨e, l5, es, [], rfl, rfl, SqL.of ((sG.trans sG5).at he), SqL.of el5, ?_⟩
        walk_at "w"
        refine ⟨fun e2 => ?_, fun e2 => ?_⟩
        · walk_at "w"
          walk_at "ss"
          have b1 : (0 : Int) ≤ cell / 2 % 5 ∧ cell / 2 % 5 < 5 := ⟨Int.emod_nonneg _ (by decide), Int.emod_lt_of_pos _ (by decide)⟩
          generalize hn : rngN 0 (1 + cell / 2 % 5) 1 = n
          have bn : 1 ≤ n ∧ n ≤ 5 := by rw [← hn, rngN_one]; omega
          clear hn
          refine comp_itsP (fun i acc _ => ∃ sg : List Int, acc = sg.map V.int ∧ sg.length = i ∧ ∀ x ∈ sg, (x.natAbs : Int) < 10 ^ 60) (by rw [sizeLine_eq]; omega) ⟨[], rfl, rfl, by simp⟩ (fun i acc H3 H3' hi s3 s3' hP R hR => ?_) (fun D acc H3 H3' hD hD3 s3 s3' hP hl hv => ?_)
          · obtain ⟨sg, rfl, hsl, hss⟩ := hP
            walk_at "w"
            refine ⟨_, _, rfl, fun v hv => hR _ _ (Same.refl _) fun H6 _ _ => ⟨sg ++ [v], by simp, by simp [hsl], fun x hx => ?_⟩⟩
            rcases List.mem_append.mp hx with z | z
            · exact hss x z
            · rw [List.mem_singleton.mp z]; exact hv
          · obtain ⟨sg, rfl, hsl, hss⟩ := hP
            have sB : Same G H3' := (sG5).trans (s3.trans s3')
            walk_at "w"
            refine ⟨.inl ⟨rfl, _, SqL.of (sB.at erl)⟩, ?_⟩
            walk_at "w"
            refine ⟨nl, _, rfl, .inl (SqL.of (sB.at enl)), ?_⟩
            walk_at "w"
            refine ⟨D, _, rfl, .inl ⟨SqL.of hv, ?_⟩⟩
            intro u hu
            generalize hUu : upd H3' u _ = H4
            have sH4 := Same.of_eq hu hUu
            have eu := at_of_eq hUu
            clear hUu
            walk_at "w"
            walk_at "ss"
            intro t ht
            generalize hUt : upd H4 t _ = H5
            have sH5 := Same.of_eq ht hUt
            have et := at_of_eq hUt
            clear hUt
            walk_at "w"
            have sC : Same G H5 := sB.trans (sH4.trans sH5)
            refine ⟨rl, _, _, rfl, rfl, sC.at erl, by rw [List.length_map, sizeLine_eq]; omega, ?_⟩
            have hrl5 := sC.at erl
            rw [List.length_map] at et
            have hT : TupAt K H5 t (.put nw.length sg) := ⟨u, et, sH5.at eu⟩
            have hD5 : H5 D = some (.lst (sg.map V.int)) := sH5.at (sH4.at hv)
            have neD : D ≠ rl := fun z => by rw [z] at hD; rw [(sG5).at erl] at hD; cases hD
            generalize hU : upd H5 rl _ = H6
            refine ⟨Same.wr (sG.trans sC) hrl hU, t, .put nw.length sg, D, _, rfl, ?_, ?_, ?_, ?_, ?_, trivial, rfl, ?_⟩
            · rw [← hU, upd_ne neR]; exact sC.at enl
            · rw [← hU, upd_same, List.map_append]; rfl
            · refine paired_snoc ?_ (L2.Paired.imp' (fun _ _ (z : TupAt K G _ _) => ?_) hts)
              · rw [← hU]; exact hT.off hrl5
              · rw [← hU]; exact (z.same sC).off hrl5
            · rw [← hU, upd_ne neD]; exact hD5
            · refine ⟨by show (0 : Int) ≤ nw.length; omega, fun z => ?_, by omega, hss⟩
              rw [z] at hsl; simp at hsl; omega
            · show sg.length ≤ 12
              omega
        have hne : es ≠ [] := of_decide_eq_false e2
        have hpos : 0 < es.length := List.length_pos_iff.mpr hne
        walk_at "w"
        refine ⟨⟨by decide, by decide⟩, ?_⟩
        walk_at "w"
        refine ⟨e, _, rfl, .inl (SqL.of ((sG.trans sG5).at he)), ?_⟩
        walk_at "w"
        refine ⟨by rw [List.length_map]; omega, ?_⟩
        walk_at "w"
        obtain ⟨st, hst⟩ : ∃ st : Int, cell / 2 % (((es.map V.int).length : Nat) : Int) = st := ⟨_, rfl⟩
        have bs : 0 ≤ st ∧ st < es.length := by
          rw [← hst, List.length_map]
          exact ⟨Int.emod_nonneg _ (by omega), Int.emod_lt_of_pos _ (by omega)⟩
        refine ⟨_, rfl, ?_⟩
        walk_at "w"
        walk_at "ss"
        refine ⟨_, rfl, ?_⟩
        walk_at "w"
        have bm : (0 : Int) ≤ cell / 200 % 12 ∧ cell / 200 % 12 < 12 := ⟨Int.emod_nonneg _ (by decide), Int.emod_lt_of_pos _ (by decide)⟩
        refine ⟨e, _, rfl, SqL.of ((sG.trans sG5).at he), ?_⟩
        intro sl hsl
        generalize hUsl : upd G5 sl _ = G6
        have sG6 := Same.of_eq hsl hUsl
        have esl := at_of_eq hUsl
        clear hUsl
        walk_at "w"
        rw [hst] at esl
        generalize cell / 200 % 12 = m at bm esl
        rw [cutV_ints, sIx_nn bs.1, sIx_nn (by omega)] at esl
        have emin : min st.toNat es.length = st.toNat := by omega
        rw [emin] at esl
        generalize hk : min (st + 1 + m).toNat es.length - st.toNat = k at esl
        have bk : 1 ≤ k ∧ k ≤ 12 ∧ st + k ≤ es.length := by omega
        have lk : ((es.drop st.toNat).take k).length = k := by rw [List.length_take, List.length_drop]; omega
        have sB : Same G G6 := sG5.trans sG6
        refine ⟨.inl ⟨rfl, _, SqL.of (sB.at erl)⟩, ?_⟩
        walk_at "w"
        refine ⟨nl, _, rfl, .inl (SqL.of (sB.at enl)), ?_⟩
        walk_at "w"
        refine ⟨sl, _, rfl, .inl (SqL.of esl), ?_⟩
        walk_at "ss"
        intro t ht
        generalize hUt : upd G6 t _ = G7
        have sG7 := Same.of_eq ht hUt
        have et := at_of_eq hUt
        clear hUt
        walk_at "w"
        have sC : Same G G7 := sB.trans sG7
        refine ⟨rl, _, _, rfl, rfl, sC.at erl, by rw [List.length_map, sizeLine_eq]; omega, ?_⟩
        have hrl5 := sC.at erl
        dsimp only at et
        rw [hst, List.length_map, List.length_map, lk] at et
        have esl7 := sG7.at esl
        have hsl0 : G sl = none := sG5.back hsl
        have neD : sl ≠ rl := fun z => by rw [z, erl] at hsl0; cases hsl0
        generalize hU : upd G7 rl _ = H6
        refine ⟨Same.wr (sG.trans sC) hrl hU, t, .take nw.length st k, sl, _, rfl, ?_, ?_, ?_, ?_, ?_, ?_, rfl, ?_⟩
        · rw [← hU, upd_ne neR]; exact sC.at enl
        · rw [← hU, upd_same, List.map_append]; rfl
        · refine paired_snoc ?_ (L2.Paired.imp' (fun _ _ (z : TupAt K G _ _) => ?_) hts)
          · rw [← hU]; exact TupAt.off (r := .take nw.length st k) et hrl5
          · rw [← hU]; exact (z.same sC).off hrl5
        · rw [← hU, upd_ne neD]; exact esl7
        · exact ⟨by show (0 : Int) ≤ nw.length; omega, bs.1, by omega⟩
        · show st + (k : Int) ≤ es.length
          omega
        · show (k : Int).toNat ≤ 12
          omega
      · rintro σ' G' ⟨sG', t, r, sl, x6', rfl, en, er, hp, es', g1, g2, g3, g4⟩
        walk_at "w"
        have lsg := RowD.sg_len g1 g2
        refine ⟨nl, sl, _, _, rfl, rfl, en, es', by rw [List.length_map, List.length_map, lsg, sizeLine_eq]; omega, ?_⟩
        intro n2 hn2
        generalize hUn2 : upd G' n2 _ = G8
        have sG8 := Same.of_eq hn2 hUn2
        have en2 := at_of_eq hUn2
        clear hUn2
        walk_at "w"
        have ne8 : n2 ≠ rl := fun z => by rw [z, er] at hn2; cases hn2
        refine ⟨sG'.trans sG8, n2, ts ++ [t], rs ++ [r], nw ++ r.sg es, _, _, _, rfl, by rw [en2, List.map_append], sG8.at er, ne8, L2.Paired.imp' (fun _ _ z => z.same sG8) hp, .snoc til g1 g2 g3, by simp [hrsl], ?_⟩
        rw [List.length_append, lsg]; omega
    · obtain ⟨sG, nl, ts, rs, nw, x4, x5, x6, rfl, enl, erl, neR, hts, til, hrsl, hnwl⟩ := hP
      rw [List.length_map] at hrsl hnwl
      walk_at "w"
      walk_at "ss"
      intro p hp
      generalize hUp : upd G p _ = G1
      have sG1 := Same.of_eq hp hUp
      have ep := at_of_eq hUp
      clear hUp
      walk_at "w"
      exact q p rl nl ts rs nw G1 (sG.trans sG1) ep (sG1.at erl) (L2.Paired.imp' (fun _ _ z => z.same sG1) hts) (sG1.at enl) til (by omega) (by omega)
theorem ok_mixed_up (T : Txt K mg a) : FnOk P w K mg base CX0 2 a.f_mixed_up a.d_mixed_up ["_law_rows_here", "_law_cell"] sp_mixed_up := by
  refine T.F_mixed_up.ok sc_mixed_up (fun vs H Q E h => ?_) (fun cdv A outer s H vs Q E hr h => ?_)
  · obtain ⟨rl, c, ts, rfl, _⟩ := h; rfl
  · obtain ⟨rl, c, ts, rfl, hrl, hle, q⟩ := h
    have nd := sc_mixed_up.nd
    refine ⟨_, (pss_cons (ps_set (i := 2) nd rfl (Or.inl rfl) (pe_lst pa_nil))
    (pss_cons (cs_for PassesOwn.never rfl (ci_range1 (by rfl) T.n_range (pa_cons (pe_callB call_len_seq (by rfl) T.n_len bt_len (pa_cons (cv 0) pa_nil)) pa_nil)) (pg_name (i := 3) nd rfl (Or.inl rfl)) (pss_one (ps_expr (pe_bm PySem.F.plainAttrs_list PySem.F.slot_list_insert PySem.F.type_list_insert mt_insertN (cv 2) (pa_cons (pe_op o_mod (pe_call (ok_mixed T) (hr.mono (by decide)) (by rfl) T.m_mixed T.F_mixed.kp T.b_mixed .nil pass0 (pa_cons (cv 1) (pa_cons (cv 3) pa_nil))) (pe_op o_add (cv 3) pe_int)) (pa_cons (pe_ix ix_list (cv 0) (cv 3) (fun _ _ => rfl)) pa_nil))))))
    (pss_one (ps_ret (cv 2))))), ?_⟩
    walk_at "w"
    walk_at "ss"
    intro g hg
    generalize hUg : upd H g _ = H1
    have sH1 := Same.of_eq hg hUg
    have eg := at_of_eq hUg
    clear hUg
    walk_at "w"
    refine ⟨rl, _, rfl, .inl (SqL.of (sH1.at hrl)), ?_⟩
    walk_at "w"
    have en : rngN 0 ((ts.map V.ref).length : Nat) 1 = ts.length := by rw [rngN_one, List.length_map]; omega
    rw [en]
    refine forAt_its (fun k σ G => Same H G ∧ ∃ us x3, σ = [some (.ref rl), some (.int c), some (.ref g), x3] ∧ G g = some (.lst (us.map V.ref)) ∧ us.Perm (ts.take k)) ⟨sH1, [], _, rfl, eg, by simp⟩ (fun k σ G hk hP => ?_) (fun σ G hP => ?_)
    · obtain ⟨sG, us, x3, rfl, eg', hpm⟩ := hP
      have ul : us.length = k := by rw [hpm.length_eq, List.length_take]; omega
      have ek : (0 : Int) + (k : Int) * 1 = (k : Int) := by omega
      rw [ek]
      walk_at "w"
      refine ⟨.inl ⟨rfl, _, SqL.of eg'⟩, ?_⟩
      walk_at "w"
      refine ⟨c, k, rfl, ?_⟩
      walk_at "w"
      refine ⟨by show (0 : Int) < (k : Int) + 1; omega, ?_⟩
      walk_at "w"
      refine ⟨rl, _, _, .ref ts[k], rfl, rfl, SqL.of (sG.at hrl), atI_nat (by simp [hk]), ?_⟩
      walk_at "w"
      have bm : 0 ≤ mixed c k % ((k : Int) + 1) ∧ mixed c k % ((k : Int) + 1) < (k : Int) + 1 := ⟨Int.emod_nonneg _ (by omega), Int.emod_lt_of_pos _ (by omega)⟩
      refine ⟨g, _, _, _, rfl, rfl, eg', by rw [List.length_map, sizeLine_eq]; omega, bm.1, by rw [List.length_map]; omega, ?_⟩
      generalize (mixed c k % ((k : Int) + 1)).toNat = j
      generalize hU : upd G g _ = G2
      refine ⟨Same.wr sG hg hU, us.take j ++ ts[k] :: us.drop j, _, rfl, ?_, ?_⟩
      · rw [← hU, upd_same, List.map_append, List.map_cons, List.map_take, List.map_drop]
      · rw [List.take_succ, List.getElem?_eq_getElem hk]
        exact (insert_perm us j ts[k]).trans (hpm.append_right _)
    · obtain ⟨sG, us, x3, rfl, eg', hpm⟩ := hP
      rw [List.take_length] at hpm
      exact q g us G sG eg' hpm
theorem ok_price (T : Txt K mg a) : FnOk P w K mg base CX0 1 a.f_price a.d_price ["_law_rows_here"] (sp_price K) := by
  refine T.F_price.ok sc_price (fun vs H Q E h => ?_) (fun cdv A outer s H vs Q E hr h => ?_)
  · obtain ⟨l, ts, rs, rfl, _⟩ := h; rfl
  · obtain ⟨l, ts, rs, rfl, hl, hts, q⟩ := h
    have nd := sc_price.nd
    refine ⟨_, (pss_cons (ps_set (i := 1) nd rfl (Or.inl rfl) pe_int)
    (pss_cons (cs_for PassesOwn.never rfl (pi_alt (pi_list (cv 0)) (pi_tup (cv 0))) (pg_name (i := 2) nd rfl (Or.inl rfl)) (pss_one (cs_if (ct_cmp o_eqS (pe_ix ix_tup (cv 2) pe_int (fun _ _ => rfl)) pe_str) (pss_one (ps_set (i := 1) nd rfl (Or.inl rfl) (pe_op o_add (cv 1) pe_int))) (pss_one (ps_set (i := 1) nd rfl (Or.inl rfl) (pe_op o_add (pe_op o_add (cv 1) pe_int) (pe_callB call_len_seq (by rfl) T.n_len bt_len (pa_cons (pe_ix ix_tup (cv 2) pe_int (fun _ _ => rfl)) pa_nil))))))))
    (pss_one (ps_ret (cv 1))))), ?_⟩
    have tl : ts.length = rs.length := hts.length
    walk_at "w"
    have fin : Q (.int ((rs.take (ts.map V.ref).length).map RowD.cst).sum) H := by rw [List.take_of_length_le (by simp; omega)]; exact q
    rcases hl with hl | hl
    · left
      refine ⟨l, rfl, ⟨_, SqL.of hl⟩, ?_⟩
      refine forAt_list (xs := ts.map V.ref) (fun k σ G => G = H ∧ ∃ x2, σ = [some (.ref l), some (.int ((rs.take k).map RowD.cst).sum), x2]) ⟨rfl, _, rfl⟩ (fun i σ G hi hP => by rw [hP.1]; exact SqL.of hl) (fun k x σ G hx hP => ?_) (fun σ G hP => ?_)
      · obtain ⟨rfl, x2, rfl⟩ := hP
        rw [List.getElem?_map] at hx
        cases hb : ts[k]? with
        | none => rw [hb] at hx; cases hx
        | some t0 =>
        rw [hb] at hx
        cases hx
        obtain ⟨r, hr0, pr⟩ := paired_get1 hts hb
        have tk : ((rs.take (k + 1)).map RowD.cst).sum = ((rs.take k).map RowD.cst).sum + r.cst := by
          rw [List.take_succ, hr0, List.map_append, List.sum_append]
          simp
        cases r with
        | take to st c =>
          walk_at "w"
          refine ⟨t0, _, _, .str "take", rfl, rfl, SqT.of pr, rfl, ?_⟩
          walk_at "w"
          refine ⟨fun _ => ?_, by walk_at "no"⟩
          refine ⟨rfl, some (.ref t0), ?_⟩
          rw [tk]; rfl
        | put to sg =>
          obtain ⟨u, h1, h2⟩ := pr
          walk_at "w"
          refine ⟨t0, _, _, .str "put", rfl, rfl, SqT.of h1, rfl, ?_⟩
          walk_at "w"
          refine ⟨by walk_at "no", fun _ => ?_⟩
          walk_at "w"
          refine ⟨t0, _, _, .ref u, rfl, rfl, SqT.of h1, rfl, ?_⟩
          walk_at "w"
          refine ⟨u, _, rfl, .inr (SqT.of h2), ?_⟩
          refine ⟨rfl, some (.ref t0), ?_⟩
          have ev : ((rs.take k).map RowD.cst).sum + 2 + (((sg.map V.int).length : Nat) : Int) = ((rs.take k).map RowD.cst).sum + (RowD.put to sg).cst := by
            rw [List.length_map]; show _ = _ + (2 + (sg.length : Int)); omega
          rw [tk, ← ev]; rfl
      · obtain ⟨rfl, x2, rfl⟩ := hP
        exact fin
    · right
      refine ⟨l, rfl, ⟨_, SqT.of hl⟩, ?_⟩
      refine forAt_tup (xs := ts.map V.ref) (fun k σ G => G = H ∧ ∃ x2, σ = [some (.ref l), some (.int ((rs.take k).map RowD.cst).sum), x2]) ⟨rfl, _, rfl⟩ (fun i σ G hi hP => by rw [hP.1]; exact SqT.of hl) (fun k x σ G hx hP => ?_) (fun σ G hP => ?_)
      · obtain ⟨rfl, x2, rfl⟩ := hP
        rw [List.getElem?_map] at hx
        cases hb : ts[k]? with
        | none => rw [hb] at hx; cases hx
        | some t0 =>
        rw [hb] at hx
        cases hx
        obtain ⟨r, hr0, pr⟩ := paired_get1 hts hb
        have tk : ((rs.take (k + 1)).map RowD.cst).sum = ((rs.take k).map RowD.cst).sum + r.cst := by
          rw [List.take_succ, hr0, List.map_append, List.sum_append]
          simp
        cases r with
        | take to st c =>
          walk_at "w"
          refine ⟨t0, _, _, .str "take", rfl, rfl, SqT.of pr, rfl, ?_⟩
          walk_at "w"
          refine ⟨fun _ => ?_, by walk_at "no"⟩
          refine ⟨rfl, some (.ref t0), ?_⟩
          rw [tk]; rfl
        | put to sg =>
          obtain ⟨u, h1, h2⟩ := pr
          walk_at "w"
          refine ⟨t0, _, _, .str "put", rfl, rfl, SqT.of h1, rfl, ?_⟩
          walk_at "w"
          refine ⟨by walk_at "no", fun _ => ?_⟩
          walk_at "w"
          refine ⟨t0, _, _, .ref u, rfl, rfl, SqT.of h1, rfl, ?_⟩
          walk_at "w"
          refine ⟨u, _, rfl, .inr (SqT.of h2), ?_⟩
          refine ⟨rfl, some (.ref t0), ?_⟩
          have ev : ((rs.take k).map RowD.cst).sum + 2 + (((sg.map V.int).length : Nat) : Int) = ((rs.take k).map RowD.cst).sum + (RowD.put to sg).cst := by
            rw [List.length_map]; show _ = _ + (2 + (sg.length : Int)); omega
          rw [tk, ← ev]; rfl
      · obtain ⟨rfl, x2, rfl⟩ := hP
        exact fin
theorem ok_law (T : Txt K mg a) : FnOk P w K mg base CX0 7 a.f_law a.d_law ["_law_script"] (sp_law K) := by
  refine T.F_law.ok sc_law (fun vs H Q E h => ?_) (fun cdv A outer s H vs Q E hr h => ?_)
  · obtain ⟨l, ns, rfl, _⟩ := h; rfl
  · obtain ⟨l, ns, rfl, hl, hlen, hP, q⟩ := h
    have nd := sc_law.nd
    refine ⟨_, (pss_cons (ps_setComp (i := 1) (blk_mk (cap := [0]) (ys := ["_law_script"]) rfl rfl rfl rfl rfl ⟨⟨rfl, rfl, .inl rfl⟩, trivial⟩ (by decide +kernel)) rfl nd rfl rfl (ci_range1 (by rfl) T.n_range (pa_cons (pe_op o_mod (pe_call (ok_cell_at T) (hr.mono (by decide)) (by rfl) T.m_cell_at T.F_cell_at.kp T.b_cell_at .nil pass0 (pa_cons (cv 0) (pa_cons pe_int pa_nil))) pe_int) pa_nil)) (fun _ _ _ _ => (pe_call (ok_sign T) (hr.mono (by decide)) (by rfl) T.m_sign T.F_sign.kp T.b_sign .nil pass0 (pa_cons (pe_call (ok_cell_at T) (hr.mono (by decide)) (by rfl) T.m_cell_at T.F_cell_at.kp T.b_cell_at .nil pass0 (pa_cons (cv 1) (pa_cons pe_int pa_nil))) (pa_cons (cv 0) pa_nil)))) (fun _ _ _ _ => cts_nil))
    (pss_cons (ps_asg (pe_call (ok_rows T) (hr.mono (by decide)) (by rfl) T.m_rows T.F_rows.kp T.b_rows .nil pass0 (pa_cons (cv 1) (pa_cons (pe_slice sl_list (cv 0) (po_some pe_int) (po_some pe_int)) pa_nil))) (pg_tup rfl (pgs_cons (pg_name (i := 2) nd rfl (Or.inl rfl)) (pgs_cons (pg_name (i := 3) nd rfl (Or.inl rfl)) pgs_nil))))
    (pss_cons (ps_set (i := 4) nd rfl (Or.inl rfl) (pe_tup (pa_cons (pe_callB call_len_seq (by rfl) T.n_len bt_len (pa_cons (cv 1) pa_nil)) (pa_cons (pe_callB call_len_seq (by rfl) T.n_len bt_len (pa_cons (cv 3) pa_nil)) (pa_cons (pe_callTy call_tuple_of (by rfl) T.n_tuple bt_tuple (pa_cons (pe_call (ok_mixed_up T) (hr.mono (by decide)) (by rfl) T.m_mixed_up T.F_mixed_up.kp T.b_mixed_up .nil pass0 (pa_cons (cv 2) (pa_cons (pe_call (ok_cell_at T) (hr.mono (by decide)) (by rfl) T.m_cell_at T.F_cell_at.kp T.b_cell_at .nil pass0 (pa_cons (cv 0) (pa_cons pe_int pa_nil))) pa_nil))) pa_nil)) pa_nil)))))
    (pss_cons (ps_set (i := 5) nd rfl (Or.inl rfl) (pe_callTy call_list_of (by rfl) T.n_list bt_list (pa_cons (cv 1) pa_nil)))
    (pss_cons (ps_set (i := 6) nd rfl (Or.inl rfl) (pe_call (ok_meant T) (hr.mono (by decide)) (by rfl) T.m_meant T.F_meant.kp T.b_meant .nil pass0 (pa_cons (cv 4) (pa_cons (cv 5) pa_nil))))
    (pss_cons (cs_if (PW.pt (cw_or (pt_not (ct_val (pe_callB call_isi (by rfl) T.n_isinstance bt_isinstance (pa_cons (cv 6) (pa_cons (pe_bltn (v := .ty "list") (by rfl) T.n_list bt_list rfl) pa_nil))))) (cw_or (ct_cmp (o_dne hr.units) (cv 6) (cv 3)) (cw_or (ct_cmp (o_dne hr.units) (cv 5) (cv 1)) (pw_or1 (ct_cmp o_neI (pe_call (ok_cost T) (hr.mono (by decide)) (by rfl) T.m_cost T.F_cost.kp T.b_cost .nil pass0 (pa_cons (cv 4) pa_nil)) (pe_call (ok_price T) (hr.mono (by decide)) (by rfl) T.m_price T.F_price.kp T.b_price .nil pass0 (pa_cons (cv 2) pa_nil)))))))) (pss_one (ps_ret pe_bl)) pss_nil)
    (pss_cons (ps_expr (pe_bm PySem.F.plainAttrs_list PySem.F.slot_list_append PySem.F.type_list_append mt_append (cv 6) (pa_cons pe_int pa_nil)))
    (pss_cons (ps_expr (pe_bm PySem.F.plainAttrs_list PySem.F.slot_list_append PySem.F.type_list_append mt_append (cv 5) (pa_cons pe_int pa_nil)))
    (pss_cons (cs_if (PW.pt (cw_or (ct_cmp (o_dne hr.units) (pe_call (ok_meant T) (hr.mono (by decide)) (by rfl) T.m_meant T.F_meant.kp T.b_meant .nil pass0 (pa_cons (pe_tup (pa_cons (pe_callB call_len_seq (by rfl) T.n_len bt_len (pa_cons (cv 1) pa_nil)) (pa_cons (pe_callB call_len_seq (by rfl) T.n_len bt_len (pa_cons (cv 3) pa_nil)) (pa_cons (pe_callTy call_tuple_of (by rfl) T.n_tuple bt_tuple (pa_cons (cv 2) pa_nil)) pa_nil)))) (pa_cons (cv 1) pa_nil))) (cv 3)) (pw_or1 (ct_cmp o_neI (pe_call (ok_cost T) (hr.mono (by decide)) (by rfl) T.m_cost T.F_cost.kp T.b_cost .nil pass0 (pa_cons (cv 4) pa_nil)) (pe_call (ok_price T) (hr.mono (by decide)) (by rfl) T.m_price T.F_price.kp T.b_price .nil pass0 (pa_cons (cv 2) pa_nil)))))) (pss_one (ps_ret pe_bl)) pss_nil)
    (pss_cons (ps_set (i := 5) nd rfl (Or.inl rfl) (pe_callTy call_list_of (by rfl) T.n_list bt_list (pa_cons (cv 3) pa_nil)))
    (pss_cons (ps_set (i := 7) nd rfl (Or.inl rfl) (pe_call (ok_plain T) (hr.mono (by decide)) (by rfl) T.m_plain T.F_plain.kp T.b_plain .nil pass0 (pa_cons (pe_callB call_len_seq (by rfl) T.n_len bt_len (pa_cons (cv 1) pa_nil)) (pa_cons (cv 5) pa_nil))))
    (pss_cons (ps_set (i := 8) nd rfl (Or.inl rfl) (pe_tup (pa_cons (pe_callB call_len_seq (by rfl) T.n_len bt_len (pa_cons (cv 1) pa_nil)) (pa_cons (pe_callB call_len_seq (by rfl) T.n_len bt_len (pa_cons (cv 3) pa_nil)) (pa_cons (pe_tup pa_nil) pa_nil)))))
    (pss_cons (cs_cut (cs_if (ct_cmp (o_dne hr.units) (cv 3) (pe_lst pa_nil)) (pss_one (ps_set (i := 8) nd rfl (Or.inl rfl) (pe_tup (pa_cons (pe_callB call_len_seq (by rfl) T.n_len bt_len (pa_cons (cv 1) pa_nil)) (pa_cons (pe_callB call_len_seq (by rfl) T.n_len bt_len (pa_cons (cv 3) pa_nil)) (pa_cons (pe_tup (pa_cons (pe_tup (pa_cons pe_str (pa_cons pe_int (pa_cons (pe_callTy call_tuple_of (by rfl) T.n_tuple bt_tuple (pa_cons (cv 3) pa_nil)) pa_nil)))) pa_nil)) pa_nil)))))) pss_nil))
    (pss_cons (cs_if (PW.pt (cw_or (ct_cmp (o_dne hr.units) (cv 7) (cv 8)) (cw_or (ct_cmp (o_dne hr.units) (cv 5) (cv 3)) (pw_or1 (ct_cmp (o_dne hr.units) (pe_call (ok_meant T) (hr.mono (by decide)) (by rfl) T.m_meant T.F_meant.kp T.b_meant .nil pass0 (pa_cons (cv 7) (pa_cons (cv 1) pa_nil))) (cv 3)))))) (pss_one (ps_ret pe_bl)) pss_nil)
    (pss_one (ps_ret (ce_and (ce_cmp o_eqI (pe_call (ok_cost T) (hr.mono (by decide)) (by rfl) T.m_cost T.F_cost.kp T.b_cost .nil pass0 (pa_cons (cv 7) pa_nil)) (pe_call (ok_price T) (hr.mono (by decide)) (by rfl) T.m_price T.F_price.kp T.b_price .nil pass0 (pa_cons (pe_ix ix_tup (cv 8) pe_int (fun _ _ => rfl)) pa_nil))) (ce_and (ce_cmp (o_deq hr.units) (pe_call (ok_plain T) (hr.mono (by decide)) (by rfl) T.m_plain T.F_plain.kp T.b_plain .nil pass0 (pa_cons pe_int (pa_cons (pe_lst pa_nil) pa_nil))) (pe_tup (pa_cons pe_int (pa_cons pe_int (pa_cons (pe_tup pa_nil) pa_nil))))) (pe_one (ce_cmp o_eqI (pe_call (ok_cost T) (hr.mono (by decide)) (by rfl) T.m_cost T.F_cost.kp T.b_cost .nil pass0 (pa_cons (pe_call (ok_plain T) (hr.mono (by decide)) (by rfl) T.m_plain T.F_plain.kp T.b_plain .nil pass0 (pa_cons pe_int (pa_cons (pe_lst pa_nil) pa_nil))) pa_nil)) pe_int)))))))))))))))))))), ?_⟩
    walk_at "w"
    refine ⟨l, ns, 0, rfl, hl, by decide, ?_⟩
    walk_at "w"
    refine ⟨by walk_at "pos", ?_⟩
    walk_at "w"
    have be : (0 : Int) ≤ cellAt ns 0 % 61 ∧ cellAt ns 0 % 61 < 61 := ⟨Int.emod_nonneg _ (by decide), Int.emod_lt_of_pos _ (by decide)⟩
    generalize hn : rngN 0 (cellAt ns 0 % 61) 1 = n
    have bn : n ≤ 60 := by rw [← hn, rngN_one]; omega
    clear hn
    refine comp_itsP (fun i acc _ => ∃ sg : List Int, acc = sg.map V.int ∧ sg.length = i ∧ ∀ x ∈ sg, (x.natAbs : Int) < 10 ^ 60) (by rw [sizeLine_eq]; omega) ⟨[], rfl, rfl, by simp⟩ (fun i acc H3 H3' hi s3 s3' hP3 R hR => ?_) (fun e acc H1 H1' hD hD3 s1 s1' hP3 hel he => ?_)
    · obtain ⟨sg, rfl, hsl, hss⟩ := hP3
      walk_at "w"
      refine ⟨l, ns, 0, rfl, (s3.trans s3').seq hl, by decide, ?_⟩
      walk_at "w"
      refine ⟨_, _, rfl, fun v hv => hR _ _ (Same.refl _) fun H6 _ _ => ⟨sg ++ [v], by simp, by simp [hsl], fun x hx => ?_⟩⟩
      rcases List.mem_append.mp hx with z | z
      · exact hss x z
      · rw [List.mem_singleton.mp z]; exact hv
    obtain ⟨es, rfl, hesl, hess⟩ := hP3
    have sA : Same H H1' := s1.trans s1'
    walk_at "w"
    refine ⟨_, rfl, ?_⟩
    walk_at "w"
    refine ⟨_, rfl, ?_⟩
    walk_at "w"
    refine ⟨l, _, rfl, sA.seq hl, ?_⟩
    intro c hc
    generalize hUc : upd H1' c _ = H2
    have sH2 := Same.of_eq hc hUc
    have ec := at_of_eq hUc
    clear hUc
    walk_at "w"
    rw [cutV_ints, sIx_nn (by decide), sIx_nn (by decide)] at ec
    generalize hcs : (ns.drop (min (2 : Int).toNat ns.length)).take (min (26 : Int).toNat ns.length - min (2 : Int).toNat ns.length) = cs at ec
    have bc : cs.length ≤ 24 := by rw [← hcs, List.length_take]; simp; omega
    clear hcs
    refine ⟨e, c, es, cs, rfl, sH2.at he, ec, bc, by omega, fun p0 rl nl ts rs nw H3 sH3 ep0 erl hts enl til brs bnw => ?_⟩
    have tl : ts.length = rs.length := hts.length
    have he3 : H3 e = some (.lst (es.map V.int)) := (sH2.trans sH3).at he
    have hP3 : H3 P_meant = some (.tbl qs_meant) := (sA.trans (sH2.trans sH3)).at hP
    have hl3 := (sA.trans (sH2.trans sH3)).seq hl
    clear sH2 sH3
    walk_at "w"
    refine ⟨p0, _, rfl, SqT.of ep0, rfl, ?_⟩
    walk_at "w"
    refine ⟨_, _, rfl, ?_⟩
    walk_at "w"
    refine ⟨_, _, rfl, ?_⟩
    walk_at "w"
    refine And.intro rfl ?_
    walk_at "w"
    refine ⟨e, _, rfl, .inl (SqL.of he3), ?_⟩
    walk_at "w"
    refine ⟨nl, _, rfl, .inl (SqL.of enl), ?_⟩
    walk_at "w"
    refine ⟨l, ns, 1, rfl, hl3, by decide, ?_⟩
    walk_at "w"
    refine ⟨rl, _, ts, rfl, erl, by omega, fun ml us H4 s34 eml hpm => ?_⟩
    walk_at "w"
    refine ⟨ml, _, rfl, .inl ⟨SqL.of eml, ?_⟩⟩
    intro mt hmt
    generalize hUmt : upd H4 mt _ = H5
    have sH5 := Same.of_eq hmt hUmt
    have emt := at_of_eq hUmt
    clear hUmt
    walk_at "w"
    walk_at "ss"
    intro p hp
    generalize hUp : upd H5 p _ = H6
    have sH6 := Same.of_eq hp hUp
    have ep := at_of_eq hUp
    clear hUp
    walk_at "w"
    rw [List.length_map, List.length_map] at ep
    obtain ⟨rs', hus, hpm'⟩ := perm_paired hpm hts
    have s36 : Same H3 H6 := s34.trans (sH5.trans sH6)
    have pap6 : PapAt K H6 p es.length nw.length rs' := ⟨mt, us, ep, sH6.at emt, L2.Paired.imp' (fun _ _ z => z.same s36) hus⟩
    have tel : ∀ r ∈ rs', Tells es nw r := fun r hr => til.tells r (hpm'.mem_iff.mp hr)
    have cov : ∀ j, j < nw.length → ∃ r ∈ rs', Covers r j := fun j hj => by
      obtain ⟨r, h1, h2⟩ := til.covers j hj
      exact ⟨r, hpm'.mem_iff.mpr h1, h2⟩
    have rl' : rs'.length = rs.length := hpm'.length_eq
    have he6 := s36.at he3
    have hP6 := s36.at hP3
    have enl6 := s36.at enl
    have erl6 := s36.at erl
    have hts6 := L2.Paired.imp' (fun _ _ (z : TupAt K H3 _ _) => z.same s36) hts
    have csum : (rs'.map RowD.cst).sum = (rs.map RowD.cst).sum := perm_sum (hpm'.map _)
    clear sH5 sH6
    refine ⟨e, _, rfl, .inl (SqL.of he6), ?_⟩
    intro hd hhd
    generalize hUhd : upd H6 hd _ = H7
    have sH7 := Same.of_eq hhd hUhd
    have ehd := at_of_eq hUhd
    clear hUhd
    walk_at "w"
    refine ⟨p, hd, _, rs', es, nw, rfl, sH7.at hP6, pap6.same sH7, ehd, tel, cov, by omega, by omega, fun g H8 sH8 hg eg => ?_⟩
    walk_at "w"
    refine ⟨_, _, _, _, true, rfl, rfl, TyOf.lst eg, rfl, ?_⟩
    walk_at "w"
    refine ⟨by walk_at "no", fun _ => ?_⟩
    walk_at "w"
    have s68 : Same H6 H8 := sH7.trans sH8
    refine leq_imp ⟨g, nl, nw, nw, rfl, rfl, SqL.of eg, SqL.of (s68.at enl6), ?_⟩
    walk_at "w"
    rw [decide_eq_true rfl]
    refine ⟨by walk_at "no", fun _ => ?_⟩
    walk_at "w"
    refine leq_imp ⟨hd, e, es, es, rfl, rfl, SqL.of (sH8.at ehd), SqL.of (s68.at he6), ?_⟩
    walk_at "w"
    rw [decide_eq_true rfl]
    refine ⟨by walk_at "no", fun _ => ?_⟩
    walk_at "w"
    refine ⟨p, _, _, rs', rfl, pap6.same s68, fun r hr => (tel r hr).1, by omega, fun H9 s89 => ?_⟩
    walk_at "w"
    refine ⟨rl, ts, rs, rfl, .inl ((s68.trans s89).at erl6), L2.Paired.imp' (fun _ _ z => z.same (s68.trans s89)) hts6, ?_⟩
    walk_at "w"
    rw [csum, decide_eq_true rfl]
    refine ⟨by walk_at "no", fun _ => ?_⟩
    walk_at "w"
    have eg9 := s89.at eg
    have ehd9 := (sH8.trans s89).at ehd
    have hg6 : H6 g = none := sH7.back hg
    have negh : hd ≠ g := fun z => by rw [← z, ehd] at hg; cases hg
    refine ⟨.inl ⟨rfl, _, SqL.of eg9⟩, ?_⟩
    walk_at "w"
    refine ⟨g, _, _, rfl, rfl, eg9, by rw [List.length_map, sizeLine_eq]; omega, ?_⟩
    generalize hU1 : upd H9 g _ = H10
    have s610 : Same H6 H10 := Same.wr (s68.trans s89) hg6 hU1
    have ehd10 : H10 hd = some (.lst (es.map V.int)) := by rw [← hU1, upd_ne negh]; exact ehd9
    clear hU1
    walk_at "w"
    refine ⟨.inl ⟨rfl, _, SqL.of ehd10⟩, ?_⟩
    walk_at "w"
    refine ⟨hd, _, _, rfl, rfl, ehd10, by rw [List.length_map, sizeLine_eq]; omega, ?_⟩
    generalize hU2 : upd H10 hd _ = H11
    have s611 : Same H6 H11 := Same.wr s610 hhd hU2
    clear hU2
    have he11 := s611.at he6
    have enl11 := s611.at enl6
    have erl11 := s611.at erl6
    have hts11 := L2.Paired.imp' (fun _ _ (z : TupAt K H6 _ _) => z.same s611) hts6
    have pap11 := pap6.same s611
    have hP11 := s611.at hP6
    clear s610 s611 s68 s89 sH7 sH8
    walk_at "w"
    refine ⟨e, _, rfl, .inl (SqL.of he11), ?_⟩
    walk_at "w"
    refine ⟨nl, _, rfl, .inl (SqL.of enl11), ?_⟩
    walk_at "w"
    refine ⟨rl, _, rfl, .inl ⟨SqL.of erl11, ?_⟩⟩
    intro t2 ht2
    generalize hUt2 : upd H11 t2 _ = H12
    have sH12 := Same.of_eq ht2 hUt2
    have et2 := at_of_eq hUt2
    clear hUt2
    walk_at "w"
    walk_at "ss"
    intro p2 hp2
    generalize hUp2 : upd H12 p2 _ = H13
    have sH13 := Same.of_eq hp2 hUp2
    have ep2 := at_of_eq hUp2
    clear hUp2
    walk_at "w"
    rw [List.length_map, List.length_map] at ep2
    have s1113 := sH12.trans sH13
    have pap13 : PapAt K H13 p2 es.length nw.length rs := ⟨t2, ts, ep2, sH13.at et2, L2.Paired.imp' (fun _ _ z => z.same s1113) hts11⟩
    refine ⟨p2, e, _, rs, es, nw, rfl, s1113.at hP11, pap13, s1113.at he11, til.tells, til.covers, by omega, by omega, fun g2 H14 s14 hg2 eg2 => ?_⟩
    walk_at "w"
    have s1114 := s1113.trans s14
    refine leq_imp ⟨g2, nl, nw, nw, rfl, rfl, SqL.of eg2, SqL.of (s1114.at enl11), ?_⟩
    walk_at "w"
    rw [decide_eq_true rfl]
    refine ⟨by walk_at "no", fun _ => ?_⟩
    walk_at "w"
    refine ⟨p, _, _, rs', rfl, pap11.same s1114, fun r hr => (tel r hr).1, by omega, fun H15 s15 => ?_⟩
    walk_at "w"
    have s1115 := s1114.trans s15
    refine ⟨rl, ts, rs, rfl, .inl (s1115.at erl11), L2.Paired.imp' (fun _ _ z => z.same s1115) hts11, ?_⟩
    walk_at "w"
    rw [csum, decide_eq_true rfl]
    refine ⟨by walk_at "no", fun _ => ?_⟩
    walk_at "w"
    have he15 := s1115.at he11
    have enl15 := s1115.at enl11
    have hP15 := s1115.at hP11
    clear s1115 s1114 s1113 s14 s15 sH12 sH13
    refine ⟨nl, _, rfl, .inl (SqL.of enl15), ?_⟩
    intro h2 hh2
    generalize hUh2 : upd H15 h2 _ = H16
    have sH16 := Same.of_eq hh2 hUh2
    have eh2 := at_of_eq hUh2
    clear hUh2
    walk_at "w"
    refine ⟨e, _, rfl, .inl (SqL.of (sH16.at he15)), ?_⟩
    walk_at "w"
    refine ⟨_, h2, nw, rfl, eh2, fun p3 H17 s17 pap17 => ?_⟩
    walk_at "w"
    have s1517 := sH16.trans s17
    refine ⟨e, _, rfl, .inl (SqL.of (s1517.at he15)), ?_⟩
    walk_at "w"
    refine ⟨nl, _, rfl, .inl (SqL.of (s1517.at enl15)), ?_⟩
    walk_at "ss"
    intro t3 ht3
    generalize hUt3 : upd H17 t3 _ = H18
    have sH18 := Same.of_eq ht3 hUt3
    have et3 := at_of_eq hUt3
    clear hUt3
    walk_at "w"
    walk_at "ss"
    intro d0 hd0
    generalize hUd0 : upd H18 d0 _ = H19
    have sH19 := Same.of_eq hd0 hUd0
    have ed0 := at_of_eq hUd0
    clear hUd0
    walk_at "w"
    rw [List.length_map, List.length_map] at ed0
    rw [List.length_map] at pap17
    have s1719 := sH18.trans sH19
    refine ⟨fun σ' G => Same H17 G ∧ ∃ d, σ' = [some (.ref l), some (.ref e), some (.ref rl), some (.ref nl), some (.ref p), some (.ref h2), some (.ref g), some (.ref p3), some (.ref d)] ∧ PapAt K G d es.length nw.length (plainRs nw), ?_, ?_⟩
    · walk_at "w"
      walk_at "ss"
      intro z1 hz1
      generalize hUz1 : upd H19 z1 _ = H20
      have sH20 := Same.of_eq hz1 hUz1
      have ez1 := at_of_eq hUz1
      clear hUz1
      walk_at "w"
      have s1520 := s1517.trans (s1719.trans sH20)
      refine leq_imp ⟨nl, z1, nw, [], rfl, rfl, SqL.of (s1520.at enl15), SqL.of ez1, ?_⟩
      walk_at "w"
      refine ⟨fun e1 => ?_, fun e1 => ?_⟩
      · have hne : nw ≠ [] := fun z => by rw [z] at e1; simp at e1
        walk_at "w"
        refine ⟨e, _, rfl, .inl (SqL.of (s1520.at he15)), ?_⟩
        walk_at "w"
        refine ⟨nl, _, rfl, .inl (SqL.of (s1520.at enl15)), ?_⟩
        walk_at "w"
        refine ⟨nl, _, rfl, .inl ⟨SqL.of (s1520.at enl15), ?_⟩⟩
        intro u5 hu5
        generalize hUu5 : upd H20 u5 _ = H21
        have sH21 := Same.of_eq hu5 hUu5
        have eu5 := at_of_eq hUu5
        clear hUu5
        walk_at "w"
        walk_at "ss"
        intro r5 hr5
        generalize hUr5 : upd H21 r5 _ = H22
        have sH22 := Same.of_eq hr5 hUr5
        have er5 := at_of_eq hUr5
        clear hUr5
        walk_at "w"
        walk_at "ss"
        intro t5 ht5
        generalize hUt5 : upd H22 t5 _ = H23
        have sH23 := Same.of_eq ht5 hUt5
        have et5 := at_of_eq hUt5
        clear hUt5
        walk_at "w"
        walk_at "ss"
        intro d5 hd5
        generalize hUd5 : upd H23 d5 _ = H24
        have sH24 := Same.of_eq hd5 hUd5
        have ed5 := at_of_eq hUd5
        clear hUd5
        walk_at "w"
        rw [List.length_map, List.length_map] at ed5
        refine ⟨s1719.trans (sH20.trans (sH21.trans (sH22.trans (sH23.trans sH24)))), d5, rfl, t5, [r5], ed5, sH24.at et5, ?_⟩
        rw [plainRs, if_neg hne]
        exact .cons ⟨u5, sH24.at (sH23.at er5), sH24.at (sH23.at (sH22.at eu5))⟩ .nil
      · have hne : nw = [] := by
          have : (!decide (nw = [])) = false := e1
          simpa using this
        refine ⟨s1719.trans sH20, d0, rfl, t3, [], sH20.at ed0, sH20.at (sH19.at et3), ?_⟩
        rw [plainRs, if_pos hne]
        exact .nil
    · rintro σ' G ⟨sG, d, rfl, papd⟩
      walk_at "w"
      refine deq_same (pap17.same sG).rp papd.rp (pap_shaped _ _ _) ?_
      walk_at "w"
      refine ⟨by walk_at "no", fun _ => ?_⟩
      walk_at "w"
      have s15G := s1517.trans sG
      refine leq_imp ⟨h2, nl, nw, nw, rfl, rfl, SqL.of ((s17.trans sG).at eh2), SqL.of (s15G.at enl15), ?_⟩
      walk_at "w"
      rw [decide_eq_true rfl]
      refine ⟨by walk_at "no", fun _ => ?_⟩
      walk_at "w"
      have sml := til.small hess
      refine ⟨p3, e, _, plainRs nw, es, nw, rfl, s15G.at hP15, pap17.same sG, s15G.at he15, plain_tells (by omega) sml, plain_covers nw, by omega, by unfold plainRs; split <;> simp, fun g3 H25 s25 hg3 eg3 => ?_⟩
      walk_at "w"
      refine leq_imp ⟨g3, nl, nw, nw, rfl, rfl, SqL.of eg3, SqL.of ((s15G.trans s25).at enl15), ?_⟩
      walk_at "w"
      rw [decide_eq_true rfl]
      refine ⟨by walk_at "no", fun _ => ?_⟩
      walk_at "w"
      have pok : ∀ r ∈ plainRs nw, r.ok := fun r hr => (plain_tells (es := es) (by omega) sml r hr).1
      have pl : (plainRs nw).length ≤ 1000 := by unfold plainRs; split <;> simp
      refine ⟨p3, _, _, plainRs nw, rfl, pap17.same (sG.trans s25), pok, pl, fun H26 s26 => ?_⟩
      walk_at "w"
      obtain ⟨td, tsd, ed, etd, hpd⟩ := papd.same (s25.trans s26)
      refine ⟨d, _, _, .ref td, rfl, rfl, SqT.of ed, rfl, ?_⟩
      walk_at "w"
      refine ⟨td, tsd, plainRs nw, rfl, .inr etd, hpd, ?_⟩
      walk_at "w"
      rw [decide_eq_true rfl]
      refine ⟨fun _ => ?_, by walk_at "no"⟩
      walk_at "w"
      walk_at "ss"
      intro m1 hm1
      generalize hUm1 : upd H26 m1 _ = H27
      have sH27 := Same.of_eq hm1 hUm1
      have em1 := at_of_eq hUm1
      clear hUm1
      walk_at "w"
      refine ⟨0, m1, [], rfl, em1, fun p5 H28 s28 pap28 => ?_⟩
      walk_at "w"
      walk_at "ss"
      intro m2 hm2
      generalize hUm2 : upd H28 m2 _ = H29
      have sH29 := Same.of_eq hm2 hUm2
      have em2 := at_of_eq hUm2
      clear hUm2
      walk_at "w"
      walk_at "ss"
      intro m3 hm3
      generalize hUm3 : upd H29 m3 _ = H30
      have sH30 := Same.of_eq hm3 hUm3
      have em3 := at_of_eq hUm3
      clear hUm3
      walk_at "w"
      have pap30 : PapAt K H30 m3 0 0 (plainRs []) := ⟨m2, [], em3, sH30.at em2, .nil⟩
      refine deq_same (f := fun b => b) (pap28.same (sH29.trans sH30)).rp pap30.rp (pap_shaped _ _ _) ?_
      walk_at "w"
      refine ⟨fun _ => ?_, by walk_at "no"⟩
      walk_at "w"
      walk_at "ss"
      intro m4 hm4
      generalize hUm4 : upd H30 m4 _ = H31
      have sH31 := Same.of_eq hm4 hUm4
      have em4 := at_of_eq hUm4
      clear hUm4
      walk_at "w"
      refine ⟨3, m4, [], rfl, em4, fun p6 H32 s32 pap32 => ?_⟩
      walk_at "w"
      refine ⟨p6, _, _, plainRs [], rfl, pap32, by simp [plainRs], by simp [plainRs], fun H33 s33 => ?_⟩
      exact q _
end
theorem txt_mk {l : PySem.W.OpenLaw} {w : World} {K : PySem.W.Frag} {h : Heap} {mg : Str → Option Value} {fa : Addr} {f_Row_init f_Row_covered f_Take_init f_Take_source_for f_Take_sign_for f_Take_cost f_Take_told f_Put_init f_Put_sign_for f_Put_cost f_Put_told f_row_of f_tells_take f_tells_put f_are_signs f_is_sign f_is_whole_from f_is_whole f_meant f_cost f_plain f_cell_at f_mixed f_sign f_rows f_mixed_up f_price f_law C_Row C_Take C_Put : Addr} {od0 an0 od1 an1 od2 an2 od3 an3 od4 an4 od5 an5 od6 an6 od7 an7 od8 an8 od9 an9 od10 an10 od11 an11 od12 an12 od13 an13 od14 an14 od15 an15 od16 an16 od17 an17 od18 an18 od19 an19 od20 an20 od21 an21 od22 an22 od23 an23 od24 an24 od25 an25 od26 an26 od27 an27 : Option Addr} {sl0 sl1 sl2 sl3 sl4 sl5 sl6 sl7 sl8 sl9 sl10 sl11 sl12 sl13 sl14 sl15 sl16 sl17 sl18 sl19 sl20 sl21 sl22 sl23 sl24 sl25 sl26 sl27 : Array (Option Value)} {oc0 kV0 dc0 pm0 cd0 ct0 oc1 kV1 dc1 pm1 cd1 ct1 oc2 kV2 dc2 pm2 cd2 ct2 oc3 kV3 dc3 pm3 cd3 ct3 oc4 kV4 dc4 pm4 cd4 ct4 oc5 kV5 dc5 pm5 cd5 ct5 oc6 kV6 dc6 pm6 cd6 ct6 oc7 kV7 dc7 pm7 cd7 ct7 oc8 kV8 dc8 pm8 cd8 ct8 oc9 kV9 dc9 pm9 cd9 ct9 oc10 kV10 dc10 pm10 cd10 ct10 oc11 kV11 dc11 pm11 cd11 ct11 oc12 kV12 dc12 pm12 cd12 ct12 oc13 kV13 dc13 pm13 cd13 ct13 oc14 kV14 dc14 pm14 cd14 ct14 oc15 kV15 dc15 pm15 cd15 ct15 oc16 kV16 dc16 pm16 cd16 ct16 oc17 kV17 dc17 pm17 cd17 ct17 oc18 kV18 dc18 pm18 ct18 oc19 kV19 dc19 pm19 cd19 ct19 oc20 kV20 dc20 pm20 cd20 ct20 oc21 kV21 dc21 pm21 cd21 ct21 oc22 kV22 dc22 pm22 cd22 ct22 oc23 kV23 dc23 pm23 cd23 ct23 oc24 kV24 dc24 pm24 cd24 ct24 oc25 kV25 dc25 pm25 cd25 ct25 oc26 kV26 dc26 pm26 cd26 ct26 oc27 kV27 dc27 pm27 cd27 ct27 : Value} (X : K.In h) (G : h.Ns mainGlobals mg) (hfa : mg "law" = some (.ref fa))
    (aC_Row : PySem.W.nsIn K mainGlobals "Row" = some (some (.ref C_Row)))
    (aC_Take : PySem.W.nsIn K mainGlobals "Take" = some (some (.ref C_Take)))
    (aC_Put : PySem.W.nsIn K mainGlobals "Put" = some (some (.ref C_Put)))
    (a_Row_init : PySem.W.findIn K (.ref C_Row) "__init__" = some (some (.ref f_Row_init)))
    (l_Row_init : K.lookup f_Row_init = some ⟨oc0, od0, .func (PySem.W.fnOf "__init__" "Row.__init__" (defArgs s_Row_init) (defBody s_Row_init) (defScope s_Row_init) .none kV0 dc0 pm0 an0 cd0 ct0), sl0⟩)
    (c_Row_init : PySem.W.codeIn K cd0 "Row.__init__" = true)
    (k_Row_init : PySem.W.keepIn K (.ref f_Row_init) = true)
    (a_Row_covered : PySem.W.findIn K (.ref C_Row) "covered" = some (some (.ref f_Row_covered)))
    (l_Row_covered : K.lookup f_Row_covered = some ⟨oc1, od1, .func (PySem.W.fnOf "covered" "Row.covered" (defArgs s_Row_covered) (defBody s_Row_covered) (defScope s_Row_covered) .none kV1 dc1 pm1 an1 cd1 ct1), sl1⟩)
    (c_Row_covered : PySem.W.codeIn K cd1 "Row.covered" = true)
    (k_Row_covered : PySem.W.keepIn K (.ref f_Row_covered) = true)
    (a_Take_init : PySem.W.findIn K (.ref C_Take) "__init__" = some (some (.ref f_Take_init)))
    (l_Take_init : K.lookup f_Take_init = some ⟨oc2, od2, .func (PySem.W.fnOf "__init__" "Take.__init__" (defArgs s_Take_init) (defBody s_Take_init) (defScope s_Take_init) .none kV2 dc2 pm2 an2 cd2 ct2), sl2⟩)
    (c_Take_init : PySem.W.codeIn K cd2 "Take.__init__" = true)
    (k_Take_init : PySem.W.keepIn K (.ref f_Take_init) = true)
    (a_Take_source_for : PySem.W.findIn K (.ref C_Take) "source_for" = some (some (.ref f_Take_source_for)))
    (l_Take_source_for : K.lookup f_Take_source_for = some ⟨oc3, od3, .func (PySem.W.fnOf "source_for" "Take.source_for" (defArgs s_Take_source_for) (defBody s_Take_source_for) (defScope s_Take_source_for) .none kV3 dc3 pm3 an3 cd3 ct3), sl3⟩)
    (c_Take_source_for : PySem.W.codeIn K cd3 "Take.source_for" = true)
    (k_Take_source_for : PySem.W.keepIn K (.ref f_Take_source_for) = true)
    (a_Take_sign_for : PySem.W.findIn K (.ref C_Take) "sign_for" = some (some (.ref f_Take_sign_for)))
    (l_Take_sign_for : K.lookup f_Take_sign_for = some ⟨oc4, od4, .func (PySem.W.fnOf "sign_for" "Take.sign_for" (defArgs s_Take_sign_for) (defBody s_Take_sign_for) (defScope s_Take_sign_for) .none kV4 dc4 pm4 an4 cd4 ct4), sl4⟩)
    (c_Take_sign_for : PySem.W.codeIn K cd4 "Take.sign_for" = true)
    (k_Take_sign_for : PySem.W.keepIn K (.ref f_Take_sign_for) = true)
    (a_Take_cost : PySem.W.findIn K (.ref C_Take) "cost" = some (some (.ref f_Take_cost)))
    (l_Take_cost : K.lookup f_Take_cost = some ⟨oc5, od5, .func (PySem.W.fnOf "cost" "Take.cost" (defArgs s_Take_cost) (defBody s_Take_cost) (defScope s_Take_cost) .none kV5 dc5 pm5 an5 cd5 ct5), sl5⟩)
    (c_Take_cost : PySem.W.codeIn K cd5 "Take.cost" = true)
    (k_Take_cost : PySem.W.keepIn K (.ref f_Take_cost) = true)
    (a_Take_told : PySem.W.findIn K (.ref C_Take) "told" = some (some (.ref f_Take_told)))
    (l_Take_told : K.lookup f_Take_told = some ⟨oc6, od6, .func (PySem.W.fnOf "told" "Take.told" (defArgs s_Take_told) (defBody s_Take_told) (defScope s_Take_told) .none kV6 dc6 pm6 an6 cd6 ct6), sl6⟩)
    (c_Take_told : PySem.W.codeIn K cd6 "Take.told" = true)
    (k_Take_told : PySem.W.keepIn K (.ref f_Take_told) = true)
    (a_Put_init : PySem.W.findIn K (.ref C_Put) "__init__" = some (some (.ref f_Put_init)))
    (l_Put_init : K.lookup f_Put_init = some ⟨oc7, od7, .func (PySem.W.fnOf "__init__" "Put.__init__" (defArgs s_Put_init) (defBody s_Put_init) (defScope s_Put_init) .none kV7 dc7 pm7 an7 cd7 ct7), sl7⟩)
    (c_Put_init : PySem.W.codeIn K cd7 "Put.__init__" = true)
    (k_Put_init : PySem.W.keepIn K (.ref f_Put_init) = true)
    (a_Put_sign_for : PySem.W.findIn K (.ref C_Put) "sign_for" = some (some (.ref f_Put_sign_for)))
    (l_Put_sign_for : K.lookup f_Put_sign_for = some ⟨oc8, od8, .func (PySem.W.fnOf "sign_for" "Put.sign_for" (defArgs s_Put_sign_for) (defBody s_Put_sign_for) (defScope s_Put_sign_for) .none kV8 dc8 pm8 an8 cd8 ct8), sl8⟩)
    (c_Put_sign_for : PySem.W.codeIn K cd8 "Put.sign_for" = true)
    (k_Put_sign_for : PySem.W.keepIn K (.ref f_Put_sign_for) = true)
    (a_Put_cost : PySem.W.findIn K (.ref C_Put) "cost" = some (some (.ref f_Put_cost)))
    (l_Put_cost : K.lookup f_Put_cost = some ⟨oc9, od9, .func (PySem.W.fnOf "cost" "Put.cost" (defArgs s_Put_cost) (defBody s_Put_cost) (defScope s_Put_cost) .none kV9 dc9 pm9 an9 cd9 ct9), sl9⟩)
    (c_Put_cost : PySem.W.codeIn K cd9 "Put.cost" = true)
    (k_Put_cost : PySem.W.keepIn K (.ref f_Put_cost) = true)
    (a_Put_told : PySem.W.findIn K (.ref C_Put) "told" = some (some (.ref f_Put_told)))
    (l_Put_told : K.lookup f_Put_told = some ⟨oc10, od10, .func (PySem.W.fnOf "told" "Put.told" (defArgs s_Put_told) (defBody s_Put_told) (defScope s_Put_told) .none kV10 dc10 pm10 an10 cd10 ct10), sl10⟩)
    (c_Put_told : PySem.W.codeIn K cd10 "Put.told" = true)
    (k_Put_told : PySem.W.keepIn K (.ref f_Put_told) = true)
    (a_row_of : PySem.W.nsIn K mainGlobals "row_of" = some (some (.ref f_row_of)))
    (l_row_of : K.lookup f_row_of = some ⟨oc11, od11, .func (PySem.W.fnOf "row_of" "row_of" (defArgs s_row_of) (defBody s_row_of) (defScope s_row_of) .none kV11 dc11 pm11 an11 cd11 ct11), sl11⟩)
    (c_row_of : PySem.W.codeIn K cd11 "row_of" = true)
    (k_row_of : PySem.W.keepIn K (.ref f_row_of) = true)
    (a_tells_take : PySem.W.nsIn K mainGlobals "tells_take" = some (some (.ref f_tells_take)))
    (l_tells_take : K.lookup f_tells_take = some ⟨oc12, od12, .func (PySem.W.fnOf "tells_take" "tells_take" (defArgs s_tells_take) (defBody s_tells_take) (defScope s_tells_take) .none kV12 dc12 pm12 an12 cd12 ct12), sl12⟩)
    (c_tells_take : PySem.W.codeIn K cd12 "tells_take" = true)
    (k_tells_take : PySem.W.keepIn K (.ref f_tells_take) = true)
    (a_tells_put : PySem.W.nsIn K mainGlobals "tells_put" = some (some (.ref f_tells_put)))
    (l_tells_put : K.lookup f_tells_put = some ⟨oc13, od13, .func (PySem.W.fnOf "tells_put" "tells_put" (defArgs s_tells_put) (defBody s_tells_put) (defScope s_tells_put) .none kV13 dc13 pm13 an13 cd13 ct13), sl13⟩)
    (c_tells_put : PySem.W.codeIn K cd13 "tells_put" = true)
    (k_tells_put : PySem.W.keepIn K (.ref f_tells_put) = true)
    (a_are_signs : PySem.W.nsIn K mainGlobals "are_signs" = some (some (.ref f_are_signs)))
    (l_are_signs : K.lookup f_are_signs = some ⟨oc14, od14, .func (PySem.W.fnOf "are_signs" "are_signs" (defArgs s_are_signs) (defBody s_are_signs) (defScope s_are_signs) .none kV14 dc14 pm14 an14 cd14 ct14), sl14⟩)
    (c_are_signs : PySem.W.codeIn K cd14 "are_signs" = true)
    (k_are_signs : PySem.W.keepIn K (.ref f_are_signs) = true)
    (a_is_sign : PySem.W.nsIn K mainGlobals "is_sign" = some (some (.ref f_is_sign)))
    (l_is_sign : K.lookup f_is_sign = some ⟨oc15, od15, .func (PySem.W.fnOf "is_sign" "is_sign" (defArgs s_is_sign) (defBody s_is_sign) (defScope s_is_sign) .none kV15 dc15 pm15 an15 cd15 ct15), sl15⟩)
    (c_is_sign : PySem.W.codeIn K cd15 "is_sign" = true)
    (k_is_sign : PySem.W.keepIn K (.ref f_is_sign) = true)
    (a_is_whole_from : PySem.W.nsIn K mainGlobals "is_whole_from" = some (some (.ref f_is_whole_from)))
    (l_is_whole_from : K.lookup f_is_whole_from = some ⟨oc16, od16, .func (PySem.W.fnOf "is_whole_from" "is_whole_from" (defArgs s_is_whole_from) (defBody s_is_whole_from) (defScope s_is_whole_from) .none kV16 dc16 pm16 an16 cd16 ct16), sl16⟩)
    (c_is_whole_from : PySem.W.codeIn K cd16 "is_whole_from" = true)
    (k_is_whole_from : PySem.W.keepIn K (.ref f_is_whole_from) = true)
    (a_is_whole : PySem.W.nsIn K mainGlobals "is_whole" = some (some (.ref f_is_whole)))
    (l_is_whole : K.lookup f_is_whole = some ⟨oc17, od17, .func (PySem.W.fnOf "is_whole" "is_whole" (defArgs s_is_whole) (defBody s_is_whole) (defScope s_is_whole) .none kV17 dc17 pm17 an17 cd17 ct17), sl17⟩)
    (c_is_whole : PySem.W.codeIn K cd17 "is_whole" = true)
    (k_is_whole : PySem.W.keepIn K (.ref f_is_whole) = true)
    (a_meant : PySem.W.nsIn K mainGlobals "meant" = some (some (.ref f_meant)))
    (tk_meant : TabK K c_meant P_meant)
    (l_meant : K.lookup f_meant = some ⟨oc18, od18, .func (PySem.W.fnOf "meant" "meant" (defArgs s_meant) (defBody s_meant) (defScope s_meant) .none kV18 dc18 pm18 an18 (.ref c_meant) ct18), sl18⟩)
    (c_meant : PySem.W.codeIn K (.ref c_meant) "meant" = true)
    (k_meant : PySem.W.keepIn K (.ref f_meant) = true)
    (a_cost : PySem.W.nsIn K mainGlobals "cost" = some (some (.ref f_cost)))
    (l_cost : K.lookup f_cost = some ⟨oc19, od19, .func (PySem.W.fnOf "cost" "cost" (defArgs s_cost) (defBody s_cost) (defScope s_cost) .none kV19 dc19 pm19 an19 cd19 ct19), sl19⟩)
    (c_cost : PySem.W.codeIn K cd19 "cost" = true)
    (k_cost : PySem.W.keepIn K (.ref f_cost) = true)
    (a_plain : PySem.W.nsIn K mainGlobals "plain" = some (some (.ref f_plain)))
    (l_plain : K.lookup f_plain = some ⟨oc20, od20, .func (PySem.W.fnOf "plain" "plain" (defArgs s_plain) (defBody s_plain) (defScope s_plain) .none kV20 dc20 pm20 an20 cd20 ct20), sl20⟩)
    (c_plain : PySem.W.codeIn K cd20 "plain" = true)
    (k_plain : PySem.W.keepIn K (.ref f_plain) = true)
    (a_cell_at : PySem.W.nsIn K mainGlobals "_law_cell_at" = some (some (.ref f_cell_at)))
    (l_cell_at : K.lookup f_cell_at = some ⟨oc21, od21, .func (PySem.W.fnOf "_law_cell_at" "_law_cell_at" (defArgs s_cell_at) (defBody s_cell_at) (defScope s_cell_at) .none kV21 dc21 pm21 an21 cd21 ct21), sl21⟩)
    (c_cell_at : PySem.W.codeIn K cd21 "_law_cell_at" = true)
    (k_cell_at : PySem.W.keepIn K (.ref f_cell_at) = true)
    (a_mixed : PySem.W.nsIn K mainGlobals "_law_mixed" = some (some (.ref f_mixed)))
    (l_mixed : K.lookup f_mixed = some ⟨oc22, od22, .func (PySem.W.fnOf "_law_mixed" "_law_mixed" (defArgs s_mixed) (defBody s_mixed) (defScope s_mixed) .none kV22 dc22 pm22 an22 cd22 ct22), sl22⟩)
    (c_mixed : PySem.W.codeIn K cd22 "_law_mixed" = true)
    (k_mixed : PySem.W.keepIn K (.ref f_mixed) = true)
    (a_sign : PySem.W.nsIn K mainGlobals "_law_sign" = some (some (.ref f_sign)))
    (l_sign : K.lookup f_sign = some ⟨oc23, od23, .func (PySem.W.fnOf "_law_sign" "_law_sign" (defArgs s_sign) (defBody s_sign) (defScope s_sign) .none kV23 dc23 pm23 an23 cd23 ct23), sl23⟩)
    (c_sign : PySem.W.codeIn K cd23 "_law_sign" = true)
    (k_sign : PySem.W.keepIn K (.ref f_sign) = true)
    (a_rows : PySem.W.nsIn K mainGlobals "_law_rows" = some (some (.ref f_rows)))
    (l_rows : K.lookup f_rows = some ⟨oc24, od24, .func (PySem.W.fnOf "_law_rows" "_law_rows" (defArgs s_rows) (defBody s_rows) (defScope s_rows) .none kV24 dc24 pm24 an24 cd24 ct24), sl24⟩)
    (c_rows : PySem.W.codeIn K cd24 "_law_rows" = true)
    (k_rows : PySem.W.keepIn K (.ref f_rows) = true)
    (a_mixed_up : PySem.W.nsIn K mainGlobals "_law_mixed_up" = some (some (.ref f_mixed_up)))
    (l_mixed_up : K.lookup f_mixed_up = some ⟨oc25, od25, .func (PySem.W.fnOf "_law_mixed_up" "_law_mixed_up" (defArgs s_mixed_up) (defBody s_mixed_up) (defScope s_mixed_up) .none kV25 dc25 pm25 an25 cd25 ct25), sl25⟩)
    (c_mixed_up : PySem.W.codeIn K cd25 "_law_mixed_up" = true)
    (k_mixed_up : PySem.W.keepIn K (.ref f_mixed_up) = true)
    (a_price : PySem.W.nsIn K mainGlobals "_law_price" = some (some (.ref f_price)))
    (l_price : K.lookup f_price = some ⟨oc26, od26, .func (PySem.W.fnOf "_law_price" "_law_price" (defArgs s_price) (defBody s_price) (defScope s_price) .none kV26 dc26 pm26 an26 cd26 ct26), sl26⟩)
    (c_price : PySem.W.codeIn K cd26 "_law_price" = true)
    (k_price : PySem.W.keepIn K (.ref f_price) = true)
    (a_law : PySem.W.nsIn K mainGlobals "law" = some (some (.ref f_law)))
    (l_law : K.lookup f_law = some ⟨oc27, od27, .func (PySem.W.fnOf "law" "law" (defArgs s_law) (defBody s_law) (defScope s_law) .none kV27 dc27 pm27 an27 cd27 ct27), sl27⟩)
    (c_law : PySem.W.codeIn K cd27 "law" = true)
    (k_law : PySem.W.keepIn K (.ref f_law) = true)
    (pg_Row : PySem.W.plainGet K C_Row Str.empty = true)
    (hd_Row : PySem.W.hasDictIn K C_Row = true)
    (po_Row : PySem.W.plainOver K C_Row = true)
    (sa_Row : PySem.W.findIn K (.ref C_Row) "__setattr__" = some (some (.builtin "object.__setattr__")))
    (na_Row_count : PySem.W.findIn K (.ref C_Row) "count" = some none)
    (na_Row_to : PySem.W.findIn K (.ref C_Row) "to" = some none)
    (pg_Take : PySem.W.plainGet K C_Take Str.empty = true)
    (hd_Take : PySem.W.hasDictIn K C_Take = true)
    (po_Take : PySem.W.plainOver K C_Take = true)
    (sa_Take : PySem.W.findIn K (.ref C_Take) "__setattr__" = some (some (.builtin "object.__setattr__")))
    (na_Take_count : PySem.W.findIn K (.ref C_Take) "count" = some none)
    (na_Take_source : PySem.W.findIn K (.ref C_Take) "source" = some none)
    (na_Take_to : PySem.W.findIn K (.ref C_Take) "to" = some none)
    (mk_Take : PySem.W.makesIn K C_Take = true)
    (in_Take : PySem.W.findIn K (.ref C_Take) "__init__" = some (some (.ref f_Take_init)))
    (fn_Take : PySem.W.isFn K (.ref f_Take_init) = true)
    (kp_Take : PySem.W.keepIn K (.ref C_Take) = true)
    (pg_Put : PySem.W.plainGet K C_Put Str.empty = true)
    (hd_Put : PySem.W.hasDictIn K C_Put = true)
    (po_Put : PySem.W.plainOver K C_Put = true)
    (sa_Put : PySem.W.findIn K (.ref C_Put) "__setattr__" = some (some (.builtin "object.__setattr__")))
    (na_Put_count : PySem.W.findIn K (.ref C_Put) "count" = some none)
    (na_Put_signs : PySem.W.findIn K (.ref C_Put) "signs" = some none)
    (na_Put_to : PySem.W.findIn K (.ref C_Put) "to" = some none)
    (mk_Put : PySem.W.makesIn K C_Put = true)
    (in_Put : PySem.W.findIn K (.ref C_Put) "__init__" = some (some (.ref f_Put_init)))
    (fn_Put : PySem.W.isFn K (.ref f_Put_init) = true)
    (kp_Put : PySem.W.keepIn K (.ref C_Put) = true)
    (ma_Put_cost : PySem.W.findIn K (.ref C_Put) "cost" = some (some (.ref f_Put_cost)))
    (mf_Put_cost : PySem.W.isFn K (.ref f_Put_cost) = true)
    (mp_Put_cost : PySem.W.keepIn K (.ref f_Put_cost) = true)
    (ma_Put_covered : PySem.W.findIn K (.ref C_Put) "covered" = some (some (.ref f_Row_covered)))
    (mf_Put_covered : PySem.W.isFn K (.ref f_Row_covered) = true)
    (mp_Put_covered : PySem.W.keepIn K (.ref f_Row_covered) = true)
    (ma_Put_sign_for : PySem.W.findIn K (.ref C_Put) "sign_for" = some (some (.ref f_Put_sign_for)))
    (mf_Put_sign_for : PySem.W.isFn K (.ref f_Put_sign_for) = true)
    (mp_Put_sign_for : PySem.W.keepIn K (.ref f_Put_sign_for) = true)
    (ma_Take_cost : PySem.W.findIn K (.ref C_Take) "cost" = some (some (.ref f_Take_cost)))
    (mf_Take_cost : PySem.W.isFn K (.ref f_Take_cost) = true)
    (mp_Take_cost : PySem.W.keepIn K (.ref f_Take_cost) = true)
    (ma_Take_covered : PySem.W.findIn K (.ref C_Take) "covered" = some (some (.ref f_Row_covered)))
    (mf_Take_covered : PySem.W.isFn K (.ref f_Row_covered) = true)
    (mp_Take_covered : PySem.W.keepIn K (.ref f_Row_covered) = true)
    (ma_Take_sign_for : PySem.W.findIn K (.ref C_Take) "sign_for" = some (some (.ref f_Take_sign_for)))
    (mf_Take_sign_for : PySem.W.isFn K (.ref f_Take_sign_for) = true)
    (mp_Take_sign_for : PySem.W.keepIn K (.ref f_Take_sign_for) = true)
    (ma_Take_source_for : PySem.W.findIn K (.ref C_Take) "source_for" = some (some (.ref f_Take_source_for)))
    (mf_Take_source_for : PySem.W.isFn K (.ref f_Take_source_for) = true)
    (mp_Take_source_for : PySem.W.keepIn K (.ref f_Take_source_for) = true)
    (bs_Row_init : PySem.W.specialIn K (.ref C_Row) "__getattribute__" = some (some (.builtin "type.__getattribute__")))
    (br_Row_init : PySem.W.readsIn K C_Row (.type "type") = true)
    (bf_Row_init : PySem.W.findCls K (.ref C_Row) (.type "type") "__init__" = some (.val (.ref f_Row_init)))
    (bk_Row_init : PySem.W.keepIn K (.ref f_Row_init) = true)
    (n_abs : PySem.W.nsIn K mainGlobals "abs" = some none)
    (n_all : PySem.W.nsIn K mainGlobals "all" = some none)
    (n_bool : PySem.W.nsIn K mainGlobals "bool" = some none)
    (n_int : PySem.W.nsIn K mainGlobals "int" = some none)
    (n_isinstance : PySem.W.nsIn K mainGlobals "isinstance" = some none)
    (n_len : PySem.W.nsIn K mainGlobals "len" = some none)
    (n_list : PySem.W.nsIn K mainGlobals "list" = some none)
    (n_range : PySem.W.nsIn K mainGlobals "range" = some none)
    (n_sum : PySem.W.nsIn K mainGlobals "sum" = some none)
    (n_tuple : PySem.W.nsIn K mainGlobals "tuple" = some none)
    : ∃ fd : FuncData, (∀ (s : Shared) (v : Value), BindsTo s fd ⟨[v], []⟩ [("_law_script", v)]) ∧ ∀ base : Heap, K.In base → base.Ns mainGlobals mg → FnOk l.prog w K mg base CX0 7 fa fd ["_law_script"] (sp_law K) := by
  have e := hfa.symm.trans (PySem.W.mg_of X G a_law)
  have e2 : f_law = fa := by injection e with e; injection e with e; exact e.symm
  subst e2
  have F_Row_init := fun_mk (st := s_Row_init) l_Row_init c_Row_init k_Row_init
  have b_Row_init := F_Row_init.binds (ps := ["self", "to"]) fun _ _ _ _ _ _ us hl => match us, hl with | [_, _], _ => rfl
  have F_Row_covered := fun_mk (st := s_Row_covered) l_Row_covered c_Row_covered k_Row_covered
  have b_Row_covered := F_Row_covered.binds (ps := ["self"]) fun _ _ _ _ _ _ us hl => match us, hl with | [_], _ => rfl
  have F_Take_init := fun_mk (st := s_Take_init) l_Take_init c_Take_init k_Take_init
  have b_Take_init := F_Take_init.binds (ps := ["self", "to", "start", "count"]) fun _ _ _ _ _ _ us hl => match us, hl with | [_, _, _, _], _ => rfl
  have F_Take_source_for := fun_mk (st := s_Take_source_for) l_Take_source_for c_Take_source_for k_Take_source_for
  have b_Take_source_for := F_Take_source_for.binds (ps := ["self", "cell"]) fun _ _ _ _ _ _ us hl => match us, hl with | [_, _], _ => rfl
  have F_Take_sign_for := fun_mk (st := s_Take_sign_for) l_Take_sign_for c_Take_sign_for k_Take_sign_for
  have b_Take_sign_for := F_Take_sign_for.binds (ps := ["self", "cell", "read"]) fun _ _ _ _ _ _ us hl => match us, hl with | [_, _, _], _ => rfl
  have F_Take_cost := fun_mk (st := s_Take_cost) l_Take_cost c_Take_cost k_Take_cost
  have b_Take_cost := F_Take_cost.binds (ps := ["self"]) fun _ _ _ _ _ _ us hl => match us, hl with | [_], _ => rfl
  have F_Take_told := fun_mk (st := s_Take_told) l_Take_told c_Take_told k_Take_told
  have b_Take_told := F_Take_told.binds (ps := ["self"]) fun _ _ _ _ _ _ us hl => match us, hl with | [_], _ => rfl
  have F_Put_init := fun_mk (st := s_Put_init) l_Put_init c_Put_init k_Put_init
  have b_Put_init := F_Put_init.binds (ps := ["self", "to", "signs"]) fun _ _ _ _ _ _ us hl => match us, hl with | [_, _, _], _ => rfl
  have F_Put_sign_for := fun_mk (st := s_Put_sign_for) l_Put_sign_for c_Put_sign_for k_Put_sign_for
  have b_Put_sign_for := F_Put_sign_for.binds (ps := ["self", "cell", "read"]) fun _ _ _ _ _ _ us hl => match us, hl with | [_, _, _], _ => rfl
  have F_Put_cost := fun_mk (st := s_Put_cost) l_Put_cost c_Put_cost k_Put_cost
  have b_Put_cost := F_Put_cost.binds (ps := ["self"]) fun _ _ _ _ _ _ us hl => match us, hl with | [_], _ => rfl
  have F_Put_told := fun_mk (st := s_Put_told) l_Put_told c_Put_told k_Put_told
  have b_Put_told := F_Put_told.binds (ps := ["self"]) fun _ _ _ _ _ _ us hl => match us, hl with | [_], _ => rfl
  have F_row_of := fun_mk (st := s_row_of) l_row_of c_row_of k_row_of
  have b_row_of := F_row_of.binds (ps := ["told"]) fun _ _ _ _ _ _ us hl => match us, hl with | [_], _ => rfl
  have F_tells_take := fun_mk (st := s_tells_take) l_tells_take c_tells_take k_tells_take
  have b_tells_take := F_tells_take.binds (ps := ["told"]) fun _ _ _ _ _ _ us hl => match us, hl with | [_], _ => rfl
  have F_tells_put := fun_mk (st := s_tells_put) l_tells_put c_tells_put k_tells_put
  have b_tells_put := F_tells_put.binds (ps := ["told"]) fun _ _ _ _ _ _ us hl => match us, hl with | [_], _ => rfl
  have F_are_signs := fun_mk (st := s_are_signs) l_are_signs c_are_signs k_are_signs
  have b_are_signs := F_are_signs.binds (ps := ["signs"]) fun _ _ _ _ _ _ us hl => match us, hl with | [_], _ => rfl
  have F_is_sign := fun_mk (st := s_is_sign) l_is_sign c_is_sign k_is_sign
  have b_is_sign := F_is_sign.binds (ps := ["value"]) fun _ _ _ _ _ _ us hl => match us, hl with | [_], _ => rfl
  have F_is_whole_from := fun_mk (st := s_is_whole_from) l_is_whole_from c_is_whole_from k_is_whole_from
  have b_is_whole_from := F_is_whole_from.binds (ps := ["least", "value"]) fun _ _ _ _ _ _ us hl => match us, hl with | [_, _], _ => rfl
  have F_is_whole := fun_mk (st := s_is_whole) l_is_whole c_is_whole k_is_whole
  have b_is_whole := F_is_whole.binds (ps := ["value"]) fun _ _ _ _ _ _ us hl => match us, hl with | [_], _ => rfl
  have F_meant := fun_mk (st := s_meant) l_meant c_meant k_meant
  have b_meant := F_meant.binds (ps := ["paper", "elder"]) fun _ _ _ _ _ _ us hl => match us, hl with | [_, _], _ => rfl
  have F_cost := fun_mk (st := s_cost) l_cost c_cost k_cost
  have b_cost := F_cost.binds (ps := ["paper"]) fun _ _ _ _ _ _ us hl => match us, hl with | [_], _ => rfl
  have F_plain := fun_mk (st := s_plain) l_plain c_plain k_plain
  have b_plain := F_plain.binds (ps := ["old", "newer"]) fun _ _ _ _ _ _ us hl => match us, hl with | [_, _], _ => rfl
  have F_cell_at := fun_mk (st := s_cell_at) l_cell_at c_cell_at k_cell_at
  have b_cell_at := F_cell_at.binds (ps := ["_law_script", "_law_k"]) fun _ _ _ _ _ _ us hl => match us, hl with | [_, _], _ => rfl
  have F_mixed := fun_mk (st := s_mixed) l_mixed c_mixed k_mixed
  have b_mixed := F_mixed.binds (ps := ["_law_cell", "_law_k"]) fun _ _ _ _ _ _ us hl => match us, hl with | [_, _], _ => rfl
  have F_sign := fun_mk (st := s_sign) l_sign c_sign k_sign
  have b_sign := F_sign.binds (ps := ["_law_cell", "_law_k"]) fun _ _ _ _ _ _ us hl => match us, hl with | [_, _], _ => rfl
  have F_rows := fun_mk (st := s_rows) l_rows c_rows k_rows
  have b_rows := F_rows.binds (ps := ["_law_elder", "_law_cells"]) fun _ _ _ _ _ _ us hl => match us, hl with | [_, _], _ => rfl
  have F_mixed_up := fun_mk (st := s_mixed_up) l_mixed_up c_mixed_up k_mixed_up
  have b_mixed_up := F_mixed_up.binds (ps := ["_law_rows_here", "_law_cell"]) fun _ _ _ _ _ _ us hl => match us, hl with | [_, _], _ => rfl
  have F_price := fun_mk (st := s_price) l_price c_price k_price
  have b_price := F_price.binds (ps := ["_law_rows_here"]) fun _ _ _ _ _ _ us hl => match us, hl with | [_], _ => rfl
  have F_law := fun_mk (st := s_law) l_law c_law k_law
  have b_law := F_law.binds (ps := ["_law_script"]) fun _ _ _ _ _ _ us hl => match us, hl with | [_], _ => rfl
  have T : Txt K mg { f_Row_init := f_Row_init, f_Row_covered := f_Row_covered, f_Take_init := f_Take_init, f_Take_source_for := f_Take_source_for, f_Take_sign_for := f_Take_sign_for, f_Take_cost := f_Take_cost, f_Take_told := f_Take_told, f_Put_init := f_Put_init, f_Put_sign_for := f_Put_sign_for, f_Put_cost := f_Put_cost, f_Put_told := f_Put_told, f_row_of := f_row_of, f_tells_take := f_tells_take, f_tells_put := f_tells_put, f_are_signs := f_are_signs, f_is_sign := f_is_sign, f_is_whole_from := f_is_whole_from, f_is_whole := f_is_whole, f_meant := f_meant, f_cost := f_cost, f_plain := f_plain, f_cell_at := f_cell_at, f_mixed := f_mixed, f_sign := f_sign, f_rows := f_rows, f_mixed_up := f_mixed_up, f_price := f_price, f_law := f_law, d_Row_init := _, d_Row_covered := _, d_Take_init := _, d_Take_source_for := _, d_Take_sign_for := _, d_Take_cost := _, d_Take_told := _, d_Put_init := _, d_Put_sign_for := _, d_Put_cost := _, d_Put_told := _, d_row_of := _, d_tells_take := _, d_tells_put := _, d_are_signs := _, d_is_sign := _, d_is_whole_from := _, d_is_whole := _, d_meant := _, d_cost := _, d_plain := _, d_cell_at := _, d_mixed := _, d_sign := _, d_rows := _, d_mixed_up := _, d_price := _, d_law := _, C_Row := C_Row, C_Take := C_Take, C_Put := C_Put } := {
    F_Row_init := F_Row_init
    b_Row_init := b_Row_init
    F_Row_covered := F_Row_covered
    b_Row_covered := b_Row_covered
    F_Take_init := F_Take_init
    b_Take_init := b_Take_init
    F_Take_source_for := F_Take_source_for
    b_Take_source_for := b_Take_source_for
    F_Take_sign_for := F_Take_sign_for
    b_Take_sign_for := b_Take_sign_for
    F_Take_cost := F_Take_cost
    b_Take_cost := b_Take_cost
    F_Take_told := F_Take_told
    b_Take_told := b_Take_told
    F_Put_init := F_Put_init
    b_Put_init := b_Put_init
    F_Put_sign_for := F_Put_sign_for
    b_Put_sign_for := b_Put_sign_for
    F_Put_cost := F_Put_cost
    b_Put_cost := b_Put_cost
    F_Put_told := F_Put_told
    b_Put_told := b_Put_told
    F_row_of := F_row_of
    b_row_of := b_row_of
    m_row_of := PySem.W.mg_of X G a_row_of
    F_tells_take := F_tells_take
    b_tells_take := b_tells_take
    m_tells_take := PySem.W.mg_of X G a_tells_take
    F_tells_put := F_tells_put
    b_tells_put := b_tells_put
    m_tells_put := PySem.W.mg_of X G a_tells_put
    F_are_signs := F_are_signs
    b_are_signs := b_are_signs
    m_are_signs := PySem.W.mg_of X G a_are_signs
    F_is_sign := F_is_sign
    b_is_sign := b_is_sign
    m_is_sign := PySem.W.mg_of X G a_is_sign
    F_is_whole_from := F_is_whole_from
    b_is_whole_from := b_is_whole_from
    m_is_whole_from := PySem.W.mg_of X G a_is_whole_from
    F_is_whole := F_is_whole
    b_is_whole := b_is_whole
    m_is_whole := PySem.W.mg_of X G a_is_whole
    F_meant := F_meant
    b_meant := b_meant
    m_meant := PySem.W.mg_of X G a_meant
    tk_meant := tk_meant
    cd_meant := rfl
    F_cost := F_cost
    b_cost := b_cost
    m_cost := PySem.W.mg_of X G a_cost
    F_plain := F_plain
    b_plain := b_plain
    m_plain := PySem.W.mg_of X G a_plain
    F_cell_at := F_cell_at
    b_cell_at := b_cell_at
    m_cell_at := PySem.W.mg_of X G a_cell_at
    F_mixed := F_mixed
    b_mixed := b_mixed
    m_mixed := PySem.W.mg_of X G a_mixed
    F_sign := F_sign
    b_sign := b_sign
    m_sign := PySem.W.mg_of X G a_sign
    F_rows := F_rows
    b_rows := b_rows
    m_rows := PySem.W.mg_of X G a_rows
    F_mixed_up := F_mixed_up
    b_mixed_up := b_mixed_up
    m_mixed_up := PySem.W.mg_of X G a_mixed_up
    F_price := F_price
    b_price := b_price
    m_price := PySem.W.mg_of X G a_price
    F_law := F_law
    b_law := b_law
    m_Row := PySem.W.mg_of X G aC_Row
    c_Row := ⟨pg_Row, hd_Row, po_Row, sa_Row⟩
    na_Row_count := na_Row_count
    na_Row_to := na_Row_to
    m_Take := PySem.W.mg_of X G aC_Take
    c_Take := ⟨pg_Take, hd_Take, po_Take, sa_Take⟩
    na_Take_count := na_Take_count
    na_Take_source := na_Take_source
    na_Take_to := na_Take_to
    mk_Take := ⟨mk_Take, in_Take, fn_Take, kp_Take⟩
    m_Put := PySem.W.mg_of X G aC_Put
    c_Put := ⟨pg_Put, hd_Put, po_Put, sa_Put⟩
    na_Put_count := na_Put_count
    na_Put_signs := na_Put_signs
    na_Put_to := na_Put_to
    mk_Put := ⟨mk_Put, in_Put, fn_Put, kp_Put⟩
    me_Put_cost := ⟨ma_Put_cost, mf_Put_cost, mp_Put_cost⟩
    me_Put_covered := ⟨ma_Put_covered, mf_Put_covered, mp_Put_covered⟩
    me_Put_sign_for := ⟨ma_Put_sign_for, mf_Put_sign_for, mp_Put_sign_for⟩
    me_Take_cost := ⟨ma_Take_cost, mf_Take_cost, mp_Take_cost⟩
    me_Take_covered := ⟨ma_Take_covered, mf_Take_covered, mp_Take_covered⟩
    me_Take_sign_for := ⟨ma_Take_sign_for, mf_Take_sign_for, mp_Take_sign_for⟩
    me_Take_source_for := ⟨ma_Take_source_for, mf_Take_source_for, mp_Take_source_for⟩
    cm_Row_init := ⟨bs_Row_init, br_Row_init, bf_Row_init, bk_Row_init⟩
    n_abs := PySem.W.mg_none_of X G n_abs
    n_all := PySem.W.mg_none_of X G n_all
    n_bool := PySem.W.mg_none_of X G n_bool
    n_int := PySem.W.mg_none_of X G n_int
    n_isinstance := PySem.W.mg_none_of X G n_isinstance
    n_len := PySem.W.mg_none_of X G n_len
    n_list := PySem.W.mg_none_of X G n_list
    n_range := PySem.W.mg_none_of X G n_range
    n_sum := PySem.W.mg_none_of X G n_sum
    n_tuple := PySem.W.mg_none_of X G n_tuple
  }
  exact ⟨_, fun s v => .of_eq rfl, fun base _ _ => ok_law T⟩
end K25
open PySem PySem.W PyProof.Rows
set_option maxRecDepth 100000 in
set_option maxHeartbeats 0 in
theorem PySem.Challenge.cw_oneroom_k25_meant_and_cost_holds : PySem.Challenge.rw_oneroom_k25_meant_and_cost.Holds := by
  w_on; o_law; k_head; (case hw => w_witness2)
  k_fill
  refine L2.walk_ofC (l := PySem.Challenge.rw_oneroom_k25_meant_and_cost) (n := 63) (k := 7) (x := "_law_script") (CX := L2.CX0) (sp := K25.sp_law) (tabs := [(K25.c_meant, K25.P_meant, K25.qs_meant)]) rfl (by decide) rfl ⟨rfl, by decide, by decide⟩ (fun w h Y => PySem.W.km_in_of Y) (fun w h Y KX => (List.forall_mem_cons.mpr ⟨⟨PySem.W.codeHd_of_K (c := K25.c_meant) (P := K25.P_meant) KX (by kernel_rfl), PySem.W.km_tabs_of Y _ (by decide)⟩, (fun _ z => nomatch z)⟩)) (fun w => by kernel_rfl) (by decide) ?F ?S ?C
  case F =>
    intro w mg fa h KX G hmg
    refine' K25.txt_mk KX G hmg ?aC_Row ?aC_Take ?aC_Put ?a_Row_init ?l_Row_init ?c_Row_init ?k_Row_init ?a_Row_covered ?l_Row_covered ?c_Row_covered ?k_Row_covered ?a_Take_init ?l_Take_init ?c_Take_init ?k_Take_init ?a_Take_source_for ?l_Take_source_for ?c_Take_source_for ?k_Take_source_for ?a_Take_sign_for ?l_Take_sign_for ?c_Take_sign_for ?k_Take_sign_for ?a_Take_cost ?l_Take_cost ?c_Take_cost ?k_Take_cost ?a_Take_told ?l_Take_told ?c_Take_told ?k_Take_told ?a_Put_init ?l_Put_init ?c_Put_init ?k_Put_init ?a_Put_sign_for ?l_Put_sign_for ?c_Put_sign_for ?k_Put_sign_for ?a_Put_cost ?l_Put_cost ?c_Put_cost ?k_Put_cost ?a_Put_told ?l_Put_told ?c_Put_told ?k_Put_told ?a_row_of ?l_row_of ?c_row_of ?k_row_of ?a_tells_take ?l_tells_take ?c_tells_take ?k_tells_take ?a_tells_put ?l_tells_put ?c_tells_put ?k_tells_put ?a_are_signs ?l_are_signs ?c_are_signs ?k_are_signs ?a_is_sign ?l_is_sign ?c_is_sign ?k_is_sign ?a_is_whole_from ?l_is_whole_from ?c_is_whole_from ?k_is_whole_from ?a_is_whole ?l_is_whole ?c_is_whole ?k_is_whole ?a_meant ?tk_meant ?l_meant ?c_meant ?k_meant ?a_cost ?l_cost ?c_cost ?k_cost ?a_plain ?l_plain ?c_plain ?k_plain ?a_cell_at ?l_cell_at ?c_cell_at ?k_cell_at ?a_mixed ?l_mixed ?c_mixed ?k_mixed ?a_sign ?l_sign ?c_sign ?k_sign ?a_rows ?l_rows ?c_rows ?k_rows ?a_mixed_up ?l_mixed_up ?c_mixed_up ?k_mixed_up ?a_price ?l_price ?c_price ?k_price ?a_law ?l_law ?c_law ?k_law ?pg_Row ?hd_Row ?po_Row ?sa_Row ?na_Row_count ?na_Row_to ?pg_Take ?hd_Take ?po_Take ?sa_Take ?na_Take_count ?na_Take_source ?na_Take_to ?mk_Take ?in_Take ?fn_Take ?kp_Take ?pg_Put ?hd_Put ?po_Put ?sa_Put ?na_Put_count ?na_Put_signs ?na_Put_to ?mk_Put ?in_Put ?fn_Put ?kp_Put ?ma_Put_cost ?mf_Put_cost ?mp_Put_cost ?ma_Put_covered ?mf_Put_covered ?mp_Put_covered ?ma_Put_sign_for ?mf_Put_sign_for ?mp_Put_sign_for ?ma_Take_cost ?mf_Take_cost ?mp_Take_cost ?ma_Take_covered ?mf_Take_covered ?mp_Take_covered ?ma_Take_sign_for ?mf_Take_sign_for ?mp_Take_sign_for ?ma_Take_source_for ?mf_Take_source_for ?mp_Take_source_for ?bs_Row_init ?br_Row_init ?bf_Row_init ?bk_Row_init ?n_abs ?n_all ?n_bool ?n_int ?n_isinstance ?n_len ?n_list ?n_range ?n_sum ?n_tuple
    (case aC_Row => k_is)
    (case aC_Take => k_is)
    (case aC_Put => k_is)
    (case a_Row_init => k_is)
    (case l_Row_init => k_is)
    (case c_Row_init => k_is)
    (case k_Row_init => k_is)
    (case a_Row_covered => k_is)
    (case l_Row_covered => k_is)
    (case c_Row_covered => k_is)
    (case k_Row_covered => k_is)
    (case a_Take_init => k_is)
    (case l_Take_init => k_is)
    (case c_Take_init => k_is)
    (case k_Take_init => k_is)
    (case a_Take_source_for => k_is)
    (case l_Take_source_for => k_is)
    (case c_Take_source_for => k_is)
    (case k_Take_source_for => k_is)
    (case a_Take_sign_for => k_is)
    (case l_Take_sign_for => k_is)
    (case c_Take_sign_for => k_is)
    (case k_Take_sign_for => k_is)
    (case a_Take_cost => k_is)
    (case l_Take_cost => k_is)
    (case c_Take_cost => k_is)
    (case k_Take_cost => k_is)
    (case a_Take_told => k_is)
    (case l_Take_told => k_is)
    (case c_Take_told => k_is)
    (case k_Take_told => k_is)
    (case a_Put_init => k_is)
    (case l_Put_init => k_is)
    (case c_Put_init => k_is)
    (case k_Put_init => k_is)
    (case a_Put_sign_for => k_is)
    (case l_Put_sign_for => k_is)
    (case c_Put_sign_for => k_is)
    (case k_Put_sign_for => k_is)
    (case a_Put_cost => k_is)
    (case l_Put_cost => k_is)
    (case c_Put_cost => k_is)
    (case k_Put_cost => k_is)
    (case a_Put_told => k_is)
    (case l_Put_told => k_is)
    (case c_Put_told => k_is)
    (case k_Put_told => k_is)
    (case a_row_of => k_is)
    (case l_row_of => k_is)
    (case c_row_of => k_is)
    (case k_row_of => k_is)
    (case a_tells_take => k_is)
    (case l_tells_take => k_is)
    (case c_tells_take => k_is)
    (case k_tells_take => k_is)
    (case a_tells_put => k_is)
    (case l_tells_put => k_is)
    (case c_tells_put => k_is)
    (case k_tells_put => k_is)
    (case a_are_signs => k_is)
    (case l_are_signs => k_is)
    (case c_are_signs => k_is)
    (case k_are_signs => k_is)
    (case a_is_sign => k_is)
    (case l_is_sign => k_is)
    (case c_is_sign => k_is)
    (case k_is_sign => k_is)
    (case a_is_whole_from => k_is)
    (case l_is_whole_from => k_is)
    (case c_is_whole_from => k_is)
    (case k_is_whole_from => k_is)
    (case a_is_whole => k_is)
    (case l_is_whole => k_is)
    (case c_is_whole => k_is)
    (case k_is_whole => k_is)
    (case a_meant => k_is)
    (case tk_meant => exact L2.tabK_of (by kernel_rfl))
    (case l_meant => k_is)
    (case c_meant => k_is)
    (case k_meant => k_is)
    (case a_cost => k_is)
    (case l_cost => k_is)
    (case c_cost => k_is)
    (case k_cost => k_is)
    (case a_plain => k_is)
    (case l_plain => k_is)
    (case c_plain => k_is)
    (case k_plain => k_is)
    (case a_cell_at => k_is)
    (case l_cell_at => k_is)
    (case c_cell_at => k_is)
    (case k_cell_at => k_is)
    (case a_mixed => k_is)
    (case l_mixed => k_is)
    (case c_mixed => k_is)
    (case k_mixed => k_is)
    (case a_sign => k_is)
    (case l_sign => k_is)
    (case c_sign => k_is)
    (case k_sign => k_is)
    (case a_rows => k_is)
    (case l_rows => k_is)
    (case c_rows => k_is)
    (case k_rows => k_is)
    (case a_mixed_up => k_is)
    (case l_mixed_up => k_is)
    (case c_mixed_up => k_is)
    (case k_mixed_up => k_is)
    (case a_price => k_is)
    (case l_price => k_is)
    (case c_price => k_is)
    (case k_price => k_is)
    (case a_law => k_is)
    (case l_law => k_is)
    (case c_law => k_is)
    (case k_law => k_is)
    (case pg_Row => k_is)
    (case hd_Row => k_is)
    (case po_Row => k_is)
    (case sa_Row => k_is)
    (case na_Row_count => k_is)
    (case na_Row_to => k_is)
    (case pg_Take => k_is)
    (case hd_Take => k_is)
    (case po_Take => k_is)
    (case sa_Take => k_is)
    (case na_Take_count => k_is)
    (case na_Take_source => k_is)
    (case na_Take_to => k_is)
    (case mk_Take => k_is)
    (case in_Take => k_is)
    (case fn_Take => k_is)
    (case kp_Take => k_is)
    (case pg_Put => k_is)
    (case hd_Put => k_is)
    (case po_Put => k_is)
    (case sa_Put => k_is)
    (case na_Put_count => k_is)
    (case na_Put_signs => k_is)
    (case na_Put_to => k_is)
    (case mk_Put => k_is)
    (case in_Put => k_is)
    (case fn_Put => k_is)
    (case kp_Put => k_is)
    (case ma_Put_cost => k_is)
    (case mf_Put_cost => k_is)
    (case mp_Put_cost => k_is)
    (case ma_Put_covered => k_is)
    (case mf_Put_covered => k_is)
    (case mp_Put_covered => k_is)
    (case ma_Put_sign_for => k_is)
    (case mf_Put_sign_for => k_is)
    (case mp_Put_sign_for => k_is)
    (case ma_Take_cost => k_is)
    (case mf_Take_cost => k_is)
    (case mp_Take_cost => k_is)
    (case ma_Take_covered => k_is)
    (case mf_Take_covered => k_is)
    (case mp_Take_covered => k_is)
    (case ma_Take_sign_for => k_is)
    (case mf_Take_sign_for => k_is)
    (case mp_Take_sign_for => k_is)
    (case ma_Take_source_for => k_is)
    (case mf_Take_source_for => k_is)
    (case mp_Take_source_for => k_is)
    (case bs_Row_init => k_is)
    (case br_Row_init => k_is)
    (case bf_Row_init => k_is)
    (case bk_Row_init => k_is)
    (case n_abs => k_is)
    (case n_all => k_is)
    (case n_bool => k_is)
    (case n_int => k_is)
    (case n_isinstance => k_is)
    (case n_len => k_is)
    (case n_list => k_is)
    (case n_range => k_is)
    (case n_sum => k_is)
    (case n_tuple => k_is)
  case S => exact fun K H a ns hl hS hT => ⟨a, ns, rfl, hS, hl, hT _ (.head _), fun _ => rfl⟩
  case C => exact fun _ _ _ _ z => z
#print axioms PySem.Challenge.cw_oneroom_k25_meant_and_cost_holds

