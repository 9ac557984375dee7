import PyProof.Rows.All
import Wide.All
import OpenK.AllK
import Wide.FinOn
import Lean
import PyProof.EqAt
import PyProof.EqKinds
import PyProof.TupleCall
import PySem.Challenge.RW_oneroom_k41_first_fault
set_option Elab.async false
set_option linter.all false
set_option maxRecDepth 100000
/-! THE HAND LAYER, for ints, bools, texts, own classes, LISTS and tuples (index, slices, in, append, pop ..), calls, loops. Paste it whole ahead of your own text; what your proof does not reach may be deleted. -/
namespace L2
open PySem PySem.Spec PyProof.Rows

/-  a key: an int or a str -/
abbrev Key := Sum Int Str
def keyIs : Key → Value → Bool
  | .inl k, v => Value.isInt k v
  | .inr x, v => Value.isStrOf x v
def keyH (w : World) : Key → Int
  | .inl k => hashInt k
  | .inr x => hashStr w x
theorem keyIs_shape : ∀ {k : Key} {v : Value}, keyIs k v = true → (∃ i t, k = Sum.inl i ∧ v = Value.int i t) ∨ (∃ x t, k = Sum.inr x ∧ v = Value.str x t)
  | .inl i, v, h => by
    obtain ⟨t, e⟩ := Value.isInt_shape (k := i) (v := v) h
    exact .inl ⟨i, t, rfl, e⟩
  | .inr x, v, h => by
    obtain ⟨t, e⟩ := Value.isStrOf_shape (x := x) (v := v) h
    exact .inr ⟨x, t, rfl, e⟩
theorem keyIs_int (i : Int) (t : Tok) : keyIs (.inl i) (.int i t) = true := by simp [keyIs, Value.isInt]
theorem keyIs_str (x : Str) (t : Tok) : keyIs (.inr x) (.str x t) = true := by simp [keyIs, Value.isStrOf]
theorem key_ll (a b : Int) : decide ((Sum.inl a : Key) = Sum.inl b) = (a == b) := by
  by_cases e : a = b
  · subst e; simp
  · have h : ¬ (Sum.inl a : Key) = Sum.inl b := fun q => e (Sum.inl.inj q)
    rw [decide_eq_false h]
    exact (beq_eq_false_iff_ne.mpr e).symm
theorem key_rr (a b : Str) : decide ((Sum.inr a : Key) = Sum.inr b) = decide (a = b) := by
  by_cases e : a = b
  · subst e; simp
  · have h : ¬ (Sum.inr a : Key) = Sum.inr b := fun q => e (Sum.inr.inj q)
    rw [decide_eq_false h, decide_eq_false e]
theorem key_lr (a : Int) (b : Str) : decide ((Sum.inl a : Key) = Sum.inr b) = false := decide_eq_false (fun q => nomatch q)
theorem key_rl (a : Str) (b : Int) : decide ((Sum.inr a : Key) = Sum.inl b) = false := decide_eq_false (fun q => nomatch q)

def mixKind (prog : Program) (w : World) : PySem.KeyKind prog w Key where
  is := keyIs
  hash := keyH w
  inj := fun v a b ha hb => by
    rcases keyIs_shape ha with ⟨i, t, rfl, rfl⟩ | ⟨x, t, rfl, rfl⟩
    · rcases keyIs_shape hb with ⟨j, u, rfl, e⟩ | ⟨y, u, rfl, e⟩
      · injection e with e1 _; rw [e1]
      · exact nomatch e
    · rcases keyIs_shape hb with ⟨j, u, rfl, e⟩ | ⟨y, u, rfl, e⟩
      · exact nomatch e
      · injection e with e1 _; rw [e1]
  byValue := fun k v h => by
    rcases keyIs_shape h with ⟨i, t, rfl, rfl⟩ | ⟨x, t, rfl, rfl⟩ <;> rfl
  pyHash := fun hv h => by
    rcases keyIs_shape hv with ⟨i, t, rfl, rfl⟩ | ⟨x, t, rfl, rfl⟩
    · exact wpAny_pyHash_int h
    · exact wpAny_pyHash_str h
  eqBool := fun hu hv h => by
    rcases keyIs_shape hu with ⟨i, t, rfl, rfl⟩ | ⟨x, t, rfl, rfl⟩
    · rcases keyIs_shape hv with ⟨j, u, rfl, rfl⟩ | ⟨y, u, rfl, rfl⟩
      · rw [key_ll] at h; exact wpAny_eqBool_int h
      · rw [key_lr] at h; exact SeqAt.EqAt.int_str i t y u _ _ _ _ h
    · rcases keyIs_shape hv with ⟨j, u, rfl, rfl⟩ | ⟨y, u, rfl, rfl⟩
      · rw [key_rl] at h; exact SeqAt.EqAt.str_int x t j u _ _ _ _ h
      · rw [key_rr] at h; exact wpAny_eqBool_str h
  «strs» := fun k x t v h => by
    rcases keyIs_shape h with ⟨i, u, rfl, e⟩ | ⟨y, u, rfl, e⟩
    · exact nomatch e
    · injection e with e1 _
      subst e1
      cases v <;> rfl

theorem mixKind_int (prog : Program) (w : World) (i : Int) (t : Tok) : (mixKind prog w).is (.inl i) (.int i t) = true := keyIs_int i t
theorem mixKind_str (prog : Program) (w : World) (x : Str) (t : Tok) : (mixKind prog w).is (.inr x) (.str x t) = true := keyIs_str x t
end L2

namespace L2
open PySem PySem.Spec PyProof.Rows

/-  a value, without the heap -/
inductive V where
  | non | bl (b : Bool) | int (i : Int) | str (x : Str) | byt (b : Array UInt8) | flt (b : UInt64) | ref (a : Addr) | ty (n : String)
  deriving DecidableEq

def RelV : V → Value → Prop
  | .non, u => u = Value.none
  | .bl b, u => u = Value.bool b
  | .int i, u => ∃ t, u = Value.int i t
  | .str x, u => ∃ t, u = Value.str x t
  | .byt b, u => ∃ t, u = Value.bytes b t
  | .flt b, u => ∃ t, u = Value.float b t
  | .ref a, u => u = Value.ref a
  | .ty n, u => u = Value.type n

theorem RelV.fn {x y : V} {u : Value} (a : RelV x u) (b : RelV y u) : x = y := by
  cases x <;> simp only [RelV] at a <;> (first | subst a | (obtain ⟨_, rfl⟩ := a)) <;> cases y <;> simp only [RelV] at b <;> first | rfl | (cases b; done) | (cases b; rfl) | (obtain ⟨_, b⟩ := b; cases b; done) | (obtain ⟨_, b⟩ := b; cases b; rfl)
abbrev Vals : List V → List Value → Prop := Paired RelV
theorem Vals.length {xs : List V} {us : List Value} (r : Vals xs us) : xs.length = us.length := Paired.length r
theorem Vals.get : ∀ {xs : List V} {us : List Value} {i : Nat} {x : V}, Vals xs us → xs[i]? = some x → ∃ u, us[i]? = some u ∧ RelV x u
  | _, _, _, _, .nil, e => by simp at e
  | _, _, 0, _, .cons r _, e => by simp at e; subst e; exact ⟨_, rfl, r⟩
  | _, _, i + 1, x, .cons _ t, e => by
    obtain ⟨u, h1, h2⟩ := Vals.get (i := i) (x := x) t (by simpa using e)
    exact ⟨u, by simpa using h1, h2⟩
theorem Vals.append : ∀ {xs ys : List V} {us ws : List Value}, Vals xs us → Vals ys ws → Vals (xs ++ ys) (us ++ ws)
  | _, _, _, _, .nil, s => s
  | _, _, _, _, .cons r t, s => .cons r (Vals.append t s)
theorem Vals.take : ∀ {xs : List V} {us : List Value} (n : Nat), Vals xs us → Vals (xs.take n) (us.take n)
  | _, _, 0, _ => .nil
  | _, _, _ + 1, .nil => .nil
  | _, _, n + 1, .cons r t => .cons r (Vals.take n t)
theorem Vals.drop : ∀ {xs : List V} {us : List Value} (n : Nat), Vals xs us → Vals (xs.drop n) (us.drop n)
  | _, _, 0, r => r
  | _, _, _ + 1, .nil => .nil
  | _, _, n + 1, .cons _ t => Vals.drop n t
def RelO : Option V → Option Value → Prop
  | some v, some u => RelV v u
  | none, none => True
  | _, _ => False
def KV {κ : Type} : List (κ × V) → List (κ × Value) → Prop := Paired fun (p : κ × V) (q : κ × Value) => p.1 = q.1 ∧ RelV p.2 q.2

/-  a key of a dict (00_mix): an int or a text -/
def kV : Key → V
  | .inl i => .int i
  | .inr x => .str x

/-  what stands at a tracked address -/
inductive HO where
  /-- a list -/
  | lst (xs : List V)
  /-- a tuple (never changes) -/
  | tup (xs : List V)
  /-- a dict whose keys are ints and texts; one whose keys are tuples of ints and texts (the empty one is both) -/
  | dK (kvs : List (Key × V)) | dT (kvs : List (List Key × V))
  /-- a set of ints: its members, its size -/
  | set (S : Int → Bool) (n : Nat)
  /-- an instance of the class at C, its dict at dx, its attributes -/
  | ins (C dx : Addr) (fs : List (Str × V))
  /-- the dict of the instance at x -/
  | own (x : Addr)
  /-- the dict of an exception -/
  | xd (fs : List (Str × V))
  /-- a bound method, f of x -/
  | met (f x : Addr)
  /-- a range object lo, lo + 1, .. below hi -/
  | rng (lo hi : Int)
  /-- a thing that is known to the object (the script; a dict while a loop walks it): read, never written while it is so -/
  | frz (o : Obj) (u : HO)
  /-- a code object's table -/
  | tbl (qs : List (Pos × Str))
  | cel (v : Option V)
  /-- any other thing, by what is true of its one object (a def of one's own: SetO a S n := HO.ext fun h => ..) -/
  | ext (φ : Heap → Prop)

abbrev Hp := Addr → Option HO
def upd (H : Hp) (a : Addr) (o : HO) : Hp := fun b => if b = a then some o else H b
theorem upd_same {H : Hp} {a : Addr} {o : HO} : upd H a o a = some o := by unfold upd; rw [if_pos rfl]
theorem upd_ne {H : Hp} {a b : Addr} {o : HO} (h : b ≠ a) : upd H a o b = H b := by unfold upd; rw [if_neg h]
theorem upd_upd {H : Hp} {a : Addr} {o u : HO} : upd (upd H a o) a u = upd H a u := by
  funext b; unfold upd; split <;> rfl
/-  two objects of different content stand apart -/
theorem ne_of {H : Hp} {a b : Addr} {o u : HO} (h : H a = some o) (h' : H b = some u) (d : o ≠ u) : a ≠ b := by
  intro e; subst e; rw [h] at h'; exact d (Option.some.inj h')
theorem ne_of_none {H : Hp} {a b : Addr} {o : HO} (h : H a = some o) (h' : H b = none) : a ≠ b := by
  intro e; subst e; rw [h] at h'; cases h'

section
variable (P : Program) (w : World)
def ObjOk (H : Hp) (h : Heap) (a : Addr) : HO → Prop
  | .lst xs => xs.length ≤ sizeLine ∧ ∃ (its : List Value) (n : Nat), Vals xs its ∧ h.get? a = some { cls := .type "list", data := .seq its.toArray n }
  | .tup xs => xs.length ≤ sizeLine ∧ ∃ its : List Value, Vals xs its ∧ IsTup h a its.toArray
  | .dK kvs => kvs.length ≤ sizeLine ∧ (a == sysModules) = false ∧ ∃ vs, KV kvs vs ∧ h.DictOf (mixKind P w) a vs
  | .dT kvs => kvs.length ≤ sizeLine ∧ (a == sysModules) = false ∧ ∃ xs : List (List Key × Addr × Value),
      Paired (fun (p : List Key × V) (q : List Key × Addr × Value) => p.1 = q.1 ∧ H q.2.1 = some (.tup (p.1.map kV)) ∧ RelV p.2 q.2.2) kvs xs ∧
      ∃ o es ep, h.get? a = some o ∧ o.ExactDict ∧ o.data = .dict es ep ∧ es.toList = xs.map (entryOfKey (tupleKind (mixKind P w))) ∧ (xs.map (·.1)).Nodup
  | .set S n => h.SetOf (intKind P w) a S n
  | .ins C dx fs => H dx = some (.own a) ∧ fs.length ≤ 1000 ∧ dx ≠ a ∧ h.get? a = some (PySem.W.instObj C dx) ∧
      ∃ mA, h.Ns1 dx mA ∧ (∀ f, RelO (fs.lookup f) (mA f)) ∧ PySem.Within mA (fs.map (·.1))
  | .own _ => ∃ o, h.get? a = some o
  | .xd fs => ∃ mA, h.Ns1 a mA ∧ ∀ f, RelO (fs.lookup f) (mA f)
  | .rng lo hi => ∃ t u v, h.get? a = some { cls := .type "range", data := .fields #[.int lo t, .int hi u, .int 1 v] }
  | .frz o u => h.get? a = some o ∧ ObjOk H h a u
  | .tbl qs => ∃ ps : Array Value, h.get? a = some { cls := .none, data := .fields ps } ∧ TriplesOk ps.toList ∧ ∀ pos q, (pos, q) ∈ qs →
      codeAmong pos ps.toList = none ∨ ∃ c o u vs t, codeAmong pos ps.toList = some (.ref c) ∧ H c = some (.frz o u) ∧ o.data = .fields vs ∧ vs[1]? = some (.str q t)
  | .cel v => ∃ u, h.IsCell a u ∧ ∀ x, v = some x → ∃ y, u = some y ∧ RelV x y
  | .met f x => h.get? a = some (PySem.W.methodObj (.ref f) (.ref x))
  | .ext φ => φ h ∧ (∃ o, h.get? a = some o) ∧ ∀ h1 h2 : Heap, φ h1 → (∀ o, h1.get? a = some o → h2.get? a = some o) → φ h2
/-  the abstract heap is held -/
def HOk (H : Hp) (h : Heap) : Prop := ∀ a o, H a = some o → ObjOk P w H h a o
end

section
variable {P : Program} {w : World} {H H' : Hp} {h h' : Heap} {a : Addr} {o : HO}
def Rely : HO → Prop
  | .tup _ => True
  | .frz _ _ => True
  | _ => False
def Fix : HO → Prop
  | .tup _ => True
  | .frz _ _ => True
  | .tbl _ => True
  | .cel _ => True
  | _ => False
theorem ObjOk.lt (x : ObjOk P w H h a o) : a < h.objs.size := by
  cases o with
  | lst xs => obtain ⟨_, _, _, _, e⟩ := x; exact Heap.lt_size e
  | tup xs => obtain ⟨_, _, _, p⟩ := x; exact p.lt
  | dK kvs => obtain ⟨_, _, _, _, o, _, _, e, _⟩ := x; exact Heap.lt_size e
  | dT kvs => obtain ⟨_, _, _, _, o, _, _, e, _⟩ := x; exact Heap.lt_size e
  | set S n => obtain ⟨o, _, _, _, e, _⟩ := x; exact Heap.lt_size e
  | ins C dx fs => obtain ⟨_, _, _, e, _⟩ := x; exact Heap.lt_size e
  | own y => obtain ⟨_, e⟩ := x; exact Heap.lt_size e
  | xd fs => obtain ⟨_, ⟨_, _, _, e, _⟩, _⟩ := x; exact Heap.lt_size e
  | rng lo hi => obtain ⟨_, _, _, e⟩ := x; exact Heap.lt_size e
  | frz ob u => obtain ⟨e, _⟩ := x; exact Heap.lt_size e
  | tbl qs => obtain ⟨_, e, _⟩ := x; exact Heap.lt_size e
  | cel v => obtain ⟨_, ⟨_, e, _⟩, _⟩ := x; exact Heap.lt_size e
  | met f y => exact Heap.lt_size (show h.get? a = some _ from x)
  | ext φ => obtain ⟨_, ⟨_, e⟩, _⟩ := x; exact Heap.lt_size e
theorem Paired.mapP {α β : Type} {F G : α → β → Prop} : ∀ {l₁ : List α} {l₂ : List β}, Paired F l₁ l₂ → (∀ a b, F a b → G a b) → Paired G l₁ l₂
  | _, _, .nil, _ => .nil
  | _, _, .cons r t, f => .cons (f _ _ r) (Paired.mapP t f)
theorem Paired.imp' {α β : Type} {F G : α → β → Prop} (f : ∀ a b, F a b → G a b) {l₁ : List α} {l₂ : List β} (r : Paired F l₁ l₂) : Paired G l₁ l₂ := Paired.mapP r f
/-  what an object's description leans on: its own object, its own dict, the tuples -/
theorem ObjOk.stay (x : ObjOk P w H h a o) (k : ∀ b u, (b = a ∨ H b = some (.own a)) → h.get? b = some u → h'.get? b = some u)
    (ho : ∀ b, H b = some (.own a) → H' b = some (.own a)) (ht : ∀ b u, H b = some u → Rely u → H' b = some u) : ObjOk P w H' h' a o := by
  induction o with
  | lst xs => obtain ⟨z, its, n, r, e⟩ := x; exact ⟨z, its, n, r, k _ _ (.inl rfl) e⟩
  | tup xs => obtain ⟨z, its, r, ob, e, c⟩ := x; exact ⟨z, its, r, ob, k _ _ (.inl rfl) e, c⟩
  | dK kvs => obtain ⟨z, y, vs, r, ob, es, ep, e, c⟩ := x; exact ⟨z, y, vs, r, ob, es, ep, k _ _ (.inl rfl) e, c⟩
  | dT kvs =>
    obtain ⟨z, y, xs, r, ob, es, ep, e, c⟩ := x
    exact ⟨z, y, xs, Paired.mapP r fun p q z => ⟨z.1, ht _ _ z.2.1 trivial, z.2.2⟩, ob, es, ep, k _ _ (.inl rfl) e, c⟩
  | set S n => obtain ⟨ob, es, ep, t, e, c⟩ := x; exact ⟨ob, es, ep, t, k _ _ (.inl rfl) e, c⟩
  | ins C dx fs =>
    obtain ⟨d, z, ne, e, mA, ⟨od, es, ep, e2, c⟩, r⟩ := x
    exact ⟨ho _ d, z, ne, k _ _ (.inl rfl) e, mA, ⟨od, es, ep, k _ _ (.inr d) e2, c⟩, r⟩
  | own y => obtain ⟨ob, e⟩ := x; exact ⟨ob, k _ _ (.inl rfl) e⟩
  | xd fs => obtain ⟨mA, ⟨od, es, ep, e, c⟩, r⟩ := x; exact ⟨mA, ⟨od, es, ep, k _ _ (.inl rfl) e, c⟩, r⟩
  | rng lo hi => obtain ⟨t, u, v, e⟩ := x; exact ⟨t, u, v, k _ _ (.inl rfl) e⟩
  | frz ob u ih => obtain ⟨e, q⟩ := x; exact ⟨k _ _ (.inl rfl) e, ih q⟩
  | tbl qs =>
    obtain ⟨ps, e, tr, r⟩ := x
    refine ⟨ps, k _ _ (.inl rfl) e, tr, fun pos q m => ?_⟩
    rcases r pos q m with z | ⟨c, ob, u, vs, t, z1, z2, z3⟩
    · exact .inl z
    · exact .inr ⟨c, ob, u, vs, t, z1, ht _ _ z2 trivial, z3⟩
  | cel v => obtain ⟨u, ⟨ob, e, d⟩, r⟩ := x; exact ⟨u, ⟨ob, k _ _ (.inl rfl) e, d⟩, r⟩
  | met f y =>
    have e : h.get? a = some (PySem.W.methodObj (.ref f) (.ref y)) := x
    show h'.get? a = some (PySem.W.methodObj (.ref f) (.ref y))
    exact k a _ (.inl rfl) e
  | ext φ => obtain ⟨p, ⟨o, e⟩, st⟩ := x; exact ⟨st _ _ p fun o q => k _ _ (.inl rfl) q, ⟨o, k _ _ (.inl rfl) e⟩, st⟩
theorem HOk.lt (x : HOk P w H h) (e : H a = some o) : a < h.objs.size := (x a o e).lt
theorem HOk.fresh (x : HOk P w H h) (e : h.objs.size ≤ a) : H a = none := by
  cases q : H a with
  | none => rfl
  | some u => exact absurd (Nat.lt_of_lt_of_le (x.lt q) e) (Nat.lt_irrefl _)
/-  every object of the heap is kept -/
theorem HOk.kept (x : HOk P w H h) (k : ∀ b u, h.get? b = some u → h'.get? b = some u) : HOk P w H h' := fun a o e =>
  (x a o e).stay (fun b u _ q => k b u q) (fun _ q => q) fun _ _ q _ => q
/-  a new object is laid and tracked -/
theorem HOk.laid (x : HOk P w H h) (k : ∀ b u, h.get? b = some u → h'.get? b = some u) (hp : h.objs.size ≤ a) (new : ObjOk P w (upd H a o) h' a o) : HOk P w (upd H a o) h' := fun b u e => by
  have hn := x.fresh hp
  by_cases hb : b = a
  · subst hb; rw [upd_same] at e; cases e; exact new
  · rw [upd_ne hb] at e
    exact (x b u e).stay (fun c v _ q => k c v q) (fun c q => by rw [upd_ne (ne_of_none q hn)]; exact q) fun c xs q _ => by rw [upd_ne (ne_of_none q hn)]; exact q
end

/-  what may be read as u: it is u, or a known u -/
def Rd (H : Hp) (a : Addr) (u : HO) : Prop := H a = some u ∨ ∃ o, H a = some (.frz o u)
theorem Rd.ok {P : Program} {w : World} {H : Hp} {h : Heap} {a : Addr} {u : HO} (r : Rd H a u) (x : HOk P w H h) : ObjOk P w H h a u := by
  rcases r with r | ⟨o, r⟩
  · exact x a u r
  · obtain ⟨_, q⟩ := x a _ r
    exact q
/-  what may be written -/
def Mut : Option HO → Prop
  | some (.lst _) => True
  | some (.dK _) => True
  | some (.dT _) => True
  | some (.set _ _) => True
  | some (.ins _ _ _) => True
  | some (.ext _) => True
  | _ => False
section
variable {P : Program} {w : World} {H : Hp} {h h' : Heap} {x e : Addr} {o' : HO}
/-  the object at e is changed: x itself, or the dict of the instance x -/
theorem HOk.write (ok : HOk P w H h) (mu : Mut (H x)) (he : e = x ∨ H e = some (.own x)) (k : ∀ b u, b ≠ e → h.get? b = some u → h'.get? b = some u) (heo : ∃ u, h'.get? e = some u)
    (new : ObjOk P w (upd H x o') h' x o') : HOk P w (upd H x o') h' := fun b u q => by
  have nown : ∀ c y, H c = some (.own y) → c ≠ x := fun c y r z => by subst z; rw [r] at mu; exact mu
  have ntup : ∀ c u, H c = some u → Rely u → c ≠ x := fun c u r hf z => by
    subst z; rw [r] at mu
    cases u <;> first | exact mu | exact hf
  by_cases hb : b = x
  · subst hb; rw [upd_same] at q; cases q; exact new
  · rw [upd_ne hb] at q
    by_cases hbe : b = e
    · have q' : H b = some (.own x) := by
        rcases he with z | z
        · exact absurd (hbe.trans z) hb
        · rw [hbe]; exact z
      rw [q] at q'; cases q'
      obtain ⟨v, hv⟩ := heo
      exact ⟨v, by rw [hbe]; exact hv⟩
    · refine (ok b u q).stay (fun c v hc r => k c v ?_ r) (fun c r => by rw [upd_ne (nown c b r)]; exact r) fun c xs r hf => by rw [upd_ne (ntup c xs r hf)]; exact r
      rcases hc with rfl | hc
      · exact hbe
      · rintro rfl
        rcases he with z | z
        · exact nown c b hc z
        · rw [hc] at z; cases z; exact hb rfl
end

/-! ### kept unless tracked; of the frames at fs (the callers') the slots may change (an exception that passes writes there); of the records at ex (iterators) nothing is said -/
structure Un (fs ex : List Addr) (H H' : Hp) (h h' : Heap) : Prop where
  keep : ∀ b o, h.get? b = some o → H b = none → b ∉ fs → b ∉ ex → h'.get? b = some o
  slot : ∀ b o, h.get? b = some o → H b = none → b ∈ fs → b ∉ ex → ∃ sl, h'.get? b = some { o with slots := sl }
  free : ∀ b o, h.get? b = some o → H b = none → b ∉ ex → H' b = none
  there : ∀ b o, h.get? b = some o → b ∉ ex → ∃ o', h'.get? b = some o'
  fix : ∀ b u, H b = some u → Fix u → H' b = some u
section
variable {fs fs' ex ex' : List Addr} {H H1 H2 : Hp} {h h1 h2 h' : Heap} {a x e : Addr} {o : HO}
theorem Un.any (u : Un fs ex H H1 h h1) {b : Addr} {ob : Obj} (q : h.get? b = some ob) (n : H b = none) (hx : b ∉ ex) : ∃ sl, h1.get? b = some { ob with slots := sl } := by
  by_cases hb : b ∈ fs
  · exact u.slot b ob q n hb hx
  · exact ⟨ob.slots, u.keep b ob q n hb hx⟩
theorem Un.kept (k : ∀ b u, h.get? b = some u → h'.get? b = some u) : Un fs ex H H h h' :=
  ⟨fun b ob q _ _ _ => k b ob q, fun b ob q _ _ _ => ⟨ob.slots, k b ob q⟩, fun _ _ _ n _ => n, fun b ob q _ => ⟨ob, k b ob q⟩, fun _ _ q _ => q⟩
theorem Un.refl : Un fs ex H H h h := Un.kept fun _ _ q => q
theorem Un.laid (k : ∀ b u, h.get? b = some u → h'.get? b = some u) (hp : h.objs.size ≤ a) (hn : H a = none) : Un fs ex H (upd H a o) h h' where
  keep := fun b u q _ _ _ => k b u q
  slot := fun b u q _ _ _ => ⟨u.slots, k b u q⟩
  free := fun b u q n _ => by rw [upd_ne (Nat.ne_of_lt (Nat.lt_of_lt_of_le (Heap.lt_size q) hp))]; exact n
  there := fun b u q _ => ⟨u, k b u q⟩
  fix := fun b u q _ => by rw [upd_ne (ne_of_none q hn)]; exact q
theorem Un.write (mu : Mut (H x)) (he : e = x ∨ H e = some (.own x)) (k : ∀ b u, b ≠ e → h.get? b = some u → h'.get? b = some u) (heo : ∃ u, h'.get? e = some u) : Un fs ex H (upd H x o) h h' := by
  have hx : ∀ b, H b = none → b ≠ x := fun b n z => by subst z; rw [n] at mu; exact mu
  have hb : ∀ b, H b = none → b ≠ e := fun b n z => by
    subst z
    rcases he with r | r
    · exact hx b n r
    · rw [n] at r; cases r
  have hm : ∀ b u, H b = some u → ¬ Mut (some u) → b ≠ x := fun b u q nm z => by subst z; rw [q] at mu; exact nm mu
  refine ⟨fun b u q n _ _ => k b u (hb b n) q, fun b u q n _ _ => ⟨u.slots, k b u (hb b n) q⟩, fun b u q n _ => by rw [upd_ne (hx b n)]; exact n, fun b u q _ => ?_,
    fun b u q hf => by rw [upd_ne (hm b _ q fun z => by cases u <;> first | exact z | exact hf)]; exact q⟩
  by_cases hbe : b = e
  · subst hbe; exact heo
  · exact ⟨u, k b u hbe q⟩
end

/-! ### the heap without what is tracked -/
def trk (h : Heap) (H : Hp) : List Addr := (List.range h.objs.size).filter fun a => (H a).isSome
def hidT (h : Heap) (H : Hp) : Heap := PySem.W.hideAll h (trk h H)
theorem hidT_size (h : Heap) (H : Hp) : (hidT h H).objs.size = h.objs.size := PySem.W.hideAll_size _ _
theorem hidT_get {h : Heap} {H : Hp} {b : Addr} {o : Obj} (e : h.get? b = some o) (n : H b = none) : (hidT h H).get? b = some o :=
  PySem.W.hideAll_get _ e fun hm => by
    have q : (H b).isSome = true := (List.mem_filter.mp hm).2
    rw [n] at q; simp at q
theorem of_hidT {h : Heap} {H : Hp} {b : Addr} {o : Obj} (e : (hidT h H).get? b = some o) : h.get? b = some o ∧ H b = none := by
  have e' : h.get? b = some o := PySem.W.of_hideAll (trk h H) e
  refine ⟨e', ?_⟩
  cases q : H b with
  | none => rfl
  | some x =>
    have hm : b ∈ trk h H := List.mem_filter.mpr ⟨List.mem_range.mpr (Heap.lt_size e'), by simp [q]⟩
    have z : (hidT h H).get? b = none := PySem.W.hideAll_none (trk h H) hm
    rw [z] at e; cases e

/-! ### OpenK's ledger, filled with every new object but one -/
/-  behind a rule that changed d alone: all else but the frame is kept -/
end L2

namespace L2
open PySem PySem.Spec PyProof.Rows

/-  the module's facts, over the base: the heap at the law's entry without what is tracked there -/
structure Mod (K : PySem.W.Frag) (mg : Str → Option Value) (base : Heap) : Prop where
  kin : K.In base
  glob : base.Ns mainGlobals mg
  blt : ∃ mb, base.Ns builtinsNs mb ∧ ∀ x : Str, x ≠ "__name__" → mb x = bootBuiltins x
  nolimit : base.NoLimit
  bm : ∃ b o, mg "__builtins__" = some (.ref b) ∧ b ≠ builtinsNs ∧ base.get? b = some o ∧ o.cls = .type "module" ∧ o.dict = some builtinsNs ∧ o.data = .plain

/-  the context: a def's body (or a comprehension's block) running. base: fixed through the whole law; s₀, H₀: the entry; outer: the frames whose slots others may change (a def's callers); stack: all frames that run;
   ex: iterators that were made ahead of the entry and are walked here (a comprehension's); fn: the names whose cells were made at the entry (a def: all; a comprehension's block: its own); calm: not within an except suite; pn: pins that every state bears; xe: what is wanted of an exception that leaves the code -/
structure Cx where
  prog : Program
  w : World
  K : PySem.W.Frag
  mg : Str → Option Value
  base : Heap
  A : Around
  N : List Str
  s₀ : Shared
  H₀ : Hp
  env : Env
  outer : List Env
  stack : List Env
  ex : List Addr
  fn : Str → Bool
  calm : Bool
  pn : List (Addr × Obj)
  xe : Value → Shared → Prop
  cp : Str → Bool
/-  the callers' frames -/
def frs (l : List Env) : List Addr := l.filterMap (·.frame)
abbrev Cx.fs (X : Cx) : List Addr := frs X.outer

def Vis (sc : Scope) (x : Str) : Prop := sc.names.lookup x = some .local ∨ sc.names.lookup x = some .cell ∨ sc.names.lookup x = some .free
def Loc (sc : Scope) (x : Str) : Prop := sc.names.lookup x = some .local ∨ sc.names.lookup x = some .cell
def Look (env : Env) (h : Heap) (m : Str → Option Value) (x : Str) (u : Value) : Prop :=
  (env.kindOf x = some .local ∧ m x = some u) ∨ ((env.kindOf x = some .cell ∨ env.kindOf x = some .free) ∧ ∃ c, env.cells.lookup x = some c ∧ h.IsCell c (some u))

structure Cx.Ok (X : Cx) : Prop where
  mod : Mod X.K X.mg X.base
  kind : X.env.scope.kind = .function
  glob : X.env.globals = mainGlobals
  blt : X.env.builtins = builtinsNs
  above : X.s₀.heap.objs.size ≤ X.env.locals
  inj : ∀ x y c, X.env.cells.lookup x = some c → X.env.cells.lookup y = some c → x = y
  has : ∀ x, (X.env.kindOf x = some .cell ∨ X.env.kindOf x = some .free) → ∃ c, X.env.cells.lookup x = some c
  cab : ∀ x c, X.fn x = true → X.env.cells.lookup x = some c → X.s₀.heap.objs.size ≤ c
  hd : X.calm = true → X.A.handled = none
  frames : X.A.frames = some X.stack
  stk : X.stack = X.outer ∨ (X.stack = X.env :: X.outer ∧ X.env.frame = some X.env.locals)
  exf : ∀ b ∈ X.ex, b ≠ X.env.locals ∧ ∀ x c, X.env.cells.lookup x = some c → c ≠ b
  bs : ∀ b o, X.base.get? b = some o → X.s₀.heap.get? b = some o ∧ X.H₀ b = none
  bsz : X.base.objs.size ≤ X.s₀.heap.objs.size
  noex : ∀ b o, X.base.get? b = some o → b ∉ X.ex
  exfs : ∀ b ∈ X.ex, b ∉ X.fs
  funs : X.s₀.heap.FunFrames X.base X.outer
  frf : ∀ b ∈ X.fs, X.H₀ b = none
  cab2 : ∀ x c, X.cp x = true → X.env.cells.lookup x = some c → X.s₀.heap.objs.size ≤ c
  hz : ∀ b, X.s₀.heap.objs.size ≤ b → X.H₀ b = none

structure Inv (X : Cx) (pins : List (Addr × Obj)) (σ : List (Option V)) (H : Hp) (s : Shared) : Prop where
  ok : X.Ok
  os : s.os = X.s₀.os
  bare : AllBare s.gens
  base : Un X.fs X.ex X.H₀ H X.s₀.heap s.heap
  loc : ∃ m, s.heap.Ns X.env.locals m ∧ ∀ (i : Nat) (x : Str) (v : V), X.N[i]? = some x → σ[i]? = some (some v) → Vis X.env.scope x → ∃ u, RelV v u ∧ Look X.env s.heap m x u
  cell : ∀ x c, X.env.cells.lookup x = some c → ∃ v, s.heap.IsCell c v
  free : H X.env.locals = none
  freeC : ∀ x c, X.env.cells.lookup x = some c → H c = none ∨ (X.fn x = false ∧ ∃ o, H c = some (.cel o) ∧ (o = none → ∀ (i : Nat) v, X.N[i]? = some x → (X.env.kindOf x = some .cell ∨ X.env.kindOf x = some .free) → σ[i]? ≠ some (some v)))
  pin : ∀ p ∈ X.pn ++ pins, s.heap.get? p.1 = some p.2 ∧ H p.1 = none ∧ p.1 ≠ X.env.locals ∧ p.1 ∉ X.fs ∧ ∀ v, p.2.data ≠ .cell v
  hok : HOk X.prog X.w H s.heap
  len : σ.length = X.N.length

section
variable {X : Cx} {pins : List (Addr × Obj)} {σ : List (Option V)} {H H' : Hp} {s : Shared} {h' : Heap}

theorem Cx.Ok.nofr (ok : X.Ok) {b : Addr} {o : Obj} (e : X.base.get? b = some o) : b ∉ X.fs := fun hb => by
  have := (ok.funs.mem hb).1
  rw [e] at this; cases this
theorem Inv.bs (I : Inv X pins σ H s) : ∀ b o, X.base.get? b = some o → s.heap.get? b = some o ∧ H b = none := fun b o e =>
  ⟨I.base.keep b o (I.ok.bs b o e).1 (I.ok.bs b o e).2 (I.ok.nofr e) (I.ok.noex b o e), I.base.free b o (I.ok.bs b o e).1 (I.ok.bs b o e).2 (I.ok.noex b o e)⟩
theorem Inv.bk (I : Inv X pins σ H s) : ∀ b o, X.base.get? b = some o → s.heap.get? b = some o := fun b o e => (I.bs b o e).1
theorem Inv.mod (I : Inv X pins σ H s) : Mod X.K X.mg X.base := I.ok.mod
theorem Inv.kIn (I : Inv X pins σ H s) : X.K.In s.heap := I.ok.mod.kin.keeps I.bk
/-  the frame over the base: for OpenK's rules (K.In X.base is I.mod.kin) -/
theorem Inv.lt (I : Inv X pins σ H s) : X.env.locals < s.heap.objs.size := let ⟨_, hn, _⟩ := I.loc; hn.lt
theorem Inv.sz (I : Inv X pins σ H s) : X.s₀.heap.objs.size ≤ s.heap.objs.size := Nat.le_trans I.ok.above (Nat.le_of_lt I.lt)
theorem Inv.nofs (I : Inv X pins σ H s) {a : Addr} (h : s.heap.objs.size ≤ a) : a ∉ X.fs := fun hb => by
  obtain ⟨_, o, ho, _⟩ := I.ok.funs.mem hb
  exact absurd (Nat.lt_of_lt_of_le (Heap.lt_size ho) (Nat.le_trans I.sz h)) (Nat.lt_irrefl _)
theorem Inv.cne (I : Inv X pins σ H s) : ∀ x c, X.env.cells.lookup x = some c → c ≠ X.env.locals := fun x c e z => by
  obtain ⟨v, o, ho, hd⟩ := I.cell x c e
  obtain ⟨m, ⟨o', es, ep, ho', hd', _⟩, _⟩ := I.loc
  rw [z, ho'] at ho; cases ho; rw [hd'] at hd; cases hd
theorem Inv.funs (I : Inv X pins σ H s) : s.heap.FunFrames X.base X.outer := by
  have all : ∀ (l : List Env), (∀ b ∈ frs l, b ∈ X.fs) → X.s₀.heap.FunFrames X.base l → s.heap.FunFrames X.base l := by
    intro l
    induction l with
    | nil => intro _ _; trivial
    | cons env r ih =>
      intro hs hl
      obtain ⟨hk, ⟨L, o, hf, hn, ho, hd⟩, hr⟩ := hl
      have hL : L ∈ X.fs := hs L (by unfold frs; rw [List.filterMap_cons, hf]; exact List.mem_cons_self)
      obtain ⟨sl, e⟩ := I.base.slot L o ho (I.ok.frf L hL) hL fun z => I.ok.exfs L z hL
      exact ⟨hk, ⟨L, _, hf, hn, e, hd⟩, ih (fun b hb => hs b (by unfold frs; rw [List.filterMap_cons, hf]; exact List.mem_cons_of_mem _ hb)) hr⟩
  exact all X.outer (fun _ hb => hb) I.ok.funs

/-  the frames that run, for a call -/
theorem Inv.stack (I : Inv X pins σ H s) : s.heap.FunFrames X.base X.stack := by
  rcases I.ok.stk with e | ⟨e, hf⟩
  · rw [e]; exact I.funs
  · rw [e]
    obtain ⟨m, hn, _⟩ := I.loc
    refine .cons (by rw [I.ok.kind]; decide) hf hn ?_ I.funs
    exact Heap.get?_none_of_le (Nat.le_trans I.ok.bsz I.ok.above)
theorem Inv.stkSub (I : Inv X pins σ H s) : ∀ b ∈ frs X.stack, b ∈ X.env.locals :: X.fs := fun b hb => by
  rcases I.ok.stk with e | ⟨e, hf⟩
  · rw [e] at hb; exact List.mem_cons_of_mem _ hb
  · rw [e] at hb
    unfold frs at hb
    rw [List.filterMap_cons, hf] at hb
    exact hb
theorem Inv.stkFree (I : Inv X pins σ H s) : ∀ b ∈ frs X.stack, H b = none := fun b hb => by
  rcases List.mem_cons.mp (I.stkSub b hb) with e | hb
  · rw [e]; exact I.free
  · obtain ⟨_, o, ho, _⟩ := I.ok.funs.mem hb
    exact I.base.free b o ho (I.ok.frf b hb) fun z => I.ok.exfs b z hb

/-  THE STEP: the untracked objects but the frame and the records at ch are kept (the callers' frames up to slots), the frame's map is kept, the new abstract heap is held -/
theorem Inv.step {g' : Array GenState} {t' : Nat} {d' : Drawn} {ch : List Addr} (I : Inv X pins σ H s)
    (hch : ∀ b ∈ ch, (b ∈ X.ex ∨ X.s₀.heap.objs.size ≤ b) ∧ b ≠ X.env.locals ∧ (∀ x c, X.env.cells.lookup x = some c → c ≠ b) ∧ ∀ p ∈ X.pn ++ pins, p.1 ≠ b)
    (keep : ∀ b o, b ≠ X.env.locals → b ∉ X.fs → b ∉ ch → s.heap.get? b = some o → H b = none → h'.get? b = some o)
    (slot : ∀ b o, b ≠ X.env.locals → b ∈ X.fs → b ∉ ch → s.heap.get? b = some o → H b = none → ∃ sl, h'.get? b = some { o with slots := sl }) (free : ∀ b o, b ∉ ch → s.heap.get? b = some o → H b = none → H' b = none)
    (there : ∀ b o, b ∉ ch → s.heap.get? b = some o → ∃ o', h'.get? b = some o')
    (fix : ∀ b u, H b = some u → Fix u → H' b = some u)
    (ns : ∀ m, s.heap.Ns X.env.locals m → h'.Ns X.env.locals m) (hok : HOk X.prog X.w H' h') (hg : AllBare g') :
    Inv X pins σ H' { s with heap := h', gens := g', drawn := d', toks := t' } := by
  have neL : ∀ b o, X.s₀.heap.get? b = some o → b ≠ X.env.locals := fun b o e => Nat.ne_of_lt (Nat.lt_of_lt_of_le (Heap.lt_size e) I.ok.above)
  have neC : ∀ b o, X.s₀.heap.get? b = some o → b ∉ X.ex → b ∉ ch := fun b o e hx hb => by
    rcases (hch b hb).1 with z | z
    · exact hx z
    · exact absurd (Nat.lt_of_lt_of_le (Heap.lt_size e) z) (Nat.lt_irrefl _)
  have cellK : ∀ x c, X.env.cells.lookup x = some c → H c = none → ∀ v, s.heap.IsCell c v → h'.IsCell c v := fun x c e hn v ⟨o, ho, hd⟩ => by
    have nch : c ∉ ch := fun z => (hch c z).2.2.1 x c e rfl
    by_cases hc : c ∈ X.fs
    · obtain ⟨sl, q⟩ := slot c o (I.cne x c e) hc nch ho hn
      exact ⟨_, q, hd⟩
    · exact ⟨o, keep c o (I.cne x c e) hc nch ho hn, hd⟩
  refine ⟨I.ok, I.os, hg, ⟨fun b o e n hb hx => ?_, fun b o e n hb hx => ?_, fun b o e n hx => ?_, fun b o e hx => ?_, fun b u e f => fix b u (I.base.fix b u e f) f⟩, ?_, fun x c e => ?_, ?_, fun x c e => ?_, fun p hp => ?_, hok, I.len⟩
  · exact keep b o (neL b o e) hb (neC b o e hx) (I.base.keep b o e n hb hx) (I.base.free b o e n hx)
  · obtain ⟨sl, e1⟩ := I.base.slot b o e n hb hx
    obtain ⟨sl', e2⟩ := slot b _ (neL b o e) hb (neC b o e hx) e1 (I.base.free b o e n hx)
    exact ⟨sl', e2⟩
  · obtain ⟨o', e1⟩ := I.base.there b o e hx
    exact free b o' (neC b o e hx) e1 (I.base.free b o e n hx)
  · obtain ⟨o', e1⟩ := I.base.there b o e hx
    exact there b o' (neC b o e hx) e1
  · obtain ⟨m, hn, hl⟩ := I.loc
    refine ⟨m, ns m hn, fun i x v e1 e2 e3 => ?_⟩
    obtain ⟨u, r, l⟩ := hl i x v e1 e2 e3
    rcases l with l | ⟨k, c, e, z⟩
    · exact ⟨u, r, .inl l⟩
    · rcases I.freeC x c e with hn' | ⟨_, o, ho, hno⟩
      · exact ⟨u, r, .inr ⟨k, c, e, cellK x c e hn' _ z⟩⟩
      · cases o with
        | none => exact absurd e2 (hno rfl i v e1 k)
        | some v' =>
          obtain ⟨y, hy, hr⟩ := I.hok c _ ho
          obtain ⟨y', hy', hr'⟩ := hok c _ (fix c _ ho trivial)
          obtain ⟨y2, rfl, r2⟩ := hr v' rfl
          obtain ⟨y3, rfl, r3⟩ := hr' v' rfl
          have : v = v' := RelV.fn r (by
            obtain ⟨o1, q1, q2⟩ := z
            obtain ⟨o2, q3, q4⟩ := hy
            rw [q1] at q3; cases q3
            rw [q2] at q4; cases q4
            exact r2)
          subst this
          exact ⟨y3, r3, .inr ⟨k, c, e, hy'⟩⟩
  · rcases I.freeC x c e with hn' | ⟨_, o, ho, _⟩
    · obtain ⟨v, z⟩ := I.cell x c e
      exact ⟨v, cellK x c e hn' v z⟩
    · obtain ⟨y', hy', _⟩ := hok c _ (fix c _ ho trivial)
      exact ⟨y', hy'⟩
  · obtain ⟨m, ⟨o, _, _, ho, _⟩, _⟩ := I.loc
    exact free _ o (fun z => (hch _ z).2.1 rfl) ho I.free
  · rcases I.freeC x c e with hn' | ⟨hf, o, ho, hno⟩
    · obtain ⟨v, o, ho, hd⟩ := I.cell x c e
      exact .inl (free c o (fun z => (hch c z).2.2.1 x c e rfl) ho hn')
    · exact .inr ⟨hf, o, fix c _ ho trivial, hno⟩
  · obtain ⟨e, n, ne, nf, d⟩ := I.pin p hp
    have nch : p.1 ∉ ch := fun z => (hch p.1 z).2.2.2 p hp rfl
    exact ⟨keep p.1 p.2 ne nf nch e n, free p.1 p.2 nch e n, ne, nf, d⟩
/-  .. where the frame's own object is kept too -/
theorem Inv.un {t' : Nat} (I : Inv X pins σ H s) (u : Un X.fs [] H H' s.heap h') (hok : HOk X.prog X.w H' h') : Inv X pins σ H' { s with heap := h', toks := t' } := by
  obtain ⟨m, ⟨o, es, ep, ho, r⟩, _⟩ := id I.loc
  obtain ⟨sl, hL⟩ := u.any ho I.free (by simp)
  exact I.step (g' := s.gens) (d' := s.drawn) (ch := []) (fun _ z => nomatch z) (fun b o _ hb _ e n => u.keep b o e n hb (by simp)) (fun b o _ hb _ e n => u.slot b o e n hb (by simp)) (fun b o _ e n => u.free b o e n (by simp)) (fun b o _ e => u.there b o e (by simp)) u.fix (fun m' hm => by
    obtain ⟨o', es', ep', ho', r'⟩ := hm
    rw [ho] at ho'; cases ho'
    exact ⟨_, es', ep', hL, r'⟩) hok I.bare
/-  behind a call (or a comprehension's block): the slots of this frame may have changed too, the records at ch may have turned -/
theorem Inv.call {g' : Array GenState} {t' : Nat} {d' : Drawn} {ch : List Addr} (I : Inv X pins σ H s) (u : Un (frs X.stack) ch H H' s.heap h') (hok : HOk X.prog X.w H' h') (hg : AllBare g')
    (hch : ∀ b ∈ ch, (b ∈ X.ex ∨ X.s₀.heap.objs.size ≤ b) ∧ b ≠ X.env.locals ∧ (∀ x c, X.env.cells.lookup x = some c → c ≠ b) ∧ ∀ p ∈ X.pn ++ pins, p.1 ≠ b) :
    Inv X pins σ H' { s with heap := h', gens := g', drawn := d', toks := t' } := by
  obtain ⟨m, ⟨o, es, ep, ho, r⟩, _⟩ := id I.loc
  obtain ⟨sl, hL⟩ := u.any ho I.free fun z => (hch _ z).2.1 rfl
  exact I.step (ch := ch) hch (fun b o hL hb hc e n => u.keep b o e n (fun z => (List.mem_cons.mp (I.stkSub b z)).elim hL hb) hc) (fun b o _ _ hc e n => u.any e n hc) (fun b o hc e n => u.free b o e n hc) (fun b o hc e => u.there b o e hc) u.fix (fun m' hm => by
    obtain ⟨o', es', ep', ho', r'⟩ := hm
    rw [ho] at ho'; cases ho'
    exact ⟨_, es', ep', hL, r'⟩) hok hg
/-  an untracked record of ours (an iterator) has turned -/
theorem Inv.turned {t' : Nat} {it : Addr} (I : Inv X pins σ H s) (k : ∀ b o, b ≠ it → s.heap.get? b = some o → h'.get? b = some o) (hn : H it = none) (hL : it ≠ X.env.locals)
    (h1 : it ∈ X.ex ∨ X.s₀.heap.objs.size ≤ it) (h2 : ∀ x c, X.env.cells.lookup x = some c → c ≠ it) (h3 : ∀ p ∈ X.pn ++ pins, p.1 ≠ it) : Inv X pins σ H { s with heap := h', toks := t' } := by
  have nit : ∀ b u, H b = some u → b ≠ it := fun b u e z => by rw [z, hn] at e; cases e
  refine I.step (g' := s.gens) (d' := s.drawn) (ch := [it]) (fun b hb => ?_) (fun b o _ _ hc e _ => k b o (fun z => hc (by simp [z])) e) (fun b o _ _ hc e _ => ⟨o.slots, k b o (fun z => hc (by simp [z])) e⟩) (fun _ _ _ _ n => n)
    (fun b o hc e => ⟨o, k b o (fun z => hc (by simp [z])) e⟩) (fun _ _ e _ => e) (fun m hm => ?_) (fun b u e => ?_) I.bare
  · have e : b = it := by simpa using hb
    subst e
    exact ⟨h1, hL, h2, h3⟩
  · obtain ⟨o, es, ep, ho, r⟩ := hm
    exact ⟨o, es, ep, k _ o (Ne.symm hL) ho, r⟩
  · refine (I.hok b u e).stay (fun c v hc q => k c v ?_ q) (fun _ q => q) fun _ _ q _ => q
    rcases hc with z | z
    · rw [z]; exact nit b u e
    · exact nit c _ z
theorem Inv.tok (I : Inv X pins σ H s) (t : Nat) : Inv X pins σ H { s with toks := t } := I.un (h' := s.heap) (t' := t) Un.refl I.hok
/-  all objects kept -/
theorem Inv.kept {t' : Nat} (I : Inv X pins σ H s) (k : ∀ b u, s.heap.get? b = some u → h'.get? b = some u) : Inv X pins σ H { s with heap := h', toks := t' } := I.un (Un.kept k) (I.hok.kept k)
/-  a new object laid and tracked -/
theorem Inv.laid {a : Addr} {o : HO} {t' : Nat} (I : Inv X pins σ H s) (k : ∀ b u, s.heap.get? b = some u → h'.get? b = some u) (hp : s.heap.objs.size ≤ a) (new : ObjOk X.prog X.w (upd H a o) h' a o) :
    Inv X pins σ (upd H a o) { s with heap := h', toks := t' } := I.un (Un.laid k hp (I.hok.fresh hp)) (I.hok.laid k hp new)
/-  an object written -/
theorem Inv.write {x e : Addr} {o : HO} {t' : Nat} (I : Inv X pins σ H s) (mu : Mut (H x)) (he : e = x ∨ H e = some (.own x)) (k : ∀ b u, b ≠ e → s.heap.get? b = some u → h'.get? b = some u) (heo : ∃ u, h'.get? e = some u)
    (new : ObjOk X.prog X.w (upd H x o) h' x o) : Inv X pins σ (upd H x o) { s with heap := h', toks := t' } := I.un (Un.write mu he k heo) (I.hok.write mu he k heo new)
/-  forgetting slots, pins -/
theorem Inv.weak {σ' : List (Option V)} (I : Inv X pins σ H s) (hl : σ'.length = σ.length) (w : ∀ (i : Nat) v, σ'[i]? = some (some v) → σ[i]? = some (some v)) : Inv X pins σ' H s :=
  ⟨I.ok, I.os, I.bare, I.base, let ⟨m, hn, hl'⟩ := I.loc; ⟨m, hn, fun i x v e1 e2 e3 => hl' i x v e1 (w i v e2) e3⟩, I.cell, I.free, fun x c e => (I.freeC x c e).imp id fun ⟨hf, o, ho, hno⟩ => ⟨hf, o, ho, fun z i v e1 k e2 => hno z i v e1 k (w i v e2)⟩, I.pin, I.hok, hl.trans I.len⟩
theorem Inv.pins_of {pins' : List (Addr × Obj)} (I : Inv X pins σ H s) (h : ∀ p ∈ pins', s.heap.get? p.1 = some p.2 ∧ H p.1 = none ∧ p.1 ≠ X.env.locals ∧ p.1 ∉ X.fs ∧ ∀ v, p.2.data ≠ .cell v) : Inv X pins' σ H s :=
  ⟨I.ok, I.os, I.bare, I.base, I.loc, I.cell, I.free, I.freeC, fun p hp => (List.mem_append.mp hp).elim (fun z => I.pin p (List.mem_append_left _ z)) (h p), I.hok, I.len⟩

theorem nodup_ix {N : List Str} (hN : N.Nodup) {i j : Nat} {x : Str} (a : N[i]? = some x) (b : N[j]? = some x) : i = j := by
  obtain ⟨h1, e1⟩ := List.getElem?_eq_some_iff.mp a
  obtain ⟨h2, e2⟩ := List.getElem?_eq_some_iff.mp b
  exact (List.getElem_inj hN).mp (e1.trans e2.symm)

/-  a name is stored; what changed -/
theorem store_ok2 {M : Model} {A : Around} {E : Value → Shared → Prop} {i : Nat} {x : Str} {v : V} {u : Value} {Q : Unit → Shared → Prop} (I : Inv X pins σ H s) (hN : X.N.Nodup) (hi : X.N[i]? = some x) (hx : Loc X.env.scope x) (r : RelV v u)
    (h : ∀ s', Inv X pins (σ.set i (some v)) H s' → (∃ a, Heap.SameBut a s.heap s'.heap ∧ (a = X.env.locals ∨ X.env.cells.lookup x = some a)) → Q () s') (hf : X.fn x = true ∨ X.env.scope.names.lookup x = some .local := by first | exact .inl rfl | exact .inr rfl | assumption) : wpAny M A (storeName X.env x u) Q E s := by
  obtain ⟨m, hn, hl⟩ := id I.loc
  have hcls : (X.env.scope.kind == .class || (X.env.scope.kind == .module && X.env.locals != X.env.globals)) = false := by rw [I.ok.kind]; rfl
  have hiσ : i < σ.length := by rw [I.len]; exact (List.getElem?_eq_some_iff.mp hi).1
  have cne := I.cne
  have tracked : ∀ {a : Addr} {h' : Heap}, (∃ o, s.heap.get? a = some o ∧ H a = none) → Heap.SameBut a s.heap h' → HOk X.prog X.w H h' := fun {a h'} ha hs b ob e => by
    obtain ⟨_, _, hfree⟩ := ha
    refine (I.hok b ob e).stay (fun c w' hc q => (hs.2 c ?_).trans q) (fun _ q => q) fun _ _ q _ => q
    rintro rfl
    rcases hc with rfl | hc
    · rw [hfree] at e; cases e
    · rw [hfree] at hc; cases hc
  rcases hx with hk | hk
  · refine wpAny_storeName_local hk hn (fun h' hn' hs => ?_) hcls
    obtain ⟨oL, _, _, hoL, _⟩ := id hn
    refine h _ ⟨I.ok, I.os, I.bare, ⟨fun b o e n hb hx => ?_, fun b o e n hb hx => ?_, I.base.free, fun b o e hx => ?_, I.base.fix⟩, ⟨_, hn', fun j y v' e1 e2 e3 => ?_⟩, fun y c e => ?_, I.free, fun y c e => ?_, fun p hp => ?_, tracked ⟨oL, hoL, I.free⟩ hs, by simpa using I.len⟩ ⟨_, hs, .inl rfl⟩
    · exact (hs.2 b (Nat.ne_of_lt (Nat.lt_of_lt_of_le (Heap.lt_size e) I.ok.above))).trans (I.base.keep b o e n hb hx)
    · obtain ⟨sl, e1⟩ := I.base.slot b o e n hb hx
      exact ⟨sl, (hs.2 b (Nat.ne_of_lt (Nat.lt_of_lt_of_le (Heap.lt_size e) I.ok.above))).trans e1⟩
    · obtain ⟨o', e1⟩ := I.base.there b o e hx
      exact ⟨o', (hs.2 b (Nat.ne_of_lt (Nat.lt_of_lt_of_le (Heap.lt_size e) I.ok.above))).trans e1⟩
    · by_cases hj : j = i
      · subst hj
        rw [hi] at e1; cases e1
        rw [List.getElem?_set_self hiσ] at e2
        cases e2
        exact ⟨u, r, .inl ⟨hk, by simp⟩⟩
      · rw [List.getElem?_set_ne (Ne.symm hj)] at e2
        obtain ⟨u', r', q⟩ := hl j y v' e1 e2 e3
        refine ⟨u', r', ?_⟩
        rcases q with ⟨k, e⟩ | ⟨k, c, e, z⟩
        · refine .inl ⟨k, ?_⟩
          have : y ≠ x := fun e => hj (nodup_ix hN e1 (e ▸ hi))
          simp [this, e]
        · exact .inr ⟨k, c, e, z.sameBut hs (cne y c e)⟩
    · obtain ⟨w', z⟩ := I.cell y c e
      exact ⟨w', z.sameBut hs (cne y c e)⟩
    · refine (I.freeC y c e).imp id fun hh1 => ?_
      obtain ⟨hf', o', ho', hno⟩ := hh1
      refine ⟨hf', o', ho', fun z j v' e1 k e2 => ?_⟩
      by_cases hj : j = i
      · subst hj
        rw [hi] at e1; cases e1
        have hk' : X.env.kindOf x = some .local := hk
        rw [hk'] at k
        rcases k with k | k <;> cases k
      · rw [List.getElem?_set_ne (Ne.symm hj)] at e2
        exact hno z j v' e1 k e2
    · obtain ⟨e, n, ne, nf, d⟩ := I.pin p hp
      exact ⟨(hs.2 p.1 ne).trans e, n, ne, nf, d⟩
  · have hfn : X.fn x = true := by
      rcases hf with z | z
      · exact z
      · rw [z] at hk; cases hk
    obtain ⟨c, hc⟩ := I.ok.has x (.inl hk)
    have hHc : H c = none := by
      rcases I.freeC x c hc with z | ⟨z, _⟩
      · exact z
      · rw [hfn] at z; cases z
    obtain ⟨w', z⟩ := I.cell x c hc
    refine wpAny_storeName_cell I.ok.kind hk hc z (fun h' hc' hs => ?_)
    obtain ⟨oc, hoc, hocd⟩ := id z
    refine h { s with heap := h' } ⟨I.ok, I.os, I.bare, ⟨fun b o e n hb hx => ?_, fun b o e n hb hx => ?_, I.base.free, fun b o e hx => ?_, I.base.fix⟩, ⟨m, hn.sameBut hs (Ne.symm (cne x c hc)), fun j y v' e1 e2 e3 => ?_⟩, fun y c' e => ?_, I.free, fun y c' e => ?_, fun p hp => ?_, tracked ⟨oc, hoc, hHc⟩ hs, by simpa using I.len⟩ ⟨c, hs, .inr hc⟩
    · exact (hs.2 b (Nat.ne_of_lt (Nat.lt_of_lt_of_le (Heap.lt_size e) (I.ok.cab x c hfn hc)))).trans (I.base.keep b o e n hb hx)
    · obtain ⟨sl, e1⟩ := I.base.slot b o e n hb hx
      exact ⟨sl, (hs.2 b (Nat.ne_of_lt (Nat.lt_of_lt_of_le (Heap.lt_size e) (I.ok.cab x c hfn hc)))).trans e1⟩
    · obtain ⟨o', e1⟩ := I.base.there b o e hx
      exact ⟨o', (hs.2 b (Nat.ne_of_lt (Nat.lt_of_lt_of_le (Heap.lt_size e) (I.ok.cab x c hfn hc)))).trans e1⟩
    · by_cases hj : j = i
      · subst hj
        rw [hi] at e1; cases e1
        rw [List.getElem?_set_self hiσ] at e2
        cases e2
        exact ⟨u, r, .inr ⟨.inl hk, c, hc, hc'⟩⟩
      · rw [List.getElem?_set_ne (Ne.symm hj)] at e2
        obtain ⟨u', r', q⟩ := hl j y v' e1 e2 e3
        refine ⟨u', r', ?_⟩
        rcases q with q | ⟨k, c', e, z'⟩
        · exact .inl q
        · refine .inr ⟨k, c', e, z'.sameBut hs ?_⟩
          rintro rfl
          exact hj (nodup_ix hN e1 (I.ok.inj _ _ _ e hc ▸ hi))
    · by_cases hcc : c' = c
      · subst hcc; exact ⟨_, hc'⟩
      · obtain ⟨w2, z2⟩ := I.cell y c' e
        exact ⟨w2, z2.sameBut hs hcc⟩
    · refine (I.freeC y c' e).imp id fun hh2 => ?_
      obtain ⟨hf', o', ho', hno⟩ := hh2
      refine ⟨hf', o', ho', fun z j v' e1 k e2 => ?_⟩
      by_cases hj : j = i
      · subst hj
        rw [hi] at e1; cases e1
        rw [hfn] at hf'; cases hf'
      · rw [List.getElem?_set_ne (Ne.symm hj)] at e2
        exact hno z j v' e1 k e2
    · obtain ⟨e, n, ne, nf, d⟩ := I.pin p hp
      refine ⟨(hs.2 p.1 ?_).trans e, n, ne, nf, d⟩
      intro q
      rw [q, hoc] at e
      have q' : oc = p.2 := Option.some.inj e
      exact d w' (by rw [← q']; exact hocd)
theorem store_ok {M : Model} {A : Around} {E : Value → Shared → Prop} {i : Nat} {x : Str} {v : V} {u : Value} {Q : Unit → Shared → Prop} (I : Inv X pins σ H s) (hN : X.N.Nodup) (hi : X.N[i]? = some x) (hx : Loc X.env.scope x) (r : RelV v u)
    (h : ∀ s', Inv X pins (σ.set i (some v)) H s' → Q () s') (hf : X.fn x = true ∨ X.env.scope.names.lookup x = some .local := by first | exact .inl rfl | exact .inr rfl | assumption) : wpAny M A (storeName X.env x u) Q E s :=
  store_ok2 I hN hi hx r (fun s' I' _ => h s' I') hf
/-  behind a call or a block, the state as it is -/
theorem Inv.call' {s' : Shared} {ch : List Addr} (I : Inv X pins σ H s) (ho : s'.os = s.os) (u : Un (frs X.stack) ch H H' s.heap s'.heap) (hok : HOk X.prog X.w H' s'.heap) (hg : AllBare s'.gens)
    (hch : ∀ b ∈ ch, (b ∈ X.ex ∨ X.s₀.heap.objs.size ≤ b) ∧ b ≠ X.env.locals ∧ (∀ x c, X.env.cells.lookup x = some c → c ≠ b) ∧ ∀ p ∈ X.pn ++ pins, p.1 ≠ b) : Inv X pins σ H' s' := by
  obtain ⟨h', g', d', t', o'⟩ := s'
  have e : o' = s.os := ho
  subst e
  exact I.call (g' := g') (t' := t') (d' := d') u hok hg hch
end

/-! ### the judgements -/
/-  an exception: its class, its own dict's address (where it has one), the abstract heap behind it -/
abbrev XK := Value → Option Addr → Hp → Prop
abbrev St := List (Option V)
abbrev VK := V → Hp → Prop
/-  an expression's reading; a test's; an argument list's -/
abbrev TE := St → Hp → VK → Prop
abbrev TT := St → Hp → (Bool → Hp → Prop) → Prop
abbrev TA := St → Hp → (List V → Hp → Prop) → Prop
/-  what is wanted behind a statement -/
structure Ends where
  nx : St → Hp → Prop
  rt : VK
  bk : St → Hp → Prop := fun _ _ => False
  ct : St → Hp → Prop := fun _ _ => False
abbrev TS := Ends → St → Hp → Prop

def EP (X : Cx) (pins : List (Addr × Obj)) (σ : St) (Q : VK) (u : Value) (s' : Shared) : Prop := ∃ v H', Inv X pins σ H' s' ∧ RelV v u ∧ Q v H'
def TP (X : Cx) (pins : List (Addr × Obj)) (σ : St) (Q : Bool → Hp → Prop) (b : Bool) (s' : Shared) : Prop := ∃ H', Inv X pins σ H' s' ∧ Q b H'
def AP (X : Cx) (pins : List (Addr × Obj)) (σ : St) (Q : List V → Hp → Prop) (us : List Value) (s' : Shared) : Prop := ∃ vs H', Inv X pins σ H' s' ∧ Vals vs us ∧ Q vs H'
def SP (X : Cx) (pins : List (Addr × Obj)) (D : Ends) (f : Flow) (s' : Shared) : Prop :=
  match f with
  | .next => ∃ σ' H', Inv X pins σ' H' s' ∧ D.nx σ' H'
  | .brk => ∃ σ' H', Inv X pins σ' H' s' ∧ D.bk σ' H'
  | .cont => ∃ σ' H', Inv X pins σ' H' s' ∧ D.ct σ' H'
  | .ret u => ∃ v σ' H', Inv X pins σ' H' s' ∧ RelV v u ∧ D.rt v H'

def PE (X : Cx) (e : Expr) (t : TE) : Prop :=
  ∀ (pins : List (Addr × Obj)) (s : Shared) (σ : St) (H : Hp) (Q : VK), Inv X pins σ H s → t σ H Q → wpAny (model X.prog X.w) X.A (eval e X.env) (EP X pins σ Q) X.xe s
def PT (X : Cx) (e : Expr) (t : TT) : Prop :=
  ∀ (pins : List (Addr × Obj)) (s : Shared) (σ : St) (H : Hp) (Q : Bool → Hp → Prop), Inv X pins σ H s → t σ H Q → wpAny (model X.prog X.w) X.A (isTrue e X.env (eval e X.env)) (TP X pins σ Q) X.xe s
/-  a test whatever its 'whole' is (and, or) -/
def PW (X : Cx) (e : Expr) (t : TT) : Prop :=
  ∀ (whole : Sem Value) (pins : List (Addr × Obj)) (s : Shared) (σ : St) (H : Hp) (Q : Bool → Hp → Prop), Inv X pins σ H s → t σ H Q → wpAny (model X.prog X.w) X.A (isTrue e X.env whole) (TP X pins σ Q) X.xe s
theorem PW.pt {X : Cx} {e : Expr} {t : TT} (h : PW X e t) : PT X e t := h _
/-  an argument list (no star), from the left -/
def PA (X : Cx) (es : List Expr) (t : TA) : Prop :=
  ∀ (pos : Pos) (pins : List (Addr × Obj)) (s : Shared) (σ : St) (H : Hp) (Q : List V → Hp → Prop), Inv X pins σ H s → t σ H Q → wpAny (model X.prog X.w) X.A (spliced (backTo pos (starEach es X.env))) (AP X pins σ Q) X.xe s
def PS (X : Cx) (st : Stmt) (t : TS) : Prop :=
  ∀ (pins : List (Addr × Obj)) (s : Shared) (σ : St) (H : Hp) (D : Ends), Inv X pins σ H s → t D σ H → wpAny (model X.prog X.w) X.A (exec st X.env) (SP X pins D) X.xe s
def PSs (X : Cx) (st : List Stmt) (t : TS) : Prop :=
  ∀ (pins : List (Addr × Obj)) (s : Shared) (σ : St) (H : Hp) (D : Ends), Inv X pins σ H s → t D σ H → wpAny (model X.prog X.w) X.A (execs st X.env) (SP X pins D) X.xe s
/-  weaken the end -/
theorem thn {α : Type} {t : Sem α} {Q Q' : α → Shared → Prop} {M : Model} {A : Around} {E : Value → Shared → Prop} {s : Shared} (h : wpAny M A t Q E s) (hQ : ∀ a s, Q a s → Q' a s) : wpAny M A t Q' E s := wpAny_mono h hQ fun _ _ x => x
end L2

namespace L2
open PySem PySem.Spec PyProof.Rows
section
variable {X : Cx}

/-  two expressions in a row -/
/-! ### names and constants -/
def tVar (i : Nat) : TE := fun σ H Q => ∃ v, σ[i]? = some (some v) ∧ Q v H
def tC (v : V) : TE := fun _ H Q => Q v H
theorem pe_var {i : Nat} {x : Str} {pos : Pos} (hN : X.N[i]? = some x) (hv : Vis X.env.scope x) (hd : (x == ("__debug__" : Str)) = false := by decide) (hcd : (x == ("__classdict__" : Str)) = false := by decide) : PE X (.Name x pos) (tVar i) := by
  intro pins s σ H Q I h
  obtain ⟨v, e, h⟩ := h
  obtain ⟨m, hn, hl⟩ := I.loc
  obtain ⟨u, r, l⟩ := hl i x v hN e hv
  have fin : EP X pins σ Q u s := ⟨v, H, I, r, h⟩
  rcases l with ⟨hk, hm⟩ | ⟨hk, c, hc, hcell⟩
  · exact wpAny_Name (wpAny_loadName_local I.ok.kind hk hn hm fin) hd
  · rcases hk with hk | hk
    · exact wpAny_Name (wpAny_loadName_cell I.ok.kind hk hc hcell fin) hd
    · exact wpAny_Name (wpAny_loadName_free I.ok.kind hk hc hcell fin hcd) hd
theorem pe_int {i j pos} : PE X (.Constant (.int i) j pos) (tC (.int i)) := fun _ _ _ H _ I h => wpAny_Constant_int ⟨.int i, H, I.tok _, ⟨_, rfl⟩, h⟩
theorem pe_bl {b j pos} : PE X (.Constant (.bool b) j pos) (tC (.bl b)) := fun _ _ _ H _ I h => Constant_bool ⟨.bl b, H, I, rfl, h⟩
theorem pe_non {j pos} : PE X (.Constant .none j pos) (tC .non) := fun _ _ _ H _ I h => Constant_none ⟨.non, H, I, rfl, h⟩
theorem pe_str {x j pos} : PE X (.Constant (.str x) j pos) (tC (.str x)) := fun _ _ _ H _ I h => Calls.Constant_str ⟨.str x, H, I.tok _, ⟨_, rfl⟩, h⟩

/-  a global name of the def -/
def Gl (X : Cx) (x : Str) : Prop := X.env.kindOf x = some .globalImplicit
theorem ld_glob {E : Value → Shared → Prop} {pins : List (Addr × Obj)} {s : Shared} {σ : St} {H : Hp} {x : Str} {u : Value} {pos : Pos} {Q : Value → Shared → Prop} (I : Inv X pins σ H s) (hg : Gl X x) (hm : X.mg x = some u) (h : Q u s)
    (hd : (x == ("__debug__" : Str)) = false := by decide) : wpAny (model X.prog X.w) X.A (eval (.Name x pos) X.env) Q E s :=
  Calls.Name_function_global I.ok.kind hg (Calls.loadGlobal_global (by rw [I.ok.glob]; exact I.mod.glob.keeps I.bk) hm h) hd
theorem ld_blt {E : Value → Shared → Prop} {pins : List (Addr × Obj)} {s : Shared} {σ : St} {H : Hp} {x : Str} {u : Value} {pos : Pos} {Q : Value → Shared → Prop} (I : Inv X pins σ H s) (hg : Gl X x) (hm : X.mg x = none) (hv : bootBuiltins x = some u) (h : Q u s)
    (hn : x ≠ "__name__" := by decide) (hd : (x == ("__debug__" : Str)) = false := by decide) : wpAny (model X.prog X.w) X.A (eval (.Name x pos) X.env) Q E s := by
  obtain ⟨mb, h1, h2⟩ := I.mod.blt
  exact Calls.Name_function_global I.ok.kind hg (Calls.loadGlobal_builtin (by rw [I.ok.glob]; exact I.mod.glob.keeps I.bk) hm (by rw [I.ok.blt]; exact h1.keeps I.bk) ((h2 x hn).trans hv) h) hd
/-  a module's constant, a class, a function, as a value -/
theorem pe_glob {x : Str} {v : V} {u : Value} {pos : Pos} (hg : Gl X x) (hm : X.mg x = some u) (r : RelV v u) (hd : (x == ("__debug__" : Str)) = false := by decide) : PE X (.Name x pos) (tC v) :=
  fun _ _ _ H _ I h => ld_glob I hg hm ⟨v, H, I, r, h⟩ hd
theorem pe_bltn {x : Str} {v : V} {u : Value} {pos : Pos} (hg : Gl X x) (hm : X.mg x = none) (hv : bootBuiltins x = some u) (r : RelV v u) (hn : x ≠ "__name__" := by decide) (hd : (x == ("__debug__" : Str)) = false := by decide) : PE X (.Name x pos) (tC v) :=
  fun _ _ _ H _ I h => ld_blt I hg hm hv ⟨v, H, I, r, h⟩ hn hd

/-! ### arithmetic -/
/-  two ints -/
/-  the left factor below 2^64 -/
variable {a b : Expr} {ta tb : TE} {pos : Pos}
/-! ### comparisons -/
def PC (X : Cx) (op : CmpOp) (a b : Expr) (t : TE) : Prop :=
  ∀ (pins : List (Addr × Obj)) (s : Shared) (σ : St) (H : Hp) (Q : VK), Inv X pins σ H s → t σ H Q →
    wpAny (model X.prog X.w) X.A (eval a X.env) (fun v s₁ => wpAny (model X.prog X.w) X.A (eval b X.env) (fun u s₂ => wpAny (model X.prog X.w) X.A (compareOp op v u) (EP X pins σ Q) X.xe s₂) X.xe s₁) X.xe s
theorem nobehind (b : Expr) {op : CmpOp} (h : op ≠ .In) (h2 : op ≠ .NotIn) : behindInMarks op b = false := by
  have e1 : (op == CmpOp.In) = false := by cases op <;> first | rfl | exact absurd rfl h
  have e2 : (op == CmpOp.NotIn) = false := by cases op <;> first | rfl | exact absurd rfl h2
  cases b <;> simp [behindInMarks, e1, e2]
/-  a comparison of two ints, by its rule -/
/-  is None -/
def tIsN (ta : TE) : TE := fun σ H Q => ta σ H fun x H1 => Q (.bl (decide (x = .non))) H1
def tNotN (ta : TE) : TE := fun σ H Q => ta σ H fun x H1 => Q (.bl (!decide (x = .non))) H1
theorem RelV.none_iff {x : V} {v : Value} (r : RelV x v) : (v == Value.none) = decide (x = .non) := by
  cases x with
  | non => cases r; rfl
  | bl _ => cases r; rfl
  | int _ => obtain ⟨t, rfl⟩ := r; rfl
  | str _ => obtain ⟨t, rfl⟩ := r; rfl
  | byt _ => obtain ⟨t, rfl⟩ := r; rfl
  | flt _ => obtain ⟨t, rfl⟩ := r; rfl
  | ref _ => cases r; rfl
  | ty _ => cases r; rfl
theorem pc_isN {j pos'} (ha : PE X a ta) : PC X .Is a (.Constant .none j pos') (tIsN ta) := by
  intro pins s σ H Q I h
  refine thn (ha pins s σ H _ I h) fun v s1 hh3 => ?_
  obtain ⟨x, H1, I1, r1, q1⟩ := hh3
  exact Constant_none (is_none_gen ⟨.bl _, H1, I1, by rw [r1.none_iff]; rfl, q1⟩)
theorem pc_notN {j pos'} (ha : PE X a ta) : PC X .IsNot a (.Constant .none j pos') (tNotN ta) := by
  intro pins s σ H Q I h
  refine thn (ha pins s σ H _ I h) fun v s1 hh4 => ?_
  obtain ⟨x, H1, I1, r1, q1⟩ := hh4
  exact Constant_none (isnot_none_gen ⟨.bl _, H1, I1, by rw [r1.none_iff]; rfl, q1⟩)
/-  a comparison as a value, as a test -/
def tB (t : TE) : TT := fun σ H Q => t σ H fun x H1 => ∃ c, x = .bl c ∧ Q c H1
theorem pe_cmp {op : CmpOp} {t : TE} (h : PC X op a b t) (h1 : behindInMarks op b = false := by first | exact nobehind _ (by decide) (by decide) | rfl) : PE X (.Compare a [op] [b] pos) t := fun pins s σ H Q I hw => wpAny_Compare1 (h pins s σ H Q I hw) h1
theorem pt_cmp {op : CmpOp} {t : TE} (h : PC X op a b t) (h1 : behindInMarks op b = false := by first | exact nobehind _ (by decide) (by decide) | rfl) : PT X (.Compare a [op] [b] pos) (tB t) := by
  intro pins s σ H Q I hw
  refine wpAny_isTrue_Compare1 (thn (h pins s σ H _ I hw) fun v s1 h1 => thn h1 fun u s2 h2 => thn h2 fun c s3 hh5 => ?_) h1
  obtain ⟨x, H1, I1, r1, q1⟩ := hh5
  obtain ⟨d, rfl, q⟩ := q1
  cases r1
  exact wpAny_truthy_bool ⟨H1, I1, q⟩
/-  an expression whose value is a bool, as a test -/
/-! ### and, or, not -/
variable {tA tB' : TT} {rest : List Expr}
def tNot (t : TT) : TT := fun σ H Q => t σ H fun c H1 => Q (!c) H1
theorem pw_and1 (ha : PT X a tA) : PW X (.BoolOp .And [a] pos) tA := by
  intro wh pins s σ H Q I h
  refine isTrue_and (thn (ha pins s σ H Q I h) fun c s1 e => ?_)
  cases c with
  | true => exact isTrue_and_nil e
  | false => exact e
theorem pw_or1 (ha : PT X a tA) : PW X (.BoolOp .Or [a] pos) tA := by
  intro wh pins s σ H Q I h
  refine isTrue_or (thn (ha pins s σ H Q I h) fun c s1 e => ?_)
  cases c with
  | false => exact isTrue_or_nil e
  | true => exact e
theorem pt_not (ha : PT X a tA) : PT X (.UnaryOp .Not a pos) (tNot tA) := by
  intro pins s σ H Q I h
  exact isTrue_not (ha pins s σ H (fun c H1 => Q (!c) H1) I h)
/-  .. as values (bools) -/
theorem pe_one {op} {t : TE} (h : PE X a t) : PE X (.BoolOp op [a] pos) t := fun pins s σ H Q I hw => BoolOp_one (h pins s σ H Q I hw)
/-  a if t else b -/
end
end L2

namespace L2
open PySem PySem.Spec PyProof.Rows

/-! ### a list, a tuple that is read: tracked, frozen, or an object of the module -/
def SqL (K : PySem.W.Frag) (H : Hp) (a : Addr) (xs : List V) : Prop :=
  Rd H a (.lst xs) ∨
    ∃ (o : Obj) (its : Array Value) (n : Nat), K.lookup a = some o ∧ o.cls = .type "list" ∧ o.dict = none ∧ o.data = .seq its n ∧ its.size ≤ sizeLine ∧ Vals xs its.toList
def SqT (K : PySem.W.Frag) (H : Hp) (a : Addr) (xs : List V) : Prop :=
  Rd H a (.tup xs) ∨
    ∃ (o : Obj) (its : Array Value) (n : Nat), K.lookup a = some o ∧ o.cls = .type "tuple" ∧ o.data = .seq its n ∧ its.size ≤ sizeLine ∧ Vals xs its.toList
def absV : Value → Option V
  | .none => some .non
  | .bool b => some (.bl b)
  | .int i _ => some (.int i)
  | .str x _ => some (.str x)
  | .bytes b _ => some (.byt b)
  | .float b _ => some (.flt b)
  | .ref a => some (.ref a)
  | .type n => some (.ty n)
  | _ => none
theorem RelV.abs {x : V} {u : Value} (r : RelV x u) : absV u = some x := by
  cases x with
  | non => cases r; rfl
  | bl _ => cases r; rfl
  | int _ => obtain ⟨t, rfl⟩ := r; rfl
  | str _ => obtain ⟨t, rfl⟩ := r; rfl
  | byt _ => obtain ⟨t, rfl⟩ := r; rfl
  | flt _ => obtain ⟨t, rfl⟩ := r; rfl
  | ref _ => cases r; rfl
  | ty _ => cases r; rfl
theorem RelV.inj {x y : V} {u : Value} (r : RelV x u) (q : RelV y u) : x = y := Option.some.inj (r.abs.symm.trans q.abs)
theorem Vals.inj : ∀ {xs ys : List V} {us : List Value}, Vals xs us → Vals ys us → xs = ys
  | _, _, _, .nil, .nil => rfl
  | _, _, _, .cons r t, .cons r' t' => by rw [r.inj r', Vals.inj t t']
section
variable {X : Cx} {pins : List (Addr × Obj)} {σ : St} {H : Hp} {s : Shared} {a : Addr} {xs ys : List V}
theorem SqL.of {K : PySem.W.Frag} (h : H a = some (.lst xs)) : SqL K H a xs := .inl (.inl h)
theorem SqT.of {K : PySem.W.Frag} (h : H a = some (.tup xs)) : SqT K H a xs := .inl (.inl h)
theorem Inv.list (I : Inv X pins σ H s) (h : SqL X.K H a xs) : ∃ its : List Value, Vals xs its ∧ PlainL s.heap a its.toArray ∧ xs.length ≤ sizeLine := by
  rcases h with h | ⟨o, its, n, hk, hc, hd, hs, hz, r⟩
  · obtain ⟨z, its, n, r, e⟩ := h.ok I.hok
    exact ⟨its, r, ⟨_, n, e, rfl, rfl, rfl⟩, z⟩
  · refine ⟨its.toList, r, ⟨o, n, I.kIn a o hk, hc, hd, by simpa using hs⟩, ?_⟩
    have e := r.length
    simp only [Array.length_toList] at e
    (first | lia | omega)
theorem Inv.tuple (I : Inv X pins σ H s) (h : SqT X.K H a xs) : ∃ its : List Value, Vals xs its ∧ IsTup s.heap a its.toArray ∧ xs.length ≤ sizeLine := by
  rcases h with h | ⟨o, its, n, hk, hc, hs, hz, r⟩
  · obtain ⟨z, its, r, p⟩ := h.ok I.hok
    exact ⟨its, r, p, z⟩
  · refine ⟨its.toList, r, ⟨o, I.kIn a o hk, hc, n, by simpa using hs⟩, ?_⟩
    have e := r.length
    simp only [Array.length_toList] at e
    (first | lia | omega)
theorem Inv.list_inj (I : Inv X pins σ H s) (h : SqL X.K H a xs) (h' : SqL X.K H a ys) : xs = ys := by
  obtain ⟨its, r, ⟨o, n, e, _, _, d⟩, _⟩ := I.list h
  obtain ⟨its', r', ⟨o', n', e', _, _, d'⟩, _⟩ := I.list h'
  rw [e] at e'; cases e'
  rw [d] at d'
  injection d' with d1 _
  have : its = its' := by simpa using congrArg Array.toList d1
  subst this
  exact r.inj r'
theorem Inv.tuple_inj (I : Inv X pins σ H s) (h : SqT X.K H a xs) (h' : SqT X.K H a ys) : xs = ys := by
  obtain ⟨its, r, ⟨o, e, _, n, d⟩, _⟩ := I.tuple h
  obtain ⟨its', r', ⟨o', e', _, n', d'⟩, _⟩ := I.tuple h'
  rw [e] at e'; cases e'
  rw [d] at d'
  injection d' with d1 _
  have : its = its' := by simpa using congrArg Array.toList d1
  subst this
  exact r.inj r'
end

/-! ### another wish about exceptions -/
abbrev Cx.wish (X : Cx) (E : Value → Shared → Prop) : Cx := { X with xe := E }
/-  no exception leaves -/
abbrev Cx.nox (X : Cx) : Cx := X.wish fun _ _ => False
theorem Cx.Ok.wish {X : Cx} (ok : X.Ok) (E : Value → Shared → Prop) : (X.wish E).Ok :=
  ⟨ok.mod, ok.kind, ok.glob, ok.blt, ok.above, ok.inj, ok.has, ok.cab, ok.hd, ok.frames, ok.stk, ok.exf, ok.bs, ok.bsz, ok.noex, ok.exfs, ok.funs, ok.frf, ok.cab2, ok.hz⟩
theorem Cx.Ok.unwish {X : Cx} {E : Value → Shared → Prop} (ok : (X.wish E).Ok) : X.Ok :=
  ⟨ok.mod, ok.kind, ok.glob, ok.blt, ok.above, ok.inj, ok.has, ok.cab, ok.hd, ok.frames, ok.stk, ok.exf, ok.bs, ok.bsz, ok.noex, ok.exfs, ok.funs, ok.frf, ok.cab2, ok.hz⟩
section
variable {X : Cx} {pins : List (Addr × Obj)} {σ : St} {H : Hp} {s : Shared} {E : Value → Shared → Prop}
theorem Inv.wish (I : Inv X pins σ H s) (E : Value → Shared → Prop) : Inv (X.wish E) pins σ H s := ⟨I.ok.wish E, I.os, I.bare, I.base, I.loc, I.cell, I.free, I.freeC, I.pin, I.hok, I.len⟩
theorem Inv.unwish (I : Inv (X.wish E) pins σ H s) : Inv X pins σ H s := ⟨I.ok.unwish, I.os, I.bare, I.base, I.loc, I.cell, I.free, I.freeC, I.pin, I.hok, I.len⟩
theorem SP.unwish {D : Ends} {f : Flow} {s' : Shared} (h : SP (X.wish E) pins D f s') : SP X pins D f s' := by
  cases f with
  | next => obtain ⟨σ', H', I, q⟩ := h; exact ⟨σ', H', I.unwish, q⟩
  | brk => obtain ⟨σ', H', I, q⟩ := h; exact ⟨σ', H', I.unwish, q⟩
  | cont => obtain ⟨σ', H', I, q⟩ := h; exact ⟨σ', H', I.unwish, q⟩
  | ret u => obtain ⟨v, σ', H', I, r, q⟩ := h; exact ⟨v, σ', H', I.unwish, r, q⟩
theorem PSs.nox {st : List Stmt} {t : TS} (h : PSs X.nox st t) : PSs X st t := fun pins s σ H D I hw =>
  wpAny_mono (h pins s σ H D (I.wish _) hw) (fun _ _ q => q.unwish) fun _ _ z => False.elim z
end

/-! ### blocks and small statements -/
section
variable {X : Cx} {st : Stmt} {rest : List Stmt} {t u : TS} {e : Expr} {te : TE} {pos : Pos}
def tNext : TS := fun D σ H => D.nx σ H
def tSeq (t u : TS) : TS := fun D σ H => t { D with nx := u D } σ H
theorem pss_nil : PSs X [] tNext := fun _ _ σ H _ I h => wpAny_execs_nil ⟨σ, H, I, h⟩
theorem pss_cons (h1 : PS X st t) (h2 : PSs X rest u) : PSs X (st :: rest) (tSeq t u) := by
  intro pins s σ H D I h
  refine wpAny_execs_cons (thn (h1 pins s σ H { D with nx := u D } I h) fun f s1 q => ?_)
  cases f with
  | next =>
    obtain ⟨σ', H', I', q⟩ := q
    exact h2 pins s1 σ' H' D I' q
  | ret v => exact q
  | brk => exact q
  | cont => exact q
theorem pss_one (h1 : PS X st t) : PSs X [st] t := by
  intro pins s σ H D I h
  refine wpAny_execs_cons (thn (h1 pins s σ H D I h) fun f s1 q => ?_)
  cases f with
  | next => exact wpAny_execs_nil q
  | ret v => exact q
  | brk => exact q
  | cont => exact q
/-  in a def's body nothing is shown -/
theorem Inv.quiet {pins : List (Addr × Obj)} {σ : St} {H : Hp} {s : Shared} (I : Inv X pins σ H s) : interactive X.env = false := by simp [interactive, I.ok.kind]
/-  a docstring -/
/-  an expression whose value is dropped -/
def tDrop (te : TE) : TS := fun D σ H => te σ H fun _ H1 => D.nx σ H1
theorem ps_expr (he : PE X e te) (hs : swapsWith e none pos.line X.env = pure false := by rfl) : PS X (.Expr e pos) (tDrop te) := by
  intro pins s σ H D I h
  refine wpAny_Expr_any (thn (he pins s σ H _ I h) fun v s1 hh6 => ?_) I.quiet hs
  obtain ⟨x, H1, I1, r1, q1⟩ := hh6
  exact ⟨σ, H1, I1, q1⟩
def tRet (te : TE) : TS := fun D σ H => te σ H D.rt
theorem ps_ret (he : PE X e te) : PS X (.Return (some e) pos) (tRet te) := by
  intro pins s σ H D I h
  refine wpAny_Return_some (thn (he pins s σ H _ I h) fun v s1 hh7 => ?_)
  obtain ⟨x, H1, I1, r1, q1⟩ := hh7
  exact ⟨x, σ, H1, I1, r1, q1⟩
/-  code that the proof never comes to -/
end

/-! ### targets -/
abbrev TG := V → St → Hp → (St → Hp → Prop) → Prop
abbrev TGs := List V → St → Hp → (St → Hp → Prop) → Prop
def PG (X : Cx) (target : Expr) (t : TG) : Prop :=
  ∀ (pins : List (Addr × Obj)) (s : Shared) (σ : St) (H : Hp) (v : V) (u : Value) (Q : St → Hp → Prop), Inv X pins σ H s → RelV v u → t v σ H Q →
    wpAny (model X.prog X.w) X.A (assign target X.env u) (fun _ s' => ∃ σ' H', Inv X pins σ' H' s' ∧ Q σ' H') X.xe s
/-  several targets, one after another -/
def PGs (X : Cx) (ts : List Expr) (t : TGs) : Prop :=
  ∀ (pins : List (Addr × Obj)) (s : Shared) (σ : St) (H : Hp) (vs : List V) (us : List Value) (Q : St → Hp → Prop), Inv X pins σ H s → Vals vs us → t vs σ H Q →
    wpAny (model X.prog X.w) X.A (assignInOrder ((assignEach ts X.env).map (·.2)) us) (fun _ s' => ∃ σ' H', Inv X pins σ' H' s' ∧ Q σ' H') X.xe s
/-  o[i] = v, by values -/
/-  a op= b, by values -/
section
variable {X : Cx} {pos : Pos}
def gName (i : Nat) : TG := fun v σ H Q => Q (σ.set i (some v)) H
theorem pg_name {i : Nat} {x : Str} (hN : X.N.Nodup) (hi : X.N[i]? = some x) (hx : Loc X.env.scope x) (hf : X.fn x = true ∨ X.env.scope.names.lookup x = some .local := by first | exact .inl rfl | exact .inr rfl | assumption) : PG X (.Name x pos) (gName i) := by
  intro pins s σ H v u Q I r h
  exact wpAny_assign_Name (store_ok I hN hi hx r (fun s' I' => ⟨_, H, I', h⟩) hf)
def gNil : TGs := fun vs σ H Q => vs = [] ∧ Q σ H
def gCons (t : TG) (u : TGs) : TGs := fun vs σ H Q => ∃ v r, vs = v :: r ∧ t v σ H fun σ' H' => u r σ' H' Q
theorem pgs_nil : PGs X [] gNil := by
  intro pins s σ H vs us Q I r h
  obtain ⟨e, h⟩ := h
  subst e
  cases r
  exact assignInOrder_nil ⟨σ, H, I, h⟩
theorem pgs_cons {e : Expr} {es : List Expr} {t : TG} {u : TGs} (h1 : PG X e t) (h2 : PGs X es u)
    (hs : (assignEach (e :: es) X.env).map (·.2) = assign e X.env :: (assignEach es X.env).map (·.2) := by rfl) : PGs X (e :: es) (gCons t u) := by
  intro pins s σ H vs us Q I r h
  obtain ⟨v, vr, e1, h⟩ := h
  subst e1
  cases r with
  | cons r rr =>
    rw [hs]
    refine assignInOrder_cons (thn (h1 pins s σ H _ _ _ I r h) fun _ s1 hh8 => ?_)
    obtain ⟨σ1, H1, I1, q1⟩ := hh8
    exact h2 pins s1 σ1 H1 _ _ Q I1 rr q1
/-  (a, b, ..) = a tuple of that length -/
def gTup (K : PySem.W.Frag) (n : Nat) (t : TGs) : TG := fun v σ H Q => ∃ a xs, v = .ref a ∧ SqT K H a xs ∧ xs.length = n ∧ t xs σ H Q
theorem pg_tup {es : List Expr} {k : Nat} {t : TGs} {n : Nat} (hc : X.calm = true) (h : PGs X es t)
    (hn : (assignEach es X.env).length = n := by rfl) (hst : (assignEach es X.env).findIdx? (·.1) = none := by rfl) : PG X (.Tuple es k pos) (gTup X.K n t) := by
  intro pins s σ H v u Q I r hw
  obtain ⟨a, xs, e1, hq, hl, hw⟩ := hw
  subst e1
  cases r
  obtain ⟨its, rv, ht, hz⟩ := I.tuple hq
  refine assign_Tuple_tuple (I.ok.hd hc) ht (by simp [hn, ← hl, rv.length]) hst fun h' hx => ?_
  have I1 : Inv X pins σ H { s with heap := h' } := I.kept (t' := s.toks) fun b o e => hx b o (Nat.ne_of_lt (Heap.lt_size e)) e
  exact h pins _ σ H xs _ Q I1 (by simpa using rv) hw
/-  o[i] = .. -/
/-  target = value -/
def tAsg (te : TE) (g : TG) : TS := fun D σ H => te σ H fun x H1 => g x σ H1 D.nx
/-  name = value -/
theorem ps_set {i : Nat} {x : Str} {e : Expr} {te : TE} {pos' : Pos} (hN : X.N.Nodup) (hi : X.N[i]? = some x) (hx : Loc X.env.scope x) (he : PE X e te) (hs : swapsWith e (some (.Name x pos')) pos.line X.env = pure false := by rfl) (hf : X.fn x = true ∨ X.env.scope.names.lookup x = some .local := by first | exact .inl rfl | exact .inr rfl | assumption) :
    PS X (.Assign [.Name x pos'] e pos) (tAsg te (gName i)) := by
  intro pins s σ H D I h
  refine wpAny_Assign_Name (thn (he pins s σ H _ I h) fun v s1 hh9 => ?_) hs
  obtain ⟨y, H1, I1, r1, q1⟩ := hh9
  exact store_ok I1 hN hi hx r1 (fun s2 I2 => ⟨_, H1, I2, q1⟩) hf
/-  a, b = x, y with plain local names: stored from the right; the pair itself is not tracked (the opening rows as in PyProof/Rows/TupAssign.lean:23) -/
/-  name op= e -/
/-  o[i] op= e -/
/-  o[i], by values -/
/-  ints -/
end

/-! ### while -/
section
variable {X : Cx} {pos : Pos}
/-  the invariant W with its measure -/
end

/-! ### what a loop or a comprehension walks -/
/-  at turn i: it yields x (the heap may grow), or it stops -/
structure It where
  go : Nat → Hp → Prop
  yld : Nat → Hp → V → Hp → Prop
  stop : Nat → Hp → Prop
/-  the iterator's own objects may turn: they are not the frame's, not pinned, younger than the entry (or a comprehension's own) -/
def FpOk (X : Cx) (pins : List (Addr × Obj)) (H : Hp) (b : Addr) : Prop :=
  H b = none ∧ b ≠ X.env.locals ∧ b ∉ X.fs ∧ (b ∈ X.ex ∨ X.s₀.heap.objs.size ≤ b) ∧ (∀ x c, X.env.cells.lookup x = some c → c ≠ b) ∧ ∀ p ∈ X.pn ++ pins, p.1 ≠ b
theorem Inv.fpOk {X : Cx} {pins : List (Addr × Obj)} {σ : St} {H H' : Hp} {s : Shared} {b : Addr} (I : Inv X pins σ H s) (hb : s.heap.objs.size ≤ b) (hn : H' b = none) : FpOk X pins H' b := by
  refine ⟨hn, Nat.ne_of_gt (Nat.lt_of_lt_of_le I.lt hb), I.nofs hb, .inr (Nat.le_trans I.sz hb), fun x c e z => ?_, fun p hp z => ?_⟩
  · obtain ⟨v, q⟩ := I.cell x c e
    exact absurd (Nat.lt_of_lt_of_le q.lt (by rw [z]; exact hb)) (Nat.lt_irrefl _)
  · exact absurd (Nat.lt_of_lt_of_le (Heap.lt_size (I.pin p hp).1) (by rw [z]; exact hb)) (Nat.lt_irrefl _)
structure Turn (P : Program) (w : World) (K : PySem.W.Frag) (tg : Expr) (J : It) (fp : List Addr) (it : Addr) (tn : Nat → Heap → Prop) : Prop where
  mem : it ∈ fp
  obj : ∀ i h, tn i h → ∀ b ∈ fp, ∃ o, h.get? b = some o ∧ ∀ v, o.data ≠ .cell v
  keep : ∀ i h h', tn i h → (∀ b ∈ fp, ∀ o, h.get? b = some o → h'.get? b = some o) → tn i h'
  item : ∀ (X : Cx), X.prog = P → X.w = w → X.K = K → X.calm = true → ∀ (i : Nat) (pins : List (Addr × Obj)) (s : Shared) (σ : St) (H : Hp) (E : Value → Shared → Prop), Inv X pins σ H s → (∀ b ∈ fp, FpOk X pins H b) → tn i s.heap → J.go i H →
    wpAny (model P w) X.A (pyNext (.ref it)) (fun r s1 => ∃ u, r = some u ∧
      wpAny (model P w) X.A (letOwnedTupleGo tg (.ref it) u) (fun _ s2 => ∃ x H', Inv X pins σ H' s2 ∧ RelV x u ∧ J.yld i H x H' ∧ tn (i + 1) s2.heap ∧ ∀ b ∈ fp, H' b = none) E s1) E s
  done : ∀ (X : Cx), X.prog = P → X.w = w → X.K = K → X.calm = true → ∀ (i : Nat) (pins : List (Addr × Obj)) (s : Shared) (σ : St) (H : Hp) (E : Value → Shared → Prop), Inv X pins σ H s → (∀ b ∈ fp, FpOk X pins H b) → tn i s.heap → J.stop i H →
    wpAny (model P w) X.A (pyNext (.ref it)) (fun r s1 => r = none ∧ Inv X pins σ H s1) E s
  self : ∀ (A : Around) (i : Nat) (s : Shared) (Q : Value → Shared → Prop) (E : Value → Shared → Prop), tn i s.heap → Q (.ref it) s → wpAny (model P w) A (pyIter (.ref it)) Q E s
abbrev TI := St → Hp → (It → Hp → Prop) → Prop
/-  an iterator has come -/
def PIE (X : Cx) (pins : List (Addr × Obj)) (σ : St) (tg : Expr) (R : It → Hp → Prop) (itv : Value) (s2 : Shared) : Prop :=
  ∃ (it : Addr) (fp : List Addr) (tn : Nat → Heap → Prop) (J : It) (H' : Hp), itv = .ref it ∧ Inv X pins σ H' s2 ∧ Turn X.prog X.w X.K tg J fp it tn ∧ tn 0 s2.heap ∧ (∀ b ∈ fp, FpOk X pins H' b) ∧ R J H'
def PI (X : Cx) (tg iter : Expr) (wi : TI) : Prop :=
  ∀ (pins : List (Addr × Obj)) (s : Shared) (σ : St) (H : Hp) (R : It → Hp → Prop), Inv X pins σ H s → wi σ H R →
    wpAny (model X.prog X.w) X.A (eval iter X.env) (fun v s1 => wpAny (model X.prog X.w) X.A (pyIter v) (PIE X pins σ tg R) X.xe s1) X.xe s

/-  the step ahead of the store is nothing for an iterator that keeps no tuple -/
theorem go_of {M : Model} {A : Around} {E : Value → Shared → Prop} {s : Shared} {tg : Expr} {it : Addr} {u : Value} {o : Obj} {n : String} {vs : Array Value} {Q : Unit → Shared → Prop} (ho : s.heap.get? it = some o) (hc : o.cls = .type n) (hd : o.data = .fields vs)
    (hn : ["enumerate", "zip", "dict_itemiterator", "dict_reverseitemiterator", "odict_iterator", "itertools.zip_longest", "itertools.pairwise"].contains n = false) (hQ : Q () s) : wpAny M A (letOwnedTupleGo tg (.ref it) u) Q E s := by
  unfold letOwnedTupleGo
  cases tg <;> first
    | exact wpAny_pure hQ
    | (cases u <;> first
        | exact wpAny_pure hQ
        | (refine wpAny_bind (wpAny_load ho ?_)
           rw [hc, hd]
           show wpAny M A (if (["enumerate", "zip", "dict_itemiterator", "dict_reverseitemiterator", "odict_iterator", "itertools.zip_longest", "itertools.pairwise"].contains n && vs[0]? == some (rawInt _)) = true then _ else _) Q E s
           rw [if_neg (by intro h; rw [hn, Bool.false_and] at h; cases h)]
           exact wpAny_pure hQ))

/-  the list at a, as it stands at each turn (a loop may append to it) -/
def Itl (K : PySem.W.Frag) (a : Addr) : It :=
  ⟨fun i H => ∃ xs x, SqL K H a xs ∧ xs[i]? = some x, fun i H x H' => H' = H ∧ ∀ xs, SqL K H a xs → xs[i]? = some x, fun i H => ∃ xs, SqL K H a xs ∧ xs.length ≤ i⟩
def Itt (K : PySem.W.Frag) (a : Addr) : It :=
  ⟨fun i H => ∃ xs x, SqT K H a xs ∧ xs[i]? = some x, fun i H x H' => H' = H ∧ ∀ xs, SqT K H a xs → xs[i]? = some x, fun i H => ∃ xs, SqT K H a xs ∧ xs.length ≤ i⟩
/-  lo, lo + 1, .. (n of them) -/
theorem turn_list {P : Program} {w : World} {K : PySem.W.Frag} {tg : Expr} (a it : Addr) : Turn P w K tg (Itl K a) [it] it (fun i h => h.IsListIter it a i) where
  mem := by simp
  obj := fun i h st b hb => by
    have e : b = it := by simpa using hb
    subst e
    obtain ⟨o, e, c, d⟩ := st
    exact ⟨o, e, fun v z => by rw [d] at z; cases z⟩
  keep := fun i h h' st k => st.at fun o e => k it (by simp) o e
  item := by
    intro X hP hw hK hc i pins s σ H E I hf st hg
    subst hP hw hK
    obtain ⟨xs, x, hq, hx⟩ := hg
    obtain ⟨its, rv, p, hz⟩ := I.list hq
    obtain ⟨u, hu, ru⟩ := rv.get hx
    obtain ⟨f0, f1, f2, f3, f4, f5⟩ := hf it (by simp)
    refine wpAny_pyNext_list_item st p.isList (x := u) (by simpa using hu) fun h' st' sb => ?_
    have I1 : Inv X pins σ H { s with heap := h' } := I.turned (t' := s.toks) (fun b o hb e => (sb.2 b hb).trans e) f0 f1 f3 f4 f5
    obtain ⟨o, e, c, d⟩ := id st'
    exact ⟨u, rfl, go_of (s := { s with heap := h' }) e c d (by decide) ⟨x, H, I1, ru, ⟨rfl, fun ys hy => by rw [I.list_inj hy hq]; exact hx⟩, st', fun b hb => (hf b hb).1⟩⟩
  done := by
    intro X hP hw hK hc i pins s σ H E I hf st hg
    subst hP hw hK
    obtain ⟨xs, hq, hx⟩ := hg
    obtain ⟨its, rv, p, hz⟩ := I.list hq
    obtain ⟨f0, f1, f2, f3, f4, f5⟩ := hf it (by simp)
    have hl := rv.length
    exact wpAny_pyNext_list_end (I.ok.hd hc) st p.isList (by simp; (first | lia | omega)) fun h' eb => ⟨rfl, I.turned (t' := s.toks) (fun b o hb e => eb b o hb e) f0 f1 f3 f4 f5⟩
  self := fun _ _ _ _ _ st h => wpAny_pyIter_listiter st h
theorem turn_tuple {P : Program} {w : World} {K : PySem.W.Frag} {tg : Expr} (a it : Addr) : Turn P w K tg (Itt K a) [it] it (fun i h => h.IsTupleIter it a i) where
  mem := by simp
  obj := fun i h st b hb => by
    have e : b = it := by simpa using hb
    subst e
    obtain ⟨o, e, c, d⟩ := st
    exact ⟨o, e, fun v z => by rw [d] at z; cases z⟩
  keep := fun i h h' st k => st.at fun o e => k it (by simp) o e
  item := by
    intro X hP hw hK hc i pins s σ H E I hf st hg
    subst hP hw hK
    obtain ⟨xs, x, hq, hx⟩ := hg
    obtain ⟨its, rv, p, hz⟩ := I.tuple hq
    obtain ⟨u, hu, ru⟩ := rv.get hx
    obtain ⟨f0, f1, f2, f3, f4, f5⟩ := hf it (by simp)
    refine wpAny_pyNext_tuple_item st (show s.heap.IsTuple a its.toArray from p) (x := u) (by simpa using hu) fun h' st' sb => ?_
    have I1 : Inv X pins σ H { s with heap := h' } := I.turned (t' := s.toks) (fun b o hb e => (sb.2 b hb).trans e) f0 f1 f3 f4 f5
    obtain ⟨o, e, c, d⟩ := id st'
    exact ⟨u, rfl, go_of (s := { s with heap := h' }) e c d (by decide) ⟨x, H, I1, ru, ⟨rfl, fun ys hy => by rw [I.tuple_inj hy hq]; exact hx⟩, st', fun b hb => (hf b hb).1⟩⟩
  done := by
    intro X hP hw hK hc i pins s σ H E I hf st hg
    subst hP hw hK
    obtain ⟨xs, hq, hx⟩ := hg
    obtain ⟨its, rv, p, hz⟩ := I.tuple hq
    obtain ⟨f0, f1, f2, f3, f4, f5⟩ := hf it (by simp)
    have hl := rv.length
    exact wpAny_pyNext_tuple_end (I.ok.hd hc) st (show s.heap.IsTuple a its.toArray from p) (by simp; (first | lia | omega)) fun h' eb => ⟨rfl, I.turned (t' := s.toks) (fun b o hb e => eb b o hb e) f0 f1 f3 f4 f5⟩
  self := fun _ _ _ _ _ st h => wpAny_pyIter_tupleiter st h
end L2

namespace L2
open PySem PySem.Spec PyProof.Rows
section
variable {X : Cx} {tg : Expr}
def iList (K : PySem.W.Frag) (tl : TE) : TI := fun σ H R => tl σ H fun x H1 => ∃ a, x = .ref a ∧ (∃ xs, SqL K H1 a xs) ∧ R (Itl K a) H1
def iTup (K : PySem.W.Frag) (tl : TE) : TI := fun σ H R => tl σ H fun x H1 => ∃ a, x = .ref a ∧ (∃ xs, SqT K H1 a xs) ∧ R (Itt K a) H1
theorem pi_list {l : Expr} {tl : TE} (hl : PE X l tl) : PI X tg l (iList X.K tl) := by
  intro pins s σ H R I h
  refine thn (hl pins s σ H _ I h) fun v s1 hh10 => ?_
  obtain ⟨x, H1, I1, r1, q1⟩ := hh10
  obtain ⟨a, e, ⟨xs, hq⟩, q⟩ := q1
  subst e
  cases r1
  obtain ⟨its, rv, p, hz⟩ := I1.list hq
  refine wpAny_pyIter_list p.isList ?_
  refine ⟨s1.heap.objs.size, [s1.heap.objs.size], _, _, H1, rfl, I1.kept (t' := s1.toks) fun b o e => Heap.get?_push_of_some _ e, turn_list a _, ⟨_, Heap.get?_push_size _ rfl, rfl, rfl⟩, fun b hb => ?_, q⟩
  have e : b = s1.heap.objs.size := by simpa using hb
  subst e
  exact I1.fpOk (Nat.le_refl _) (I1.hok.fresh (Nat.le_refl _))
theorem pi_tup {l : Expr} {tl : TE} (hl : PE X l tl) : PI X tg l (iTup X.K tl) := by
  intro pins s σ H R I h
  refine thn (hl pins s σ H _ I h) fun v s1 hh11 => ?_
  obtain ⟨x, H1, I1, r1, q1⟩ := hh11
  obtain ⟨a, e, ⟨xs, hq⟩, q⟩ := q1
  subst e
  cases r1
  obtain ⟨its, rv, p, hz⟩ := I1.tuple hq
  refine wpAny_pyIter_tuple (show s1.heap.IsTuple a its.toArray from p) ?_
  refine ⟨s1.heap.objs.size, [s1.heap.objs.size], _, _, H1, rfl, I1.kept (t' := s1.toks) fun b o e => Heap.get?_push_of_some _ e, turn_tuple a _, ⟨_, Heap.get?_push_size _ rfl, rfl, rfl⟩, fun b hb => ?_, q⟩
  have e : b = s1.heap.objs.size := by simpa using hb
  subst e
  exact I1.fpOk (Nat.le_refl _) (I1.hok.fresh (Nat.le_refl _))
/-  a range object just made, walked -/
/-! ### for -/
/-  W: the invariant by the turn and a measure; N: what the body is to reach -/
def tFor (wi : TI) (g : TG) (tb : TS) : TS := fun D σ H => wi σ H fun J H1 => ∃ W : Nat → Nat → St → Hp → Prop, (∃ m, W 0 m σ H1) ∧ ∀ i m σ H, W i m σ H →
  (J.stop i H ∧ D.nx σ H) ∨ (J.go i H ∧ ∃ N : St → Hp → Prop, (∀ σ' H', N σ' H' → ∃ m', m' < m ∧ W (i + 1) m' σ' H') ∧ ∀ x H', J.yld i H x H' → g x σ H' fun σ2 H2 => tb { D with nx := N, ct := N, bk := D.nx } σ2 H2)
/-  the records at fp as they stand -/
def pinsAt (fp : List Addr) (h : Heap) : List (Addr × Obj) := fp.filterMap fun b => (h.get? b).map fun o => (b, o)
theorem mem_pinsAt {fp : List Addr} {h : Heap} {b : Addr} {o : Obj} (hb : b ∈ fp) (e : h.get? b = some o) : (b, o) ∈ pinsAt fp h := List.mem_filterMap.mpr ⟨b, hb, by rw [e]; rfl⟩
theorem of_pinsAt {fp : List Addr} {h : Heap} {p : Addr × Obj} (hp : p ∈ pinsAt fp h) : p.1 ∈ fp ∧ h.get? p.1 = some p.2 := by
  obtain ⟨b, hb, e⟩ := List.mem_filterMap.mp hp
  cases q : h.get? b with
  | none => rw [q] at e; cases e
  | some o =>
    rw [q] at e
    have e' : (b, o) = p := Option.some.inj e
    subst e'
    exact ⟨hb, q⟩
theorem Inv.pinned {pins : List (Addr × Obj)} {σ : St} {H : Hp} {s : Shared} {fp : List Addr} (I : Inv X pins σ H s) (hf : ∀ b ∈ fp, FpOk X pins H b) (ho : ∀ b ∈ fp, ∃ o, s.heap.get? b = some o ∧ ∀ v, o.data ≠ .cell v) : Inv X (pins ++ pinsAt fp s.heap) σ H s :=
  I.pins_of fun p hp => (List.mem_append.mp hp).elim (fun z => I.pin p (List.mem_append_right _ z)) fun z => by
    obtain ⟨hb, e⟩ := of_pinsAt z
    obtain ⟨f0, f1, f2, _⟩ := hf p.1 hb
    obtain ⟨o, e', d⟩ := ho p.1 hb
    rw [e] at e'; cases e'
    exact ⟨e, f0, f1, f2, d⟩
theorem Inv.unpinned {pins pl : List (Addr × Obj)} {σ : St} {H : Hp} {s : Shared} (I : Inv X (pins ++ pl) σ H s) : Inv X pins σ H s := I.pins_of fun p hp => I.pin p (List.mem_append_right _ (List.mem_append_left _ hp))
theorem ps_for {iter : Expr} {body : List Stmt} {wi : TI} {g : TG} {tb : TS} {pos : Pos} (hp : PassesOwn (model X.prog X.w) X.A X.env X.xe) (hc : X.calm = true) (hi : PI X tg iter wi) (hg : PG X tg g) (hb : PSs X body tb)
    (hs : ∀ x, foldedSetIterable iter X.env x = pure x := by intro _; rfl) : PS X (.For tg iter body [] pos) (tFor wi g tb) := by
  intro pins s σ H D I h
  refine wpAny_For (thn (hi pins s σ H _ I h) fun v s1 h1 => thn h1 fun itv s2 h2 => ?_) hs
  obtain ⟨it, fp, tn, J, H2, e, I2, T, st2, f2, W, ⟨m0, w0⟩, turn⟩ := h2
  subst e
  -- what stays true of the iterator's objects through the loop
  have stat : ∀ {H' : Hp}, (∀ b ∈ fp, H' b = none) → ∀ b ∈ fp, FpOk X pins H' b := fun hn b hb => ⟨hn b hb, (f2 b hb).2⟩
  refine codeAny_forLoop_any (fun n s' => ∃ i σ' H', Inv X pins σ' H' s' ∧ tn i s'.heap ∧ (∀ b ∈ fp, H' b = none) ∧ W i n σ' H') ?_ m0 ⟨0, σ, H2, I2, st2, fun b hb => (f2 b hb).1, w0⟩
  rintro n s3 ⟨i, σ3, H3, I3, st3, fr3, w3⟩
  rcases turn i n σ3 H3 w3 with ⟨stop, qn⟩ | ⟨go, N, hN, step⟩
  · refine wpAny_passesOwn hp (thn (T.done X rfl rfl rfl hc i pins s3 σ3 H3 X.xe I3 (stat fr3) st3 stop) fun r s4 hh12 => ?_)
    obtain ⟨hr, I4⟩ := hh12
    subst hr
    exact wpAny_execs_nil ⟨σ3, H3, I4, qn⟩
  · refine wpAny_passesOwn hp (thn (T.item X rfl rfl rfl hc i pins s3 σ3 H3 X.xe I3 (stat fr3) st3 go) fun r s4 hh13 => ?_)
    obtain ⟨u, hr, h4⟩ := hh13
    subst hr
    refine wpAny_passesOwn hp (thn h4 fun _ s5 hh14 => ?_)
    obtain ⟨x, H5, I5, r5, y5, st5, fr5⟩ := hh14
    have I5' := I5.pinned (stat fr5) (T.obj _ _ st5)
    refine wpAny_passesOwn hp (thn (hg _ s5 σ3 H5 x u _ I5' r5 (step x H5 y5)) fun _ s6 hh15 => ?_)
    obtain ⟨σ6, H6, I6, q6⟩ := hh15
    refine wpAny_passesOwn hp (thn (hb _ s6 σ6 H6 _ I6 q6) fun f s7 q7 => ?_)
    have again : ∀ {σ7 : St} {H7 : Hp}, Inv X (pins ++ pinsAt fp s5.heap) σ7 H7 s7 → N σ7 H7 → ∃ m, m < n ∧ ∃ i σ' H', Inv X pins σ' H' s7 ∧ tn i s7.heap ∧ (∀ b ∈ fp, H' b = none) ∧ W i m σ' H' := fun {σ7 H7} I7 n7 => by
      obtain ⟨m', hm, w7⟩ := hN σ7 H7 n7
      refine ⟨m', hm, i + 1, σ7, H7, I7.unpinned, T.keep _ _ _ st5 fun b hb o e => (I7.pin (b, o) (List.mem_append_right _ (List.mem_append_right _ (mem_pinsAt hb e)))).1, fun b hb => ?_, w7⟩
      obtain ⟨o, e, d⟩ := T.obj _ _ st5 b hb
      exact (I7.pin (b, o) (List.mem_append_right _ (List.mem_append_right _ (mem_pinsAt hb e)))).2.1
    cases f with
    | next => obtain ⟨σ7, H7, I7, n7⟩ := q7; exact again I7 n7
    | cont => obtain ⟨σ7, H7, I7, n7⟩ := q7; exact again I7 n7
    | brk => obtain ⟨σ7, H7, I7, q7⟩ := q7; exact ⟨σ7, H7, I7.unpinned, q7⟩
    | ret v => obtain ⟨x7, σ7, H7, I7, r7, q7⟩ := q7; exact ⟨x7, σ7, H7, I7.unpinned, r7, q7⟩
end

/-! ### the forms one uses -/
/-  over a list that the body leaves as it is -/
theorem for_list {K : PySem.W.Frag} {a : Addr} {xs : List V} {g : TG} {tb : TS} {D : Ends} {σ : St} {H : Hp} (Pv : Nat → St → Hp → Prop) (h0 : Pv 0 σ H) (hl : ∀ i σ H, i ≤ xs.length → Pv i σ H → SqL K H a xs)
    (hs : ∀ i x σ H, xs[i]? = some x → Pv i σ H → g x σ H fun σ2 H2 => tb { D with nx := Pv (i + 1), ct := Pv (i + 1), bk := D.nx } σ2 H2) (hd : ∀ σ H, Pv xs.length σ H → D.nx σ H) :
    ∃ W : Nat → Nat → St → Hp → Prop, (∃ m, W 0 m σ H) ∧ ∀ i m σ H, W i m σ H →
      ((Itl K a).stop i H ∧ D.nx σ H) ∨ ((Itl K a).go i H ∧ ∃ N : St → Hp → Prop, (∀ σ' H', N σ' H' → ∃ m', m' < m ∧ W (i + 1) m' σ' H') ∧ ∀ x H', (Itl K a).yld i H x H' → g x σ H' fun σ2 H2 => tb { D with nx := N, ct := N, bk := D.nx } σ2 H2) := by
  refine ⟨fun i m σ H => m = xs.length - i ∧ i ≤ xs.length ∧ Pv i σ H, ⟨xs.length, by simp, Nat.zero_le _, h0⟩, ?_⟩
  rintro i m σ H ⟨rfl, hi, p⟩
  have q := hl i σ H hi p
  by_cases hlt : i < xs.length
  · refine .inr ⟨⟨xs, xs[i], q, by simp [hlt]⟩, Pv (i + 1), fun σ' H' p' => ⟨xs.length - (i + 1), by (first | lia | omega), rfl, hlt, p'⟩, fun x H' y => ?_⟩
    obtain ⟨e, y⟩ := y
    subst e
    exact hs i x σ _ (y xs q) p
  · have e : i = xs.length := by (first | lia | omega)
    subst e
    exact .inl ⟨⟨xs, q, Nat.le_refl _⟩, hd σ H p⟩
theorem for_tup {K : PySem.W.Frag} {a : Addr} {xs : List V} {g : TG} {tb : TS} {D : Ends} {σ : St} {H : Hp} (Pv : Nat → St → Hp → Prop) (h0 : Pv 0 σ H) (hl : ∀ i σ H, i ≤ xs.length → Pv i σ H → SqT K H a xs)
    (hs : ∀ i x σ H, xs[i]? = some x → Pv i σ H → g x σ H fun σ2 H2 => tb { D with nx := Pv (i + 1), ct := Pv (i + 1), bk := D.nx } σ2 H2) (hd : ∀ σ H, Pv xs.length σ H → D.nx σ H) :
    ∃ W : Nat → Nat → St → Hp → Prop, (∃ m, W 0 m σ H) ∧ ∀ i m σ H, W i m σ H →
      ((Itt K a).stop i H ∧ D.nx σ H) ∨ ((Itt K a).go i H ∧ ∃ N : St → Hp → Prop, (∀ σ' H', N σ' H' → ∃ m', m' < m ∧ W (i + 1) m' σ' H') ∧ ∀ x H', (Itt K a).yld i H x H' → g x σ H' fun σ2 H2 => tb { D with nx := N, ct := N, bk := D.nx } σ2 H2) := by
  refine ⟨fun i m σ H => m = xs.length - i ∧ i ≤ xs.length ∧ Pv i σ H, ⟨xs.length, by simp, Nat.zero_le _, h0⟩, ?_⟩
  rintro i m σ H ⟨rfl, hi, p⟩
  have q := hl i σ H hi p
  by_cases hlt : i < xs.length
  · refine .inr ⟨⟨xs, xs[i], q, by simp [hlt]⟩, Pv (i + 1), fun σ' H' p' => ⟨xs.length - (i + 1), by (first | lia | omega), rfl, hlt, p'⟩, fun x H' y => ?_⟩
    obtain ⟨e, y⟩ := y
    subst e
    exact hs i x σ _ (y xs q) p
  · have e : i = xs.length := by (first | lia | omega)
    subst e
    exact .inl ⟨⟨xs, q, Nat.le_refl _⟩, hd σ H p⟩
/-  while, by a word and a measure of the state -/
end L2

namespace L2
open PySem PySem.Spec PyProof.Rows

abbrev R2 := V → V → Hp → VK → Prop
/-  a two-place operation on values: f is binaryOp op, inplaceOp op or compareOp op -/
def OpR (X : Cx) (f : Value → Value → Sem Value) (r : R2) : Prop :=
  ∀ (pins : List (Addr × Obj)) (s : Shared) (σ : St) (H : Hp) (x y : V) (v u : Value) (Q : VK), Inv X pins σ H s → RelV x v → RelV y u → r x y H Q →
    wpAny (model X.prog X.w) X.A (f v u) (EP X pins σ Q) X.xe s
/-  a one-place operation -/
def UnR (X : Cx) (f : Value → Sem Value) (r : V → Hp → VK → Prop) : Prop :=
  ∀ (pins : List (Addr × Obj)) (s : Shared) (σ : St) (H : Hp) (x : V) (v : Value) (Q : VK), Inv X pins σ H s → RelV x v → r x H Q →
    wpAny (model X.prog X.w) X.A (f v) (EP X pins σ Q) X.xe s
/-  a call of a value that is known (a builtin, a type) with values -/
def CallR (X : Cx) (f : Value) (r : List V → Hp → VK → Prop) : Prop :=
  ∀ (pins : List (Addr × Obj)) (s : Shared) (σ : St) (H : Hp) (xs : List V) (us : List Value) (Q : VK), Inv X pins σ H s → Vals xs us → r xs H Q →
    wpAny (model X.prog X.w) X.A (call f us) (EP X pins σ Q) X.xe s
/-  a value's truth -/
def tOp (r : R2) (ta tb : TE) : TE := fun σ H Q => ta σ H fun x H1 => tb σ H1 fun y H2 => r x y H2 Q
def tUn (r : V → Hp → VK → Prop) (ta : TE) : TE := fun σ H Q => ta σ H fun x H1 => r x H1 Q
/-  ints in, under C, and a value out -/
def rI (C : Int → Int → Prop) (g : Int → Int → V) : R2 := fun x y H Q => ∃ i j, x = .int i ∧ y = .int j ∧ C i j ∧ Q (g i j) H
def rI0 (g : Int → Int → V) : R2 := fun x y H Q => ∃ i j, x = .int i ∧ y = .int j ∧ Q (g i j) H
def rU (g : Int → V) : V → Hp → VK → Prop := fun x H Q => ∃ i, x = .int i ∧ Q (g i) H

section
variable {X : Cx} {a b c : Expr} {ta tb tc : TE} {pos : Pos}

theorem binT (ha : PE X a ta) (hb : PE X b tb) {pins : List (Addr × Obj)} {s : Shared} {σ : St} {H : Hp} {R : V → V → Hp → Prop} (I : Inv X pins σ H s)
    (h : ta σ H fun x H1 => tb σ H1 fun y H2 => R x y H2) {Q : Value → Shared → Prop} {f : Value → Value → Sem Value}
    (hf : ∀ v u s2 x y H2, Inv X pins σ H2 s2 → RelV x v → RelV y u → R x y H2 → wpAny (model X.prog X.w) X.A (f v u) Q X.xe s2) :
    wpAny (model X.prog X.w) X.A (eval a X.env) (fun v s₁ => wpAny (model X.prog X.w) X.A (eval b X.env) (fun u s₂ => wpAny (model X.prog X.w) X.A (f v u) Q X.xe s₂) X.xe s₁) X.xe s := by
  refine thn (ha pins s σ H _ I h) fun v s1 hh16 => ?_
  obtain ⟨x, H1, I1, r1, q1⟩ := hh16
  refine thn (hb pins s1 σ H1 _ I1 q1) fun u s2 hh17 => ?_
  obtain ⟨y, H2, I2, r2, q2⟩ := hh17
  exact hf v u s2 x y H2 I2 r1 r2 q2

theorem pe_op {op : Operator} {r : R2} (ho : OpR X (binaryOp op) r) (ha : PE X a ta) (hb : PE X b tb) : PE X (.BinOp a op b pos) (tOp r ta tb) := by
  intro pins s σ H Q I h
  exact wpAny_BinOp (binT ha hb I h fun v u s2 x y H2 I2 rx ry q => ho pins s2 σ H2 x y v u Q I2 rx ry q)
theorem pe_un {op : UnaryOp} {r : V → Hp → VK → Prop} (ho : UnR X (unaryOp op) r) (ha : PE X a ta) : PE X (.UnaryOp op a pos) (tUn r ta) := by
  intro pins s σ H Q I h
  refine UnaryOp_ (thn (ha pins s σ H _ I h) fun v s1 hh18 => ?_)
  obtain ⟨x, H1, I1, r1, q1⟩ := hh18
  exact ho pins s1 σ H1 x v Q I1 r1 q1
/-  a op= e at a name: the name's slot i -/
/-! ### ints -/
theorem opI {f : Value → Value → Sem Value} {C : Int → Int → Prop} {g : Int → Int → Int}
    (rule : ∀ (i j : Int) (t u : Tok) (s : Shared) (Q : Value → Shared → Prop) (E : Value → Shared → Prop), C i j → Q (.int (g i j) s.toks) { s with toks := s.toks + 1 } → wpAny (model X.prog X.w) X.A (f (.int i t) (.int j u)) Q E s) :
    OpR X f (rI C fun i j => .int (g i j)) := by
  intro pins s σ H x y v u Q I rx ry h
  obtain ⟨i, j, rfl, rfl, hc, q⟩ := h
  obtain ⟨t, rfl⟩ := rx
  obtain ⟨t', rfl⟩ := ry
  exact rule i j t t' s _ _ hc ⟨.int (g i j), H, I.tok _, ⟨_, rfl⟩, q⟩
theorem opI0 {f : Value → Value → Sem Value} {g : Int → Int → Int}
    (rule : ∀ (i j : Int) (t u : Tok) (s : Shared) (Q : Value → Shared → Prop) (E : Value → Shared → Prop), Q (.int (g i j) s.toks) { s with toks := s.toks + 1 } → wpAny (model X.prog X.w) X.A (f (.int i t) (.int j u)) Q E s) :
    OpR X f (rI0 fun i j => .int (g i j)) := by
  intro pins s σ H x y v u Q I rx ry h
  obtain ⟨i, j, rfl, rfl, q⟩ := h
  obtain ⟨t, rfl⟩ := rx
  obtain ⟨t', rfl⟩ := ry
  exact rule i j t t' s _ _ ⟨.int (g i j), H, I.tok _, ⟨_, rfl⟩, q⟩
theorem opB0 {f : Value → Value → Sem Value} {g : Int → Int → Bool}
    (rule : ∀ (i j : Int) (t u : Tok) (s : Shared) (Q : Value → Shared → Prop) (E : Value → Shared → Prop), Q (.bool (g i j)) s → wpAny (model X.prog X.w) X.A (f (.int i t) (.int j u)) Q E s) :
    OpR X f (rI0 fun i j => .bl (g i j)) := by
  intro pins s σ H x y v u Q I rx ry h
  obtain ⟨i, j, rfl, rfl, q⟩ := h
  obtain ⟨t, rfl⟩ := rx
  obtain ⟨t', rfl⟩ := ry
  exact rule i j t t' s _ _ ⟨.bl (g i j), H, I, rfl, q⟩

def CPow (i j : Int) : Prop := 0 ≤ j ∧ j ≤ 1000000 ∧ i.natAbs < 2 ^ 64
def CMul (i j : Int) : Prop := (-(2 ^ 64) < i ∧ i < 2 ^ 64) ∨ (-(2 ^ 64) < j ∧ j < 2 ^ 64)
theorem CMul.ok {i j : Int} (h : CMul i j) : IntMulOk i j := by
  rcases h with ⟨h1, h2⟩ | ⟨h1, h2⟩
  · exact .of_left (intBits_le_64 h1 h2)
  · exact .of_right (intBits_le_64 h1 h2)
theorem op_add : OpR X (binaryOp .Add) (rI0 fun i j => .int (i + j)) := opI0 fun _ _ _ _ _ _ _ q => add_int q
theorem op_sub : OpR X (binaryOp .Sub) (rI0 fun i j => .int (i - j)) := opI0 fun _ _ _ _ _ _ _ q => sub_int q
theorem op_mul : OpR X (binaryOp .Mult) (rI CMul fun i j => .int (i * j)) := opI fun _ _ _ _ _ _ _ hc q => mul_int q hc.ok
/-  // by a positive divisor -/
/-  % by a positive divisor of any size -/
theorem op_mod : OpR X (binaryOp .Mod) (rI (fun _ j => 0 < j) fun i j => .int (i % j)) := opI fun i j _ _ _ _ _ hc q => by
  have h1 : (0 : Int) < j := hc
  exact mod_int' (by (first | lia | omega)) (by rw [Int.fmod_eq_emod_of_nonneg i (by (first | lia | omega))]; exact q)
theorem op_pow : OpR X (binaryOp .Pow) (rI CPow fun i j => .int (i ^ j.toNat)) := opI fun _ _ _ _ _ _ _ hc q => pow_int_small hc.1 hc.2.1 hc.2.2 q
theorem unI {f : Value → Sem Value} {g : Int → Int}
    (rule : ∀ (i : Int) (t : Tok) (s : Shared) (Q : Value → Shared → Prop) (E : Value → Shared → Prop), Q (.int (g i) s.toks) { s with toks := s.toks + 1 } → wpAny (model X.prog X.w) X.A (f (.int i t)) Q E s) :
    UnR X f (rU fun i => .int (g i)) := by
  intro pins s σ H x v Q I rx h
  obtain ⟨i, rfl, q⟩ := h
  obtain ⟨t, rfl⟩ := rx
  exact rule i t s _ _ ⟨.int (g i), H, I.tok _, ⟨_, rfl⟩, q⟩
theorem un_neg : UnR X (unaryOp .USub) (rU fun i => .int (-i)) := unI fun _ _ _ _ _ q => neg_int q
/-! ### bools among ints: n += (a < b) -/
end

/-! ### comparisons -/
/-  the scalars that == tells apart as data does -/
def scal : V → V → Bool
  | .non, .non => true | .non, .int _ => true | .int _, .non => true | .non, .bl _ => true | .bl _, .non => true | .non, .str _ => true | .str _, .non => true
  | .int _, .int _ => true | .bl _, .bl _ => true | .str _, .str _ => true | .byt _, .byt _ => true
  | .int _, .str _ => true | .str _, .int _ => true | .bl _, .str _ => true | .str _, .bl _ => true
  | _, _ => false
def rEq : R2 := fun x y H Q => scal x y = true ∧ Q (.bl (decide (x = y))) H
def rNe : R2 := fun x y H Q => scal x y = true ∧ Q (.bl (!decide (x = y))) H

theorem dec_int {i j : Int} : decide (V.int i = V.int j) = (i == j) := by
  rw [Bool.eq_iff_iff]
  simp
theorem dec_bl {i j : Bool} : decide (V.bl i = V.bl j) = (i == j) := by
  rw [Bool.eq_iff_iff]
  simp
theorem dec_str {i j : Str} : decide (V.str i = V.str j) = (i == j) := by
  rw [Bool.eq_iff_iff]
  simp
theorem dec_byt {i j : Array UInt8} : decide (V.byt i = V.byt j) = (i.toList == j.toList) := by
  rw [Bool.eq_iff_iff]
  cases i
  cases j
  simp

section
variable {X : Cx} {a b c : Expr} {ta tb tc : TE} {pos : Pos}
theorem fin_bl {pins : List (Addr × Obj)} {σ : St} {H : Hp} {s : Shared} {Q : VK} {k k' : Bool} (I : Inv X pins σ H s) (q : Q (.bl k) H) (e : k = k') : EP X pins σ Q (.bool k') s := by
  subst e
  exact ⟨.bl k, H, I, rfl, q⟩
theorem op_eq : OpR X (compareOp .Eq) rEq := by
  intro pins s σ H x y v u Q I rx ry h
  obtain ⟨hs, q⟩ := h
  cases x with
  | non =>
    cases rx
    cases y with
    | non => cases ry; exact PySem.EqNone.eq_none_none (fin_bl I q (by simp))
    | bl j => cases ry; exact PySem.EqNone.eq_none_bool (fin_bl I q (by simp))
    | int j => obtain ⟨t', rfl⟩ := ry; exact PySem.EqNone.eq_none_int (fin_bl I q (by simp))
    | str j => obtain ⟨t', rfl⟩ := ry; exact PySem.EqNone.eq_none_str (fin_bl I q (by simp))
    | _ => exact absurd (show false = true from hs) Bool.false_ne_true
  | bl i =>
    cases rx
    cases y with
    | non => cases ry; exact PySem.EqNone.eq_bool_none (fin_bl I q (by simp))
    | bl j => cases ry; exact eq_bool (fin_bl I q dec_bl)
    | str j => obtain ⟨t', rfl⟩ := ry; exact PySem.EqMixed.eq_bool_str (fin_bl I q (by simp))
    | _ => exact absurd (show false = true from hs) Bool.false_ne_true
  | int i =>
    obtain ⟨t, rfl⟩ := rx
    cases y with
    | non => cases ry; exact PySem.EqNone.eq_int_none (fin_bl I q (by simp))
    | int j => obtain ⟨t', rfl⟩ := ry; exact eq_int (fin_bl I q dec_int)
    | str j => obtain ⟨t', rfl⟩ := ry; exact PySem.EqMixed.eq_int_str (fin_bl I q (by simp))
    | _ => exact absurd (show false = true from hs) Bool.false_ne_true
  | str i =>
    obtain ⟨t, rfl⟩ := rx
    cases y with
    | non => cases ry; exact PySem.EqNone.eq_str_none (fin_bl I q (by simp))
    | bl j => cases ry; exact PySem.EqMixed.eq_str_bool (fin_bl I q (by simp))
    | int j => obtain ⟨t', rfl⟩ := ry; exact PySem.EqMixed.eq_str_int (fin_bl I q (by simp))
    | str j => obtain ⟨t', rfl⟩ := ry; exact eq_str (fin_bl I q dec_str)
    | _ => exact absurd (show false = true from hs) Bool.false_ne_true
  | byt i =>
    obtain ⟨t, rfl⟩ := rx
    cases y with
    | byt j => obtain ⟨t', rfl⟩ := ry; exact PySem.W.eq_bytes (fin_bl I q dec_byt)
    | _ => exact absurd (show false = true from hs) Bool.false_ne_true
  | _ => cases y <;> exact absurd (show false = true from hs) Bool.false_ne_true
theorem op_ne : OpR X (compareOp .NotEq) rNe := by
  intro pins s σ H x y v u Q I rx ry h
  obtain ⟨hs, q⟩ := h
  cases x with
  | non =>
    cases rx
    cases y with
    | non => cases ry; exact PySem.EqNone.ne_none_none (fin_bl I q (by simp))
    | bl j => cases ry; exact PySem.EqNone.ne_none_bool (fin_bl I q (by simp))
    | int j => obtain ⟨t', rfl⟩ := ry; exact PySem.EqNone.ne_none_int (fin_bl I q (by simp))
    | str j => obtain ⟨t', rfl⟩ := ry; exact PySem.EqNone.ne_none_str (fin_bl I q (by simp))
    | _ => exact absurd (show false = true from hs) Bool.false_ne_true
  | bl i =>
    cases rx
    cases y with
    | non => cases ry; exact PySem.EqNone.ne_bool_none (fin_bl I q (by simp))
    | bl j => cases ry; exact ne_bool (fin_bl I q (congrArg not dec_bl))
    | str j => obtain ⟨t', rfl⟩ := ry; exact PySem.EqMixed.ne_bool_str (fin_bl I q (by simp))
    | _ => exact absurd (show false = true from hs) Bool.false_ne_true
  | int i =>
    obtain ⟨t, rfl⟩ := rx
    cases y with
    | non => cases ry; exact PySem.EqNone.ne_int_none (fin_bl I q (by simp))
    | int j => obtain ⟨t', rfl⟩ := ry; exact ne_int (fin_bl I q (congrArg not dec_int))
    | str j => obtain ⟨t', rfl⟩ := ry; exact PySem.EqMixed.ne_int_str (fin_bl I q (by simp))
    | _ => exact absurd (show false = true from hs) Bool.false_ne_true
  | str i =>
    obtain ⟨t, rfl⟩ := rx
    cases y with
    | non => cases ry; exact PySem.EqNone.ne_str_none (fin_bl I q (by simp))
    | bl j => cases ry; exact PySem.EqMixed.ne_str_bool (fin_bl I q (by simp))
    | int j => obtain ⟨t', rfl⟩ := ry; exact PySem.EqMixed.ne_str_int (fin_bl I q (by simp))
    | str j => obtain ⟨t', rfl⟩ := ry; exact ne_str (fin_bl I q (congrArg not dec_str))
    | _ => exact absurd (show false = true from hs) Bool.false_ne_true
  | byt i =>
    obtain ⟨t, rfl⟩ := rx
    cases y with
    | byt j => obtain ⟨t', rfl⟩ := ry; exact PySem.W.ne_bytes (fin_bl I q (congrArg not dec_byt))
    | _ => exact absurd (show false = true from hs) Bool.false_ne_true
  | _ => cases y <;> exact absurd (show false = true from hs) Bool.false_ne_true

theorem op_lt : OpR X (compareOp .Lt) (rI0 fun i j => .bl (decide (i < j))) := opB0 fun _ _ _ _ _ _ _ q => lt_int q
theorem op_le : OpR X (compareOp .LtE) (rI0 fun i j => .bl (decide (i ≤ j))) := opB0 fun _ _ _ _ _ _ _ q => le_int q
theorem op_gt : OpR X (compareOp .Gt) (rI0 fun i j => .bl (decide (j < i))) := opB0 fun _ _ _ _ _ _ _ q => gt_int q
theorem op_ge : OpR X (compareOp .GtE) (rI0 fun i j => .bl (decide (j ≤ i))) := opB0 fun _ _ _ _ _ _ _ q => ge_int q
/-  the one string within the other -/
/-  is None, is not None: the right side a value none -/
/-  is, is not of two objects that are tracked lists or instances -/
/-  two rules for one operation: by cases -/
theorem nomark (b : Expr) {op : CmpOp} (h : op ≠ .In := by decide) (h2 : op ≠ .NotIn := by decide) : behindInMarks op b = false := by
  have e1 : (op == CmpOp.In) = false := by cases op <;> first | rfl | exact absurd rfl h
  have e2 : (op == CmpOp.NotIn) = false := by cases op <;> first | rfl | exact absurd rfl h2
  cases b <;> simp [behindInMarks, e1, e2]
/-  a comparison as a value; hm: nomark b, or (for in, not in) by with_unfolding_all rfl -/
theorem pe_cmpR {op : CmpOp} {r : R2} (ho : OpR X (compareOp op) r) (ha : PE X a ta) (hb : PE X b tb) (hm : behindInMarks op b = false) : PE X (.Compare a [op] [b] pos) (tOp r ta tb) := by
  intro pins s σ H Q I h
  exact wpAny_Compare1 (binT ha hb I h fun v u s2 x y H2 I2 rx ry q => ho pins s2 σ H2 x y v u Q I2 rx ry q) hm
/-  a reading of a value as a test -/
/-  a op1 b op2 c -/
/-! ### truth -/
/-  a value's truth by the abstract heap -/
theorem line63 : (sizeLine : Nat) < 2 ^ 63 := by rw [sizeLine_eq]; decide
/-  any expression whose test is its value's truth (a name, a call, a subscript, a field ..: he by fun _ => rfl) -/
/-! ### strs and bytes -/
/-  s[i], 0 ≤ i < len -/
/-  b[i], 0 ≤ i < len -/
/-! ### scalar builtins, by CallR -/
theorem vals1 {x : V} {us : List Value} (r : Vals [x] us) : ∃ u, us = [u] ∧ RelV x u := by
  cases r with
  | cons r1 r2 => cases r2; exact ⟨_, rfl, r1⟩
theorem vals2 {x y : V} {us : List Value} (r : Vals [x, y] us) : ∃ u w', us = [u, w'] ∧ RelV x u ∧ RelV y w' := by
  cases r with
  | cons r1 r2 =>
    cases r2 with
    | cons r3 r4 => cases r4; exact ⟨_, _, rfl, r1, r3⟩
theorem call_abs : CallR X (.builtin "abs") (fun xs H Q => ∃ i, xs = [.int i] ∧ Q (.int (if i < 0 then -i else i)) H) := by
  intro pins s σ H xs us Q I r h
  obtain ⟨i, rfl, q⟩ := h
  obtain ⟨u, rfl, t, rfl⟩ := vals1 r
  exact call_abs_int fun u tk => ⟨.int (if i < 0 then -i else i), H, I.tok _, ⟨_, rfl⟩, q⟩
theorem call_max2 (hc : X.calm = true) : CallR X (.builtin "max") (fun xs H Q => ∃ i j, xs = [.int i, .int j] ∧ Q (.int (if j > i then j else i)) H) := by
  intro pins s σ H xs us Q I r h
  obtain ⟨i, j, rfl, q⟩ := h
  obtain ⟨u, w', rfl, ⟨t, rfl⟩, ⟨t', rfl⟩⟩ := vals2 r
  refine max_two_ints (I.ok.hd hc) fun h' tk k => ⟨_, H, I.kept k, ?_, q⟩
  by_cases hj : j > i
  · rw [if_pos hj, if_pos hj]; exact ⟨_, rfl⟩
  · rw [if_neg hj, if_neg hj]; exact ⟨_, rfl⟩
theorem call_min2 (hc : X.calm = true) : CallR X (.builtin "min") (fun xs H Q => ∃ i j, xs = [.int i, .int j] ∧ Q (.int (if j < i then j else i)) H) := by
  intro pins s σ H xs us Q I r h
  obtain ⟨i, j, rfl, q⟩ := h
  obtain ⟨u, w', rfl, ⟨t, rfl⟩, ⟨t', rfl⟩⟩ := vals2 r
  refine min_two_ints (I.ok.hd hc) fun h' tk k => ⟨_, H, I.kept k, ?_, q⟩
  by_cases hj : j < i
  · rw [if_pos hj, if_pos hj]; exact ⟨_, rfl⟩
  · rw [if_neg hj, if_neg hj]; exact ⟨_, rfl⟩
theorem call_int1 : CallR X (.type "int") (fun xs H Q => (∃ i, xs = [.int i] ∧ Q (.int i) H) ∨ ∃ k, xs = [.bl k] ∧ Q (.int (if k then 1 else 0)) H) := by
  intro pins s σ H xs us Q I r h
  rcases h with ⟨i, rfl, q⟩ | ⟨k, rfl, q⟩
  · obtain ⟨u, rfl, t, rfl⟩ := vals1 r
    exact call_int_int ⟨.int i, H, I, ⟨_, rfl⟩, q⟩
  · obtain ⟨u, rfl, r1⟩ := vals1 r
    cases r1
    exact call_int_bool ⟨.int (if k then 1 else 0), H, I.tok _, ⟨_, rfl⟩, q⟩
/-  len of a str, a bytes, a list, a tuple -/
/-  divmod: a new tuple -/
end
end L2

namespace L2
open PySem PySem.Spec PyProof.Rows

/-! ### an instance, its attributes a map -/
structure ObjM (h : Heap) (x dx C : Addr) (mA : Str → Option Value) : Prop where
  obj : h.get? x = some (PySem.W.instObj C dx)
  ns : h.Ns1 dx mA
  ne : dx ≠ x

theorem lookIn_ns {h : Heap} {dx : Addr} {mA : Str → Option Value} (n : h.Ns1 dx mA) : ∃ od, h.get? dx = some od ∧ ∀ name, PySem.W.lookIn name od = some (mA name) := by
  obtain ⟨o, es, ep, ho, hd, hk, _, hm⟩ := n
  refine ⟨o, ho, fun name => ?_⟩
  have e := hm name
  unfold nsFind findBy at e
  rw [← Array.find?_toList] at e
  unfold PySem.W.lookIn
  rw [hd]
  dsimp only
  split
  · rename_i y q
    rw [q] at e
    exact congrArg some e
  · rename_i q
    rw [q] at e
    have a : es.toList.any (·.refKey) = false := by
      rw [List.any_eq_false]
      intro y hy
      obtain ⟨z, t, hkey⟩ := hk y (Array.mem_toList_iff.mp hy)
      simp [DictEntry.refKey, hkey]
    have a' : ¬ es.toList.any (·.refKey) = true := by rw [a]; exact Bool.false_ne_true
    rw [if_neg a']
    exact congrArg some e

theorem ObjM.look {h : Heap} {x dx C : Addr} {mA : Str → Option Value} (I : ObjM h x dx C mA) : ∃ od, PySem.W.InstAt h x (PySem.W.instObj C dx) C (some od) ∧ ∀ name, PySem.W.lookIn name od = some (mA name) :=
  let ⟨od, ho, hl⟩ := lookIn_ns I.ns
  ⟨od, ⟨I.obj, rfl, rfl, ho⟩, hl⟩

section
variable {prog : Program} {w : World} {A : Around} {E : Value → Shared → Prop} {s : Shared} {K : PySem.W.Frag} {x dx C f : Addr} {mA : Str → Option Value} {name : Str} {v : Value}

theorem get_map {expr : Bool} {Q : Value → Shared → Prop} (X : K.In s.heap) (I : ObjM s.heap x dx C mA) (hg : PySem.W.plainGet K C name = true) (hh : PySem.W.hasDictIn K C = true)
    (ha : PySem.W.findIn K (.ref C) name = some none) (hv : mA name = some v) (hv' : PySem.W.handedIn v = true) (h : Q v { s with toks := s.toks + 1 }) :
    wpAny (model prog w) A (getAttr (.ref x) name expr) Q E s := by
  obtain ⟨od, J, hl⟩ := I.look
  exact PySem.W.get_value X J (PySem.W.plainGet_of hg).1 (PySem.W.findObj_own hh ha rfl (by rw [hl, hv])) hv' h

theorem get_meth {pl : Sem Bool} {Q : Value × List Value → Shared → Prop} (X : K.In s.heap) (I : ObjM s.heap x dx C mA) (hg : PySem.W.plainGet K C name = true)
    (hf : PySem.W.findIn K (.ref C) name = some (some (.ref f))) (ht : PySem.W.isFn K (.ref f) = true) (hv : mA name = none) (h : Q (.ref f, [.ref x]) s) :
    wpAny (model prog w) A (getMethod (.ref x) name pl) Q E s := by
  obtain ⟨od, J, hl⟩ := I.look
  exact PySem.W.method_fn X J (PySem.W.plainGet_of hg).1 (PySem.W.plainGet_of hg).2 hf (beq_iff_eq.mp ht) (by show (PySem.W.lookIn name od).map (·.isSome) = some false; rw [hl, hv]; rfl) h

theorem set_map {ns : List Str} {Q : Unit → Shared → Prop} (X : K.In s.heap) (I : ObjM s.heap x dx C mA)
    (hs : PySem.W.findIn K (.ref C) "__setattr__" = some (some (.builtin "object.__setattr__"))) (hp : PySem.W.plainOver K C = true) (ht : PySem.W.takerIn K C name = some none) (hh : PySem.W.hasDictIn K C = true)
    (hw : PySem.Within mA ns) (hsz : ns.length ≤ sizeLine)
    (h : ∀ h', ObjM h' x dx C (fun y => if y = name then some v else mA y) → Heap.SameBut dx s.heap h' → Q () { s with heap := h', toks := s.toks + 2 }) :
    wpAny (model prog w) A (setAttr (.ref x) name v) Q E s := by
  obtain ⟨od, J, hl⟩ := I.look
  refine PySem.W.set_plain X J hs (PySem.W.osa_open (s := { s with toks := s.toks + 1 }) (r := none) X J hp ht fun b => ?_)
  obtain ⟨cd, hc, hd'⟩ := PySem.W.any_some hh
  have hx : s.heap.get? x = some ⟨.ref C, some dx, .plain, #[]⟩ := I.obj
  refine wpAny_bind (wpAny_pure (wpAny_bind (wpAny_bind (wpAny_loadPart hx (wpAny_bind (PySem.W.Looks.here (s := { s with toks := s.toks + 1 }) (PySem.W.looks_clsIn X hc) ?_))))))
  rw [hd']
  refine wpAny_pure (a := some dx) (wpAny_bind (wpAny_pure (wpAny_bind ?_)))
  refine wpAny_nsSet1 (s := { s with toks := s.toks + 1 }) I.ns fun h' hn2 hs2 => ?_
  obtain ⟨oD, esD, epD, hoD, hdD, hcD⟩ := hn2.count (PySem.Within.cons name v hw)
  refine wpAny_bind (wpAny_lookBehind hoD (by rw [hdD]; exact pastItsLine_dict (Nat.le_trans hcD (by rw [List.length_cons]; (first | lia | omega)))) ?_)
  exact wpAny_pure (h _ ⟨(hs2.2 _ (Ne.symm I.ne)).trans I.obj, hn2, I.ne⟩ hs2)

/-  C(..): the dict at the heap's end, the instance behind it; then its __init__ -/
theorem make_map {R : Result → Shared → Prop} {vs : List Value} {kw : List (Str × Value)} (X : K.In s.heap) (hm : PySem.W.makesIn K C = true)
    (hi : PySem.W.findIn K (.ref C) "__init__" = some (some (.ref f))) (hf : PySem.W.typeIn K (.ref f) = some (.type "function"))
    (h : codeAny (model prog w) (A.under (.builtin "type.__call__" ⟨.ref C :: vs, kw⟩)) (.call (.ref f) ⟨.ref (s.heap.objs.size + 1) :: vs, kw⟩) (PySem.W.InitBack (s.heap.objs.size + 1) R)
      { s with heap := (s.heap.push PySem.W.emptyDict).push (PySem.W.instObj C s.heap.objs.size) }) :
    codeAny (model prog w) A (.call (.ref C) ⟨vs, kw⟩) R s := by
  obtain ⟨hh, g, d, t, os⟩ := s
  exact PySem.W.make_core (PySem.W.makes_of X hm) (PySem.W.looks_findIn X hi) (fun self => PySem.W.bind_fn X self hf) (.inl rfl) h
/-  C() where there is no __init__ but object's -/
end

/-! ### the attributes as a list of pairs -/
def putF (f : Str) (v : V) : List (Str × V) → List (Str × V)
  | [] => [(f, v)]
  | (g, x) :: r => if g = f then (g, v) :: r else (g, x) :: putF f v r
theorem lookup_putF (f g : Str) (v : V) : ∀ fs : List (Str × V), (putF f v fs).lookup g = if g = f then some v else fs.lookup g
  | [] => by
    show List.lookup g [(f, v)] = _
    by_cases h : g = f
    · have hb : (g == f) = true := beq_iff_eq.mpr h
      simp only [List.lookup, hb, if_pos h]
    · have hb : (g == f) = false := beq_eq_false_iff_ne.mpr h
      simp only [List.lookup, hb, if_neg h]
  | (k, x) :: r => by
    have ih := lookup_putF f g v r
    rw [show putF f v ((k, x) :: r) = (if k = f then (k, v) :: r else (k, x) :: putF f v r) from rfl]
    by_cases hk : k = f
    · rw [if_pos hk]
      by_cases h : g = k
      · have hb : (g == k) = true := beq_iff_eq.mpr h
        simp only [List.lookup, hb, if_pos (h.trans hk)]
      · have hb : (g == k) = false := beq_eq_false_iff_ne.mpr h
        simp only [List.lookup, hb, if_neg (fun e : g = f => h (e.trans hk.symm))]
    · rw [if_neg hk]
      by_cases h : g = k
      · have hb : (g == k) = true := beq_iff_eq.mpr h
        simp only [List.lookup, hb, if_neg (fun e : g = f => hk (h.symm.trans e))]
      · have hb : (g == k) = false := beq_eq_false_iff_ne.mpr h
        simp only [List.lookup, hb]
        exact ih
theorem keys_putF (f : Str) (v : V) : ∀ fs : List (Str × V), f ∈ (putF f v fs).map (·.1) ∧ ∀ g, g ∈ fs.map (·.1) → g ∈ (putF f v fs).map (·.1)
  | [] => ⟨by simp [putF], fun g h => by simp at h⟩
  | (k, x) :: r => by
    obtain ⟨i1, i2⟩ := keys_putF f v r
    rw [show putF f v ((k, x) :: r) = (if k = f then (k, v) :: r else (k, x) :: putF f v r) from rfl]
    by_cases hk : k = f
    · rw [if_pos hk]
      subst hk
      exact ⟨by simp, fun g h => by simpa using h⟩
    · rw [if_neg hk]
      refine ⟨?_, fun g h => ?_⟩
      · rw [List.map_cons]
        exact List.mem_cons_of_mem _ i1
      · rw [List.map_cons] at h ⊢
        rcases List.mem_cons.mp h with e | e
        · exact List.mem_cons.mpr (.inl e)
        · exact List.mem_cons_of_mem _ (i2 g e)
theorem length_putF (f : Str) (v : V) : ∀ fs : List (Str × V), (putF f v fs).length ≤ fs.length + 1
  | [] => by simp [putF]
  | (k, x) :: r => by
    have ih := length_putF f v r
    rw [show putF f v ((k, x) :: r) = (if k = f then (k, v) :: r else (k, x) :: putF f v r) from rfl]
    by_cases hk : k = f
    · rw [if_pos hk, List.length_cons, List.length_cons]; (first | lia | omega)
    · rw [if_neg hk, List.length_cons, List.length_cons]; (first | lia | omega)

theorem RelO.some_of {v : V} {o : Option Value} (r : RelO (some v) o) : ∃ u, o = some u ∧ RelV v u := by
  cases o with
  | none => exact (show False from r).elim
  | some u => exact ⟨u, rfl, r⟩
theorem RelO.none_of {o : Option Value} (r : RelO none o) : o = none := by
  cases o with
  | none => rfl
  | some u => exact (show False from r).elim
theorem handed_of {v : V} {u : Value} (r : RelV v u) : PySem.W.handedIn u = true := by
  cases v with
  | non => cases (show u = Value.none from r); rfl
  | bl b => cases (show u = Value.bool b from r); rfl
  | int i => obtain ⟨t, e⟩ := (show ∃ t, u = Value.int i t from r); cases e; rfl
  | str x => obtain ⟨t, e⟩ := (show ∃ t, u = Value.str x t from r); cases e; rfl
  | byt b => obtain ⟨t, e⟩ := (show ∃ t, u = Value.bytes b t from r); cases e; rfl
  | flt b => obtain ⟨t, e⟩ := (show ∃ t, u = Value.float b t from r); cases e; rfl
  | ref a => cases (show u = Value.ref a from r); rfl
  | ty n => cases (show u = Value.type n from r); rfl

section
variable {P : Program} {w : World} {H H' : Hp} {h h' : Heap} {a C dx : Addr} {fs fs' : List (Str × V)}
theorem ins_get (hok : HOk P w H h) (e : H a = some (.ins C dx fs)) : ∃ mA, ObjM h a dx C mA ∧ (∀ f, RelO (fs.lookup f) (mA f)) ∧ PySem.Within mA (fs.map (·.1)) ∧ fs.length ≤ 1000 ∧ H dx = some (.own a) := by
  obtain ⟨d, z, ne, ob, mA, n, r, q⟩ := (show ObjOk P w H h a (.ins C dx fs) from hok a _ e)
  exact ⟨mA, ⟨ob, n, ne⟩, r, q, z, d⟩
end

/-! ### what of the text a class must have -/
structure Cls (K : PySem.W.Frag) (C : Addr) : Prop where
  pg : PySem.W.plainGet K C Str.empty = true
  hd : PySem.W.hasDictIn K C = true
  po : PySem.W.plainOver K C = true
  sa : PySem.W.findIn K (.ref C) "__setattr__" = some (some (.builtin "object.__setattr__"))
theorem Cls.get {K : PySem.W.Frag} {C : Addr} (c : Cls K C) (f : Str) : PySem.W.plainGet K C f = true := c.pg
/-  no class of it has the name -/
def NoAttr (K : PySem.W.Frag) (C : Addr) (f : Str) : Prop := PySem.W.findIn K (.ref C) f = some none
theorem NoAttr.taker {K : PySem.W.Frag} {C : Addr} {f : Str} (n : NoAttr K C f) : PySem.W.takerIn K C f = some none := by
  unfold PySem.W.takerIn
  rw [show PySem.W.findIn K (.ref C) f = some none from n]
  rfl
/-  a constant of the class -/
/-  a method: a plain def of the class or of one above it -/
structure Meth (K : PySem.W.Frag) (C : Addr) (m : Str) (f : Addr) : Prop where
  at_ : PySem.W.findIn K (.ref C) m = some (some (.ref f))
  fn : PySem.W.isFn K (.ref f) = true
  kp : PySem.W.keepIn K (.ref f) = true

section
variable {X : Cx} {pins : List (Addr × Obj)} {σ : St} {H : Hp} {s : Shared} {a C dx : Addr} {fs : List (Str × V)} {f : Str} {v : V} {A : Around} {E : Value → Shared → Prop}

theorem getattr_ok {b : Bool} {Q : Value → Shared → Prop} (I : Inv X pins σ H s) (e : H a = some (.ins C dx fs)) (c : Cls X.K C) (n : NoAttr X.K C f) (l : fs.lookup f = some v)
    (h : ∀ u s', Inv X pins σ H s' → RelV v u → Q u s') : wpAny (model X.prog X.w) A (getAttr (.ref a) f b) Q E s := by
  obtain ⟨mA, O, r, _, _, _⟩ := ins_get I.hok e
  obtain ⟨u, hu, ru⟩ := RelO.some_of (v := v) (o := mA f) (by rw [← l]; exact r f)
  exact get_map I.kIn O (c.get f) c.hd n hu (handed_of ru) (h u _ (I.tok _) ru)

theorem getmeth_ok {m : Str} {g : Addr} {pl : Sem Bool} {Q : Value × List Value → Shared → Prop} (I : Inv X pins σ H s) (e : H a = some (.ins C dx fs)) (c : Cls X.K C) (k : Meth X.K C m g) (l : fs.lookup m = none)
    (h : Q (.ref g, [.ref a]) s) : wpAny (model X.prog X.w) A (getMethod (.ref a) m pl) Q E s := by
  obtain ⟨mA, O, r, _, _, _⟩ := ins_get I.hok e
  have hn : mA m = none := RelO.none_of (by rw [← l]; exact r m)
  exact get_meth I.kIn O (c.get m) k.at_ k.fn hn h

theorem setattr_ok {y : V} {u : Value} {Q : Unit → Shared → Prop} (I : Inv X pins σ H s) (e : H a = some (.ins C dx fs)) (c : Cls X.K C) (n : NoAttr X.K C f) (hl : fs.length < 1000) (ry : RelV y u)
    (h : ∀ s', Inv X pins σ (upd H a (.ins C dx (putF f y fs))) s' → Q () s') : wpAny (model X.prog X.w) A (setAttr (.ref a) f u) Q E s := by
  obtain ⟨mA, O, r, wi, _, ho⟩ := ins_get I.hok e
  have hz : (fs.map (·.1)).length ≤ sizeLine := by rw [List.length_map, sizeLine_eq]; (first | lia | omega)
  refine set_map I.kIn O c.sa c.po n.taker c.hd wi hz fun h' O' sb => h _ ?_
  have hd : ∃ o, h'.get? dx = some o := let ⟨o, _, _, e', _⟩ := O'.ns; ⟨o, e'⟩
  refine I.write (x := a) (e := dx) (by rw [e]; exact True.intro) (.inr ho) (fun b q hb z => (sb.2 b hb).trans z) hd ?_
  refine ⟨by rw [upd_ne O.ne]; exact ho, ?_, O.ne, O'.obj, _, O'.ns, fun g => ?_, fun g hg => ?_⟩
  · have := length_putF f y fs; (first | lia | omega)
  · show RelO ((putF f y fs).lookup g) (if g = f then some u else mA g)
    rw [lookup_putF]
    by_cases q : g = f
    · rw [if_pos q, if_pos q]; exact ry
    · rw [if_neg q, if_neg q]; exact r g
  · by_cases q : g = f
    · rw [q]; exact (keys_putF f y fs).1
    · refine (keys_putF f y fs).2 g (wi g fun z => hg ?_)
      show (if g = f then some u else mA g) = none
      rw [if_neg q]; exact z

/-  a new instance, tracked, without attributes -/
theorem Inv.made (I : Inv X pins σ H s) : Inv X pins σ (upd (upd H s.heap.objs.size (.own (s.heap.objs.size + 1))) (s.heap.objs.size + 1) (.ins C s.heap.objs.size []))
    { s with heap := (s.heap.push PySem.W.emptyDict).push (PySem.W.instObj C s.heap.objs.size) } := by
  have e1 : (s.heap.push PySem.W.emptyDict).get? s.heap.objs.size = some PySem.W.emptyDict := Heap.get?_push_size s.heap rfl
  have e2 : ((s.heap.push PySem.W.emptyDict).push (PySem.W.instObj C s.heap.objs.size)).get? (s.heap.objs.size + 1) = some (PySem.W.instObj C s.heap.objs.size) := by
    have := Heap.get?_push_size (s.heap.push PySem.W.emptyDict) (o := PySem.W.instObj C s.heap.objs.size) rfl
    rwa [Heap.size_push] at this
  have e3 : (s.heap.push PySem.W.emptyDict).Ns s.heap.objs.size (fun _ => none) := ⟨PySem.W.emptyDict, #[], _, e1, rfl, (fun e he => absurd he (by simp)), fun _ => rfl⟩
  have I1 := I.laid (a := s.heap.objs.size) (o := .own (s.heap.objs.size + 1)) (h' := s.heap.push PySem.W.emptyDict) (t' := s.toks) (fun b u q => Heap.get?_push_of_some _ q) (Nat.le_refl _) ⟨_, e1⟩
  refine I1.laid (a := s.heap.objs.size + 1) (o := .ins C s.heap.objs.size []) (t' := s.toks) (fun b u q => Heap.get?_push_of_some _ q) (Nat.le_of_eq (Heap.size_push _ _)) ?_
  have ne : s.heap.objs.size ≠ s.heap.objs.size + 1 := Nat.ne_of_lt (Nat.lt_succ_self _)
  refine ⟨by rw [upd_ne ne, upd_same], Nat.zero_le _, ne, e2, fun _ => none, (Heap.Ns1.of_empty e3).at fun o q => Heap.get?_push_of_some _ q, fun _ => True.intro, fun y hy => absurd rfl hy⟩

/-  e.f where nothing but the object is asked: through attributeBase (super) and the last hold -/
theorem attr_of {prog : Program} {w : World} {env : Env} {e : Expr} {f : Str} {pos : Pos} {s : Shared} {Q : Value → Shared → Prop} (hb : attributeBase e f env (eval e env) = eval e env)
    (h : wpAny (model prog w) A (eval e env) (fun o s₁ => wpAny (model prog w) A (getAttr o f true) Q E s₁) E s) : wpAny (model prog w) A (eval (.Attribute e f pos) env) Q E s :=
  Attribute_any_ h (by rw [arm_eval_Attribute, hb])
end

/-! ### readings and rules -/
/-  e.f, an attribute of the instance -/
def tFld (K : PySem.W.Frag) (ta : TE) (f : Str) : TE := fun σ H Q => ta σ H fun x H1 => ∃ a C dx fs v, x = .ref a ∧ H1 a = some (.ins C dx fs) ∧ Cls K C ∧ NoAttr K C f ∧ fs.lookup f = some v ∧ Q v H1
/-  e.f, a constant of the class -/
/-  e.f = value -/
def sFld (K : PySem.W.Frag) (ta tv : TE) (f : Str) : TS := fun D σ H => tv σ H fun y H1 => ta σ H1 fun x H2 => ∃ a C dx fs, x = .ref a ∧ H2 a = some (.ins C dx fs) ∧ Cls K C ∧ NoAttr K C f ∧ fs.length < 1000 ∧
  D.nx σ (upd H2 a (.ins C dx (putF f y fs)))
/-  an augmented operator on two values -/
/-  e.f op= value -/
section
variable {X : Cx} {o e value : Expr} {f : Str} {pos pos' tpos : Pos} {ta tv : TE}
theorem pe_fld (he : PE X e ta) (hb : attributeBase e f X.env (eval e X.env) = eval e X.env) : PE X (.Attribute e f pos) (tFld X.K ta f) := by
  intro pins s σ H Q I h
  refine attr_of hb (thn (he pins s σ H _ I h) fun u s1 hh19 => ?_)
  obtain ⟨x, H1, I1, rx, a, C, dx, fs, v, ex, ea, c, n, l, q⟩ := hh19
  subst ex
  obtain rfl : u = Value.ref a := rx
  exact getattr_ok I1 ea c n l fun u' s2 I2 ru => ⟨v, H1, I2, ru, q⟩
theorem ps_fld (ha : PE X o ta) (hv : PE X value tv) (hs : swapsWith value (some (.Attribute o f pos')) pos.line X.env = pure false) : PS X (.Assign [.Attribute o f pos'] value pos) (sFld X.K ta tv f) := by
  intro pins s σ H D I h
  refine plainObj_wpAny_Assign_Attribute (thn (hv pins s σ H _ I h) fun u s1 hh20 => ?_) hs
  obtain ⟨y, H1, I1, ry, q⟩ := hh20
  refine thn (ha pins s1 σ H1 _ I1 q) fun ov s2 hh21 => ?_
  obtain ⟨x, H2, I2, rx, a, C, dx, fs, ex, ea, c, n, l, q2⟩ := hh21
  subst ex
  obtain rfl : ov = Value.ref a := rx
  exact setattr_ok I2 ea c n l ry fun s3 I3 => ⟨σ, _, I3, q2⟩
/-  what is between an instance and its method: the tree of a method call -/
end

/-! ### isinstance -/
section
variable {X : Cx} {pins : List (Addr × Obj)} {σ : St} {H : Hp} {s : Shared} {A : Around} {E : Value → Shared → Prop} {Q : Value → Shared → Prop} {c : Value} {b : Bool}
/-  the type of a value, as the fragment's deciders take it; for an instance its class -/
inductive TyOf (K : PySem.W.Frag) (H : Hp) : V → Value → Prop where
  | non : TyOf K H .non (.type "NoneType")
  | bl (x : Bool) : TyOf K H (.bl x) (.type "bool")
  | int (i : Int) : TyOf K H (.int i) (.type "int")
  | str (x : Str) : TyOf K H (.str x) (.type "str")
  | flt (x : UInt64) : TyOf K H (.flt x) (.type "float")
  | lst {a : Addr} {xs : List V} (e : H a = some (.lst xs)) : TyOf K H (.ref a) (.type "list")
  | frz {a : Addr} {o : Obj} {xs : List V} (e : H a = some (.frz o (.lst xs))) : TyOf K H (.ref a) (.type "list")
  | tup {a : Addr} {xs : List V} (e : H a = some (.tup xs)) : TyOf K H (.ref a) (.type "tuple")
  | dK {a : Addr} {kvs : List (Key × V)} (e : H a = some (.dK kvs)) : TyOf K H (.ref a) (.type "dict")
  | dT {a : Addr} {kvs : List (List Key × V)} (e : H a = some (.dT kvs)) : TyOf K H (.ref a) (.type "dict")
  | ins {a C dx : Addr} {fs : List (Str × V)} (e : H a = some (.ins C dx fs)) (cl : Cls K C) (ha : PySem.W.findIn K (.ref C) "__class__" = some (some (.builtin "object.__class__")))
      (hn : PySem.W.specialIn K (.builtin "object.__class__") "__get__" = some (some (.builtin "getset_descriptor.__get__"))) (htk : PySem.W.takesIn K (.builtin "object.__class__") = some true)
      (hm : PySem.W.mroIn K C (.type "object") = some true) : TyOf K H (.ref a) (.ref C)
/-  isinstance(x, c) for one class c, a built-in or an own one: kitOne's answer -/
theorem isinst_ok {x : V} {u t : Value} (I : Inv X pins σ H s) (rx : RelV x u) (ty : TyOf X.K H x t) (e : PySem.W.kitOne X.K t c = some b) (h : ∀ tk, Q (.bool b) { s with toks := tk }) :
    wpAny (model X.prog X.w) A (call (.builtin "isinstance") [u, c]) Q E s := by
  cases ty with
  | non => cases (show u = Value.none from rx); exact PySem.W.kia_one PySem.W.kitx_none I.kIn True.intro e (fun z => nomatch z) h
  | bl y => cases (show u = Value.bool y from rx); exact PySem.W.kia_one PySem.W.kitx_bool I.kIn True.intro e (fun z => nomatch z) h
  | int i => obtain ⟨t, q⟩ := (show ∃ t, u = Value.int i t from rx); cases q; exact PySem.W.kia_one PySem.W.kitx_int I.kIn True.intro e (fun z => nomatch z) h
  | str y => obtain ⟨t, q⟩ := (show ∃ t, u = Value.str y t from rx); cases q; exact PySem.W.kia_one PySem.W.kitx_str I.kIn True.intro e (fun z => nomatch z) h
  | flt y => obtain ⟨t, q⟩ := (show ∃ t, u = Value.float y t from rx); cases q; exact PySem.W.kia_one PySem.W.kitx_float I.kIn True.intro e (fun z => nomatch z) h
  | @lst a xs ea =>
    cases (show u = Value.ref a from rx)
    obtain ⟨_, _, n, _, h1⟩ := (show ObjOk X.prog X.w H s.heap a (.lst xs) from I.hok a _ ea)
    exact PySem.W.kia_one PySem.W.kitx_list I.kIn ⟨_, h1, rfl⟩ e (fun z => nomatch z) h
  | @frz a ob xs ea =>
    cases (show u = Value.ref a from rx)
    obtain ⟨_, _, _, n, _, h1⟩ := (show ObjOk X.prog X.w H s.heap a (.frz ob (.lst xs)) from I.hok a _ ea)
    exact PySem.W.kia_one PySem.W.kitx_list I.kIn ⟨_, h1, rfl⟩ e (fun z => nomatch z) h
  | @tup a xs ea =>
    cases (show u = Value.ref a from rx)
    obtain ⟨_, _, _, p⟩ := (show ObjOk X.prog X.w H s.heap a (.tup xs) from I.hok a _ ea)
    obtain ⟨o, h1, h2, _⟩ := p
    exact PySem.W.kia_one PySem.W.kitx_tuple I.kIn ⟨o, h1, h2⟩ e (fun z => nomatch z) h
  | @dK a kvs ea =>
    cases (show u = Value.ref a from rx)
    obtain ⟨_, _, vs, _, p⟩ := (show ObjOk X.prog X.w H s.heap a (.dK kvs) from I.hok a _ ea)
    obtain ⟨o, es, ep, h1, h2, _⟩ := p
    exact PySem.W.kia_one PySem.W.kitx_dict I.kIn ⟨o, h1, h2.1⟩ e (fun z => nomatch z) h
  | @dT a kvs ea =>
    cases (show u = Value.ref a from rx)
    obtain ⟨_, _, xs, _, o, es, ep, h1, h2, _⟩ := (show ObjOk X.prog X.w H s.heap a (.dT kvs) from I.hok a _ ea)
    exact PySem.W.kia_one PySem.W.kitx_dict I.kIn ⟨o, h1, h2.1⟩ e (fun z => nomatch z) h
  | @ins a C dx fs ea cl ha hn htk hm =>
    cases (show u = Value.ref a from rx)
    obtain ⟨mA, O, _⟩ := ins_get I.hok ea
    obtain ⟨od, J, _⟩ := O.look
    exact PySem.W.kia_one (PySem.W.kitx_own (cl.get _) cl.hd ha hn htk hm) I.kIn J e (fun z => nomatch z) h
end
end L2

namespace L2
open PySem PySem.Spec PyProof.Rows

/-! ### room -/
structure Room (k : Nat) (A : Around) : Prop where
  hd : A.handled = none
  dp : A.depth + 3 * k + 5 < recursionLimit
  un : A.units + 16 * k + 200 < cLine
theorem Room.mono {j k : Nat} {A : Around} (r : Room k A) (h : j ≤ k) : Room j A := ⟨r.hd, by have := r.dp; (first | lia | omega), by have := r.un; (first | lia | omega)⟩
theorem Room.deeper {k : Nat} {A : Around} (r : Room (k + 1) A) (env : Env) : Room k (A.deeper env) :=
  ⟨r.hd, by have := r.dp; show A.depth + 1 + 3 * k + 5 < _; (first | lia | omega), by have := r.un; show A.units + 3 + 16 * k + 200 < _; (first | lia | omega)⟩
theorem make_depth {A : Around} {C : Addr} {us : List Value} {kw : List (Str × Value)} : (A.under (.builtin "type.__call__" ⟨.ref C :: us, kw⟩)).depth = A.depth + 1 := by
  first | rfl | simp [Around.under, Code.weight, Code.isCreation, Code.isGuard, Code.isCaller, Code.frames, Code.isFrame, guardIds]
theorem make_units {A : Around} {C : Addr} {us : List Value} {kw : List (Str × Value)} : (A.under (.builtin "type.__call__" ⟨.ref C :: us, kw⟩)).units = A.units + 1 := by
  first | rfl | simp [Around.under, Code.cUnits, Code.frames, Code.isFrame]
theorem Room.make {k : Nat} {A : Around} (r : Room (k + 1) A) (C : Addr) (us : List Value) (kw : List (Str × Value)) : Room k (A.under (.builtin "type.__call__" ⟨.ref C :: us, kw⟩)) :=
  ⟨r.hd, by have := r.dp; rw [make_depth]; (first | lia | omega), by have := r.un; rw [make_units]; (first | lia | omega)⟩
theorem Room.depth {k : Nat} {A : Around} (r : Room k A) : A.depth < recursionLimit := by have := r.dp; (first | lia | omega)
theorem Room.units {k : Nat} {A : Around} (r : Room k A) : A.units + 64 < cLine := by have := r.un; (first | lia | omega)
/-! ### argument lists and displays -/
def tNil : TA := fun _ H Q => Q [] H
def tCons (ta : TE) (tr : TA) : TA := fun σ H Q => ta σ H fun x H1 => tr σ H1 fun xs H2 => Q (x :: xs) H2
section
variable {X : Cx} {e : Expr} {es : List Expr} {te : TE} {t : TA} {pos : Pos}
theorem pa_nil : PA X [] tNil := fun _ _ _ _ H Q I h => Calls.spliced_nil ⟨[], H, I, .nil, h⟩
theorem pa_cons (ha : PE X e te) (hr : PA X es t) (hs : starEach (e :: es) X.env = (false, eval e X.env) :: starEach es X.env := by rfl) : PA X (e :: es) (tCons te t) := by
  intro pos pins s σ H Q I h
  rw [hs]
  show wpAny _ _ (spliced ((false, eval e X.env) :: backTo pos (starEach es X.env))) _ _ s
  refine Calls.spliced_cons (thn (ha pins s σ H _ I h) fun u s1 hh22 => ?_)
  obtain ⟨x, H1, I1, r1, q1⟩ := hh22
  refine thn (hr pos pins s1 σ H1 _ I1 q1) fun us s2 hh23 => ?_
  obtain ⟨xs, H2, I2, r2, q2⟩ := hh23
  exact ⟨x :: xs, H2, I2, .cons r1 r2, q2⟩

/-  a tuple, a list of written items -/
def tTup (t : TA) : TE := fun σ H Q => t σ H fun xs H1 => xs.length ≤ sizeLine ∧ ∀ p, H1 p = none → Q (.ref p) (upd H1 p (.tup xs))
def tLst (t : TA) : TE := fun σ H Q => t σ H fun xs H1 => xs.length ≤ sizeLine ∧ ∀ p, H1 p = none → Q (.ref p) (upd H1 p (.lst xs))
theorem pe_tup {x1} (h : PA X es t) : PE X (.Tuple es x1 pos) (tTup t) := by
  intro pins s σ H Q I hq
  refine wpAny_Tuple_spliced (thn (h pos pins s σ H _ I hq) fun us s1 ⟨xs, H1, I1, r, z, q⟩ => ⟨by rw [← r.length]; exact z, ?_⟩)
  have hf : H1 s1.heap.objs.size = none := I1.hok.fresh (Nat.le_refl _)
  refine ⟨.ref s1.heap.objs.size, upd H1 s1.heap.objs.size (.tup xs), I1.laid (t' := s1.toks) (fun b u e => Heap.get?_push_of_some _ e) (Nat.le_refl _) ?_, rfl, q _ hf⟩
  exact ⟨z, us, r, ⟨_, Heap.get?_push_size _ rfl, rfl, _, rfl⟩⟩
theorem pe_lst (h : PA X es t) : PE X (.List es pos) (tLst t) := by
  intro pins s σ H Q I hq
  refine wpAny_List_spliced (thn (h pos pins s σ H _ I hq) fun us s1 ⟨xs, H1, I1, r, z, q⟩ => ⟨by rw [← r.length]; exact z, ?_⟩)
  have hf : H1 s1.heap.objs.size = none := I1.hok.fresh (Nat.le_refl _)
  refine ⟨.ref s1.heap.objs.size, upd H1 s1.heap.objs.size (.lst xs), I1.laid (t' := s1.toks) (fun b u e => Heap.get?_push_of_some _ e) (Nat.le_refl _) ?_, rfl, q _ hf⟩
  exact ⟨z, us, 0, r, Heap.get?_push_size _ rfl⟩
end

/-! ### what a def promises -/
/-  a def's promise: the bound arguments in the parameters' order, the heap, the wanted end, the wanted exception -/
abbrev Sp := List V → Hp → VK → XK → Prop
/-  how an exception lies behind a call (file 08 gives it): the callers' frames, abstract heap and state ahead of the call, the wish, the exception, the state -/
abbrev CXT := List Env → Hp → Shared → XK → Value → Shared → Prop

/-  the state at a call -/
structure Env0 (P : Program) (w : World) (K : PySem.W.Frag) (mg : Str → Option Value) (base : Heap) (A : Around) (outer : List Env) (s : Shared) (H : Hp) : Prop where
  frames : A.frames = some outer
  mod : Mod K mg base
  bs : ∀ b o, base.get? b = some o → s.heap.get? b = some o ∧ H b = none
  bsz : base.objs.size ≤ s.heap.objs.size
  funs : s.heap.FunFrames base outer
  frf : ∀ b ∈ frs outer, H b = none
  hok : HOk P w H s.heap
  bare : AllBare s.gens
/-  a call's end -/
def CE (outer : List Env) (P : Program) (w : World) (H : Hp) (s : Shared) (Q : VK) (u : Value) (s' : Shared) : Prop :=
  ∃ v H', s'.os = s.os ∧ AllBare s'.gens ∧ Un (frs outer) [] H H' s.heap s'.heap ∧ HOk P w H' s'.heap ∧ RelV v u ∧ Q v H'
def CR (CX : CXT) (outer : List Env) (P : Program) (w : World) (H : Hp) (s : Shared) (Q : VK) (E : XK) (r : Result) (s' : Shared) : Prop :=
  match r with
  | .ok (.ret u) => CE outer P w H s Q u s'
  | .ok _ => False
  | .error e => CX outer H s E e s'
structure FnOk (P : Program) (w : World) (K : PySem.W.Frag) (mg : Str → Option Value) (base : Heap) (CX : CXT) (k : Nat) (f : Addr) (fd : FuncData) (ps : List Str) (sp : Sp) : Prop where
  len : ∀ vs H Q E, sp vs H Q E → vs.length = ps.length
  run : ∀ (A : Around) (outer : List Env) (s : Shared) (H : Hp) (args : Args) (us : List Value) (vs : List V) (Q : VK) (E : XK), Room k A → Env0 P w K mg base A outer s H → BindsTo s fd args (ps.zip us) → Vals vs us → sp vs H Q E →
    codeAny (model P w) A (.call (.ref f) args) (CR CX outer P w H s Q E) s
/-  a weaker promise -/
theorem Env0.make {P : Program} {w : World} {K : PySem.W.Frag} {mg : Str → Option Value} {base : Heap} {A : Around} {outer : List Env} {s : Shared} {H : Hp} (e : Env0 P w K mg base A outer s H) (C : Addr) (us : List Value) (kw : List (Str × Value)) :
    Env0 P w K mg base (A.under (.builtin "type.__call__" ⟨.ref C :: us, kw⟩)) outer s H := ⟨by first | exact e.frames | (simpa [Around.under, Code.envs, Code.isFrame, pushEnvs] using e.frames), e.mod, e.bs, e.bsz, e.funs, e.frf, e.hok, e.bare⟩
section
variable {X : Cx} {pins : List (Addr × Obj)} {σ : St} {H : Hp} {s s' : Shared}
/-  from a body: what a callee wants -/
theorem Inv.env0 (I : Inv X pins σ H s) : Env0 X.prog X.w X.K X.mg X.base X.A X.stack s H :=
  ⟨I.ok.frames, I.ok.mod, I.bs, Nat.le_trans I.ok.bsz I.sz, I.stack, I.stkFree, I.hok, I.bare⟩
/-  behind a call -/
theorem Inv.after {Q : VK} {u : Value} (I : Inv X pins σ H s) (h : CE X.stack X.prog X.w H s Q u s') : EP X pins σ Q u s' := by
  obtain ⟨v, H', os, bare, un, hok, r, q⟩ := h
  obtain ⟨hh, g, d, t, os'⟩ := s'
  obtain rfl : os' = s.os := os
  exact ⟨v, H', I.call (h' := hh) (g' := g) (d' := d) (t' := t) (ch := []) un hok bare (fun b z => absurd z (by simp)), r, q⟩
end

/-! ### calls -/
/-  f(..): the written arguments, then the defaults dvs; E: what is wanted of an exception -/
def tCall (sp : Sp) (dvs : List V) (E : XK) (t : TA) : TE := fun σ H Q => t σ H fun vs H1 => sp (vs ++ dvs) H1 Q E
/-  o.m(..) of an instance of the class at C -/
def tMeth (C : Addr) (m : Str) (sp : Sp) (dvs : List V) (E : XK) (ta : TE) (t : TA) : TE := fun σ H Q => ta σ H fun x H1 => ∃ a dx fs, x = .ref a ∧ H1 a = some (.ins C dx fs) ∧ fs.lookup m = none ∧
  t σ H1 fun vs H2 => sp (x :: (vs ++ dvs)) H2 Q E
/-  C(..): a new instance and its dict, then __init__ -/
def tMake (C : Addr) (sp : Sp) (dvs : List V) (E : XK) (t : TA) : TE := fun σ H Q => t σ H fun vs H1 => ∀ x dx, H1 x = none → H1 dx = none → dx ≠ x →
  sp (.ref x :: (vs ++ dvs)) (upd (upd H1 dx (.own x)) x (.ins C dx [])) (fun v H2 => v = .non ∧ Q (.ref x) H2) E

/-  how the parameters are bound: us the positional arguments, kw the keywords' values by name, ds the defaults that fill up -/
def Binds (K : PySem.W.Frag) (fd : FuncData) (ps : List Str) (ds : List Value) : Prop :=
  ∀ (s : Shared) (us : List Value), K.In s.heap → (us ++ ds).length = ps.length → BindsTo s fd ⟨us, []⟩ (ps.zip (us ++ ds))
/-  every parameter is given -/
theorem Binds.all {K : PySem.W.Frag} {fd : FuncData} {ps : List Str} (h : ∀ us : List Value, us.length = ps.length → bindArgs fd ⟨us, []⟩ = pure (ps.zip us)) : Binds K fd ps [] := fun s us _ hl => by
  rw [List.append_nil] at hl ⊢
  exact .of_eq (h us hl)

/-  an exception of a callee reaches what this body wants of exceptions -/
def Passes (CX : CXT) (X : Cx) (E : XK) : Prop := ∀ (pins : List (Addr × Obj)) (σ : St) (H : Hp) (s : Shared) (e : Value) (s' : Shared), Inv X pins σ H s → CX X.stack H s E e s' → X.xe e s'

section
variable {X : Cx} {CX : CXT} {k : Nat} {f C : Addr} {fd : FuncData} {ps : List Str} {sp : Sp} {dvs : List V} {ds : List Value} {E : XK} {x m : Str} {p pos apos : Pos} {e o : Expr} {es : List Expr} {ta : TE} {t : TA}

/-  the callee runs -/
theorem run_fn {pins : List (Addr × Obj)} {σ : St} {H : Hp} {s : Shared} {Q : VK} {us : List Value} {vs : List V} (F : FnOk X.prog X.w X.K X.mg X.base CX k f fd ps sp) (hr : Room k X.A) (hb : Binds X.K fd ps ds) (hd : Vals dvs ds) (hx : Passes CX X E)
    (I : Inv X pins σ H s) (r : Vals vs us) (h : sp (vs ++ dvs) H Q E) : wpAny (model X.prog X.w) X.A (call (.ref f) us) (EP X pins σ Q) X.xe s := by
  have r2 : Vals (vs ++ dvs) (us ++ ds) := r.append hd
  have hl : (us ++ ds).length = ps.length := by rw [← r2.length]; exact F.len _ _ _ _ h
  refine wpAny_call (codeAny_mono (F.run X.A X.stack s H ⟨us, []⟩ (us ++ ds) (vs ++ dvs) Q E hr I.env0 (hb s us I.kIn hl) r2 h) fun r s' hq => ?_)
  cases r with
  | error e => exact hx pins σ H s e s' I hq
  | ok fl =>
    cases fl with
    | ret u => exact I.after hq
    | next => exact False.elim hq
    | brk => exact False.elim hq
    | cont => exact False.elim hq

theorem pe_call (F : FnOk X.prog X.w X.K X.mg X.base CX k f fd ps sp) (hr : Room k X.A) (hg : Gl X x) (hm : X.mg x = some (.ref f)) (hk : PySem.W.keepIn X.K (.ref f) = true) (hb : Binds X.K fd ps ds) (hd : Vals dvs ds) (hx : Passes CX X E)
    (ha : PA X (e :: es) t) (hdb : (x == ("__debug__" : Str)) = false := by decide) (he : starEach (e :: es) X.env = (false, eval e X.env) :: starEach es X.env := by rfl) (hpl : (backTo pos (starEach es X.env)).any (·.1) = false := by rfl) :
    PE X (.Call (.Name x p) (e :: es) [] pos) (tCall sp dvs E t) := by
  intro pins s σ H Q I h
  refine wpAny_Call_Name_kw (ld_glob I hg hm ?_ hdb)
  refine PySem.W.callWith_K (h₀ := X.base) I.ok.mod.kin hk (thn (ha pos pins s σ H _ I h) fun us s1 hh24 => ?_) he hpl
  obtain ⟨vs, H1, I1, r, q⟩ := hh24
  refine ⟨I1.kIn, ?_⟩
  exact run_fn F hr hb hd hx I1 r q
/-  o.m(e, ..) -/
/-  o.m() -/
theorem pe_meth0 {pl : Sem Bool} (he : PE X o ta) (c : Cls X.K C) (hm : Meth X.K C m f) (F : FnOk X.prog X.w X.K X.mg X.base CX k f fd ps sp) (hr : Room k X.A) (hb : Binds X.K fd ps ds) (hd : Vals dvs ds) (hx : Passes CX X E)
    (ht : eval (.Call (.Attribute o m apos) [] [] pos) X.env = (do
      let ov ← eval o X.env
      standAt apos.atName
      let (f, first) ← holding [ov] (getMethod ov m pl)
      callWith pos f first (backTo pos (starEach [] X.env)) (backToKw pos (keywordEach [] X.env))) := by rfl) :
    PE X (.Call (.Attribute o m apos) [] [] pos) (tMeth C m sp dvs E ta tNil) := by
  intro pins s σ H Q I h
  refine PySem.W.methodCall_KW (pl := pl) (thn (he pins s σ H _ I h) fun u s1 hh25 => ?_) ht
  obtain ⟨x, H1, I1, rx, a, dx, fs, ex, ea, l, q⟩ := hh25
  subst ex
  obtain rfl : u = Value.ref a := rx
  refine getmeth_ok I1 ea c hm l ?_
  exact PySem.W.callWith_K0 (first := [.ref a]) I1.kIn hm.kp (run_fn (us := [.ref a]) (vs := [.ref a]) F hr hb hd hx I1 (.cons rfl .nil) q)

/-  what a class must have to be made -/
structure Mk (K : PySem.W.Frag) (C f : Addr) : Prop where
  makes : PySem.W.makesIn K C = true
  init : PySem.W.findIn K (.ref C) "__init__" = some (some (.ref f))
  fn : PySem.W.isFn K (.ref f) = true
  kp : PySem.W.keepIn K (.ref C) = true

theorem run_make {pins : List (Addr × Obj)} {σ : St} {H : Hp} {s : Shared} {Q : VK} {us : List Value} {vs : List V} (M : Mk X.K C f) (F : FnOk X.prog X.w X.K X.mg X.base CX k f fd ps sp) (hr : Room (k + 1) X.A) (hb : Binds X.K fd ps ds) (hd : Vals dvs ds)
    (hx : Passes CX X E) (I : Inv X pins σ H s) (r : Vals vs us)
    (h : ∀ x dx, H x = none → H dx = none → dx ≠ x → sp (.ref x :: (vs ++ dvs)) (upd (upd H dx (.own x)) x (.ins C dx [])) (fun v H2 => v = .non ∧ Q (.ref x) H2) E) :
    wpAny (model X.prog X.w) X.A (call (.ref C) us) (EP X pins σ Q) X.xe s := by
  have hq := h (s.heap.objs.size + 1) s.heap.objs.size (I.hok.fresh (Nat.le_succ _)) (I.hok.fresh (Nat.le_refl _)) (Nat.ne_of_lt (Nat.lt_succ_self _))
  have I2 := Inv.made (C := C) I
  have r2 : Vals (V.ref (s.heap.objs.size + 1) :: (vs ++ dvs)) (Value.ref (s.heap.objs.size + 1) :: (us ++ ds)) := .cons rfl (r.append hd)
  have hl : (Value.ref (s.heap.objs.size + 1) :: us ++ ds).length = ps.length := by
    have e := r2.length
    rw [F.len _ _ _ _ hq] at e
    exact e.symm
  refine wpAny_call (make_map (f := f) I.kIn M.makes M.init (beq_iff_eq.mp M.fn) (codeAny_mono (F.run _ X.stack _ _ ⟨Value.ref (s.heap.objs.size + 1) :: us, []⟩ (Value.ref (s.heap.objs.size + 1) :: (us ++ ds)) _ _ E (hr.make C us [])
    (I2.env0.make C us []) (hb _ (Value.ref (s.heap.objs.size + 1) :: us) I2.kIn hl) r2 hq) fun r s' hq' => ?_))
  cases r with
  | error e => exact hx pins σ _ _ e s' I2 hq'
  | ok fl =>
    cases fl with
    | ret u =>
      obtain ⟨v, H', I3, rv, ev, q3⟩ := I2.after hq'
      subst ev
      exact ⟨rv, ⟨V.ref (s.heap.objs.size + 1), H', I3, rfl, q3⟩⟩
    | next => exact False.elim hq'
    | brk => exact False.elim hq'
    | cont => exact False.elim hq'
theorem pe_make (M : Mk X.K C f) (F : FnOk X.prog X.w X.K X.mg X.base CX k f fd ps sp) (hr : Room (k + 1) X.A) (hg : Gl X x) (hm : X.mg x = some (.ref C)) (hb : Binds X.K fd ps ds) (hd : Vals dvs ds) (hx : Passes CX X E)
    (ha : PA X (e :: es) t) (hdb : (x == ("__debug__" : Str)) = false := by decide) (he : starEach (e :: es) X.env = (false, eval e X.env) :: starEach es X.env := by rfl) (hpl : (backTo pos (starEach es X.env)).any (·.1) = false := by rfl) :
    PE X (.Call (.Name x p) (e :: es) [] pos) (tMake C sp dvs E t) := by
  intro pins s σ H Q I h
  refine wpAny_Call_Name_kw (ld_glob I hg hm ?_ hdb)
  refine PySem.W.callWith_K (h₀ := X.base) I.ok.mod.kin M.kp (thn (ha pos pins s σ H _ I h) fun us s1 hh26 => ?_) he hpl
  obtain ⟨vs, H1, I1, r, q⟩ := hh26
  refine ⟨I1.kIn, ?_⟩
  exact run_make M F hr hb hd hx I1 r q
end

/-! ### keywords -/
/-  the values of the keywords, from the left -/
section
variable {X : Cx} {CX : CXT} {k : Nat} {f C : Addr} {fd : FuncData} {ps ks : List Str} {sp : Sp} {E : XK} {x m : Str} {p pos apos kpos : Pos} {e o : Expr} {es : List Expr} {kws : List Keyword} {te ta : TE} {t tk : TA} {nm : Option Str}
/-  how a call with keywords binds: g puts the positional values us and the keywords' values ws (names ks) in the parameters' order, defaults among them -/
variable {g : List Value → List Value → List Value} {gV : List V → List V → List V}
/-  f(e, .., k = v, ..) -/
end

/-! ### a def's body keeps its promise -/
/-  names: the parameters first -/
structure FnScope (N P : List Str) (sc : Scope) : Prop where
  kind : sc.kind = .function
  co : sc.isCoroutine = false
  gen : sc.isGenerator = false
  nd : N.Nodup
  pre : N.take P.length = P
  par : ∀ x ∈ P, sc.names.lookup x = some .local ∨ sc.names.lookup x = some .cell
  nofree : ∀ y ∈ sc.names, y.2 ≠ .free

theorem bindL_out {kindOf : Str → Option NameKind} {x : Str} : ∀ {binds : List (Str × Value)} {m : Str → Option Value}, (∀ v, (x, v) ∉ binds) → bindL kindOf binds m x = m x
  | [], _, _ => rfl
  | (n, v) :: r, m, h => by
    unfold bindL
    rw [bindL_out fun w hw => h w (List.mem_cons_of_mem _ hw)]
    split
    · have : x ≠ n := by rintro rfl; exact h v List.mem_cons_self
      simp [this]
    · rfl
theorem bindC_out {kindOf : Str → Option NameKind} {x : Str} : ∀ {binds : List (Str × Value)} {m : Str → Option Value}, (∀ v, (x, v) ∉ binds) → bindC kindOf binds m x = m x
  | [], _, _ => rfl
  | (n, v) :: r, m, h => by
    unfold bindC
    rw [bindC_out fun w hw => h w (List.mem_cons_of_mem _ hw)]
    split
    · rfl
    · have : x ≠ n := by rintro rfl; exact h v List.mem_cons_self
      simp [this]
theorem bindL_get {kindOf : Str → Option NameKind} {x : Str} {v : Value} : ∀ {P : List Str} {vs : List Value} {i : Nat} {m : Str → Option Value}, P.Nodup → P[i]? = some x → vs[i]? = some v → kindOf x = some .local →
    bindL kindOf (P.zip vs) m x = some v
  | [], _, _, _, _, h, _, _ => by simp at h
  | _ :: _, [], _, _, _, _, h, _ => by simp at h
  | p :: P, w :: vs, 0, m, nd, h1, h2, hk => by
    simp at h1 h2; subst h1; subst h2
    show bindL kindOf ((p, w) :: P.zip vs) m p = _
    unfold bindL
    rw [bindL_out fun v hv => (List.nodup_cons.mp nd).1 (List.of_mem_zip hv).1, if_pos hk]
    simp
  | p :: P, w :: vs, i + 1, m, nd, h1, h2, hk => by
    show bindL kindOf ((p, w) :: P.zip vs) m x = _
    unfold bindL
    exact bindL_get (i := i) (List.nodup_cons.mp nd).2 (by simpa using h1) (by simpa using h2) hk
theorem bindC_get {kindOf : Str → Option NameKind} {x : Str} {v : Value} : ∀ {P : List Str} {vs : List Value} {i : Nat} {m : Str → Option Value}, P.Nodup → P[i]? = some x → vs[i]? = some v → kindOf x ≠ some .local →
    bindC kindOf (P.zip vs) m x = some v
  | [], _, _, _, _, h, _, _ => by simp at h
  | _ :: _, [], _, _, _, _, h, _ => by simp at h
  | p :: P, w :: vs, 0, m, nd, h1, h2, hk => by
    simp at h1 h2; subst h1; subst h2
    show bindC kindOf ((p, w) :: P.zip vs) m p = _
    unfold bindC
    rw [bindC_out fun v hv => (List.nodup_cons.mp nd).1 (List.of_mem_zip hv).1, if_neg hk]
    simp
  | p :: P, w :: vs, i + 1, m, nd, h1, h2, hk => by
    show bindC kindOf ((p, w) :: P.zip vs) m x = _
    unfold bindC
    exact bindC_get (i := i) (List.nodup_cons.mp nd).2 (by simpa using h1) (by simpa using h2) hk

/-  the names' values at the entry -/
def start (N : List Str) (vs : List V) : St := vs.map some ++ List.replicate (N.length - vs.length) none

/-  the context of a def's body, at its entry; an exception leaves the frame, then lies as CX says -/
def cxOf (CX : CXT) (P : Program) (w : World) (K : PySem.W.Frag) (mg : Str → Option Value) (base : Heap) (N : List Str) (qual : Str) (scope : Scope) (f : Addr) (cd : Value) (A : Around) (outer : List Env) (s : Shared) (H : Hp) (E : XK) : Cx where
  prog := P
  w := w
  K := K
  mg := mg
  base := base
  A := A.deeper (envOfC qual scope s.heap.objs.size f cd)
  N := N
  s₀ := s
  H₀ := H
  env := envOfC qual scope s.heap.objs.size f cd
  outer := outer
  stack := envOfC qual scope s.heap.objs.size f cd :: outer
  ex := []
  calm := true
  cp := fun _ => true
  fn := fun _ => true
  pn := []
  xe := fun e s' => wpAny (model P w) (A.deeper (envOfC qual scope s.heap.objs.size f cd)) (leaving (envOfC qual scope s.heap.objs.size f cd) e) (fun _ s'' => CX outer H s E e s'') (fun e' s'' => CX outer H s E e' s'') s'

theorem cell_has {sc : Scope} {n : Nat} {x : Str} (h : sc.names.lookup x = some .cell) : ∃ c, (cellsFrom n sc.names []).lookup x = some c := by
  have q := PySem.W.cellsFrom_some sc.names n [] (.inl h)
  exact Option.isSome_iff_exists.mp q

theorem inv_start {CX : CXT} {P : Program} {w : World} {K : PySem.W.Frag} {mg : Str → Option Value} {base : Heap} {N ps : List Str} {qual : Str} {scope : Scope} {f : Addr} {cd : Value} {A : Around} {outer : List Env} {s s1 : Shared} {H : Hp} {E : XK} {us : List Value} {vs : List V}
    (S : FnScope N ps scope) (hd : A.handled = none) (e0 : Env0 P w K mg base A outer s H) (hl : vs.length = ps.length) (r : Vals vs us)
    (x : InCallC s s.heap.objs.size (bindL (envOfC qual scope s.heap.objs.size f cd).kindOf (ps.zip us) fun _ => none) (cellsFrom (s.heap.objs.size + 1) scope.names []) (bindC (envOfC qual scope s.heap.objs.size f cd).kindOf (ps.zip us) fun _ => none) s1) :
    Inv (cxOf CX P w K mg base N qual scope f cd A outer s H E) [] (start N vs) H s1 := by
  have hpl : ps.length ≤ N.length := by have := congrArg List.length S.pre; rw [List.length_take] at this; (first | lia | omega)
  obtain ⟨h1, tk, rfl, hk⟩ := x.done
  have noA : ∀ b : Addr, b ∉ (cxOf CX P w K mg base N qual scope f cd A outer s H E).ex := fun b z => absurd (show b ∈ ([] : List Addr) from z) (by simp)
  refine ⟨⟨e0.mod, S.kind, rfl, rfl, Nat.le_refl _, fun y z c h1 h2 => ?_, fun y hy => ?_, fun y c _ h => ?_, fun _ => hd, Around.frames_deeper e0.frames, .inr ⟨rfl, rfl⟩, fun b z => absurd z (noA b), e0.bs, e0.bsz, fun b _ _ => noA b, fun b z => absurd z (noA b), e0.funs, e0.frf, fun y c _ h => Nat.le_of_lt (x.above y c (PySem.mem_of_lookup h)), fun b hb => e0.hok.fresh hb⟩,
    rfl, e0.bare, Un.kept hk, ⟨_, x.toInCall.ns, fun i y v h1 h2 h3 => ?_⟩, fun y c h => ⟨_, x.cell y c h⟩, e0.hok.fresh (Nat.le_refl _), fun y c h => .inl ?_, fun p hp => absurd (show p ∈ ([] : List (Addr × Obj)) from hp) (by simp), e0.hok.kept hk, ?_⟩
  · exact name_of_addr x.apart (PySem.mem_of_lookup h1) (PySem.mem_of_lookup h2)
  · have hy : scope.names.lookup y = some .cell ∨ scope.names.lookup y = some .free := hy
    rcases hy with hy | hy
    · exact cell_has hy
    · exact absurd rfl (S.nofree _ (PySem.mem_of_lookup hy))
  · exact Nat.le_of_lt (x.above y c (PySem.mem_of_lookup h))
  · have hi : i < vs.length := by
      unfold start at h2
      by_cases hi : i < vs.length
      · exact hi
      · rw [List.getElem?_append_right (by simpa using hi)] at h2
        rw [List.getElem?_replicate] at h2
        split at h2 <;> cases h2
    have ha : vs[i]? = some v := by
      unfold start at h2
      rw [List.getElem?_append_left (by simpa using hi), List.getElem?_map] at h2
      cases e : vs[i]? with
      | none => rw [e] at h2; cases h2
      | some a => rw [e] at h2; cases h2; rfl
    obtain ⟨u, hu, rv⟩ := r.get ha
    have hp : ps[i]? = some y := by
      rw [← S.pre, List.getElem?_take_of_lt (by (first | lia | omega))]; exact h1
    have ndP : ps.Nodup := by rw [← S.pre]; exact S.nd.sublist (List.take_sublist _ _)
    refine ⟨u, rv, ?_⟩
    rcases S.par y (List.mem_of_getElem? hp) with k | k
    · exact .inl ⟨k, bindL_get ndP hp hu k⟩
    · obtain ⟨c, e⟩ := cell_has (n := s.heap.objs.size + 1) k
      refine .inr ⟨.inl k, c, e, ?_⟩
      have q := x.cell y c e
      rw [bindC_get ndP hp hu (by show scope.names.lookup y ≠ _; rw [k]; decide)] at q
      exact q
  · exact e0.hok.fresh (Nat.le_of_lt (x.above y c (PySem.mem_of_lookup h)))
  · unfold start
    show _ = N.length
    rw [List.length_append, List.length_map, List.length_replicate]
    (first | lia | omega)

/-  THE RULE: a def (or a method) of the text, by its body. The body's reading t is chosen for each entry; it is run at the parameters' values -/
theorem fn_of {CX : CXT} {P : Program} {w : World} {K : PySem.W.Frag} {mg : Str → Option Value} {base : Heap} {k : Nat} {f : Addr} {name qual : Str} {params : Arguments} {body : List Stmt} {scope : Scope} {dV kV doc pm cdv ct oc : Value} {an od : Option Addr}
    {osl : Array (Option Value)} {N ps : List Str} {sp : Sp} (lk : K.lookup f = some ⟨oc, od, .func (PySem.W.fnOf name qual params body scope dV kV doc pm an cdv ct), osl⟩) (hcd : PySem.W.codeIn K cdv qual = true) (S : FnScope N ps scope)
    (len : ∀ vs H Q E, sp vs H Q E → vs.length = ps.length)
    (hbody : ∀ (A : Around) (outer : List Env) (s : Shared) (H : Hp) (vs : List V) (Q : VK) (E : XK), Room k (A.deeper (envOfC qual scope s.heap.objs.size f cdv)) → sp vs H Q E →
      ∃ t, PSs (cxOf CX P w K mg base N qual scope f cdv A outer s H E) body t ∧ t { nx := fun _ H' => Q .non H', rt := Q } (start N vs) H) :
    FnOk P w K mg base CX (k + 1) f (PySem.W.fnOf name qual params body scope dV kV doc pm an cdv ct) ps sp := by
  refine ⟨len, fun A outer s H args us vs Q E hr e0 hb r hsp => ?_⟩
  have hl := len _ _ _ _ hsp
  have KX : K.In s.heap := e0.mod.kin.keeps fun b o e => (e0.bs b o e).1
  have lim : s.heap.NoLimit := e0.mod.nolimit.keeps fun b o e => (e0.bs b o e).1
  have hkind : ∀ y ∈ ps.zip us, scope.names.lookup y.1 = some .local ∨ (scope.names.lookup y.1 = some .cell ∧ ((cellsFrom (s.heap.objs.size + 1) scope.names []).lookup y.1).isSome = true) := fun ⟨n, v⟩ hy => by
    rcases S.par n (List.of_mem_zip hy).1 with q | q
    · exact .inl q
    · exact .inr ⟨q, PySem.W.cellsFrom_some _ _ _ (.inl q)⟩
  refine codeAny_call_function hr.depth (KX _ _ lk) rfl S.co S.gen rfl (PySem.W.codeRec_of KX hcd) (hb _ _ _ _ ?_)
  refine wpAny_newFunctionEnv_cells S.kind hkind fun env he s1 x => ?_
  subst he
  refine ⟨lim.keeps x.toInCall.keep, codeAny_func ?_⟩
  obtain ⟨t, ht, hq⟩ := hbody A outer s H vs Q E (hr.deeper _) hsp
  have I : Inv (cxOf CX P w K mg base N qual scope f cdv A outer s H E) [] (start N vs) H s1 := inv_start S hr.hd e0 hl r x
  refine wpAny_mono (ht [] s1 (start N vs) H _ I hq) (fun fl s' hs => ?_) fun e s' hs => hs
  have fin : ∀ {σ' : St} {H' : Hp} {v : V} {u : Value}, Inv (cxOf CX P w K mg base N qual scope f cdv A outer s H E) [] σ' H' s' → RelV v u → Q v H' → CE outer P w H s Q u s' :=
    fun {σ' H' v u} J rv q => ⟨v, H', J.os, J.bare, J.base, J.hok, rv, q⟩
  cases fl with
  | ret u =>
    obtain ⟨v, σ', H', J, rv, q⟩ := hs
    exact fin J rv q
  | next =>
    obtain ⟨σ', H', J, q⟩ := hs
    exact fin (v := V.non) (u := Value.none) J rfl q
  | brk =>
    obtain ⟨_, _, _, q⟩ := hs
    exact False.elim q
  | cont =>
    obtain ⟨_, _, _, q⟩ := hs
    exact False.elim q
end L2

namespace L2
open PySem PySem.Spec PyProof.Rows
section
variable {X : Cx} {x : Str} {p pos : Pos} {e : Expr} {es : List Expr} {t : TA} {id T : String} {r : List V → Hp → VK → Prop}

def tCB (r : List V → Hp → VK → Prop) (t : TA) : TE := fun σ H Q => t σ H fun vs H1 => r vs H1 Q
/-  f(e, ..), f a built-in function -/
theorem pe_callB (hc : CallR X (.builtin id) r) (hg : Gl X x) (hm : X.mg x = none) (hv : bootBuiltins x = some (.builtin id)) (ha : PA X (e :: es) t) (hn : x ≠ "__name__" := by decide) (hdb : (x == ("__debug__" : Str)) = false := by decide)
    (he : starEach (e :: es) X.env = (false, eval e X.env) :: starEach es X.env := by rfl) (hpl : (backTo pos (starEach es X.env)).any (·.1) = false := by rfl) : PE X (.Call (.Name x p) (e :: es) [] pos) (tCB r t) := by
  intro pins s σ H Q I h
  refine wpAny_Call_Name_kw (ld_blt I hg hm hv ?_ hn hdb)
  refine PyProof.Rows.callWith_builtin1 (thn (ha pos pins s σ H _ I h) fun us s1 hh27 => ?_) he hpl
  obtain ⟨vs, H1, I1, r1, q1⟩ := hh27
  exact hc pins s1 σ H1 vs us Q I1 r1 q1
/-  T(e, ..), T a built-in type -/
theorem pe_callTy (hc : CallR X (.type T) r) (hg : Gl X x) (hm : X.mg x = none) (hv : bootBuiltins x = some (.type T)) (ha : PA X (e :: es) t) (hn : x ≠ "__name__" := by decide) (hdb : (x == ("__debug__" : Str)) = false := by decide)
    (he : starEach (e :: es) X.env = (false, eval e X.env) :: starEach es X.env := by rfl) (hpl : (backTo pos (starEach es X.env)).any (·.1) = false := by rfl) : PE X (.Call (.Name x p) (e :: es) [] pos) (tCB r t) := by
  intro pins s σ H Q I h
  refine wpAny_Call_Name_kw (ld_blt I hg hm hv ?_ hn hdb)
  refine PyProof.Rows.callWith_type1 (thn (ha pos pins s σ H _ I h) fun us s1 hh28 => ?_) he hpl
  obtain ⟨vs, H1, I1, r1, q1⟩ := hh28
  exact hc pins s1 σ H1 vs us Q I1 r1 q1
/-  T() -/
end
end L2

namespace HT
open PySem PyProof.Rows

/-  t < u of tuples of ints -/
section
open PySem.SeqAt
open PySem.AutoSeq1 (wpAny_loadPart')
open PySem.MeetsSeq PySem.MeetsSeq2 PySem.MeetsSeq3

end

section
variable {prog : Program} {w : World} {A : Around} {E : Value → Shared → Prop} {s : Shared}

/-  t + u, t not empty -/
theorem cat_tup {t b : Addr} {vs ws : List Value} {Q : Value → Shared → Prop} (ht : IsTup s.heap t vs.toArray) (hb : IsTup s.heap b ws.toArray) (hv : vs ≠ [])
    (h1 : ws = [] → Q (.ref t) s) (h2 : ws ≠ [] → Q (.ref s.heap.objs.size) { s with heap := s.heap.push { cls := .type "tuple", data := .seq (vs ++ ws).toArray } })
    (hsz : vs.length + ws.length ≤ sizeLine) : wpAny (model prog w) A (binaryOp .Add (.ref t) (.ref b)) Q E s := by
  obtain ⟨⟨cls, dd, data, sl⟩, ho, hc, n, hd⟩ := id ht
  obtain ⟨⟨cls2, dd2, data2, sl2⟩, ho2, hc2, n2, hd2⟩ := id hb
  simp only at hc hd hc2 hd2
  subst hc hd hc2 hd2
  have e : vs.toArray ++ ws.toArray = (vs ++ ws).toArray := by simp
  by_cases hw : ws = []
  · exact concat_meets ⟨_, ho, rfl⟩ ⟨_, ho2, rfl⟩ noFill_tuple_add seq_tuple_add PySem.F.slot_tuple_add PySem.F.entry_tuple_add (PySem.F.args_tuple_add_2 _ _)
      (tuple_addW1 t b vs.toArray ws.toArray n n2 dd dd2 sl sl2 (by simpa using hv) (by simp [hw])) ⟨ho, ho2, h1 hw⟩
  · refine concat_meets ⟨_, ho, rfl⟩ ⟨_, ho2, rfl⟩ noFill_tuple_add seq_tuple_add PySem.F.slot_tuple_add PySem.F.entry_tuple_add (PySem.F.args_tuple_add_2 _ _)
      (tuple_addW2 t b vs.toArray ws.toArray n n2 dd dd2 sl sl2 (by simpa using hv) (by simpa using hw) (by rw [List.size_toArray, List.size_toArray]; exact hsz)) ⟨ho, ho2, ?_⟩
    rw [e]
    exact h2 hw

/-! ### t[a:b], not the whole -/
/-  a slice's bound as a place among n (d where it is left out) -/
def sIx (n d : Nat) : Option Int → Nat
  | none => d
  | some v => if v < 0 then (v + (n : Int)).toNat else min v.toNat n
theorem sIx_le (n d : Nat) (hd : d ≤ n) (o : Option Int) : sIx n d o ≤ n := by
  cases o with
  | none => exact hd
  | some v =>
    show (if v < 0 then (v + (n : Int)).toNat else min v.toNat n) ≤ n
    by_cases hv : v < 0
    · rw [if_pos hv]; (first | lia | omega)
    · rw [if_neg hv]; exact Nat.min_le_right _ _
theorem clip_eq (v : Int) (n d : Nat) : (if v < 0 then max (v + (n : Int)) 0 else min v (n : Int)) = ((sIx n d (some v) : Nat) : Int) := by
  show (if v < 0 then max (v + (n : Int)) 0 else min v (n : Int)) = (((if v < 0 then (v + (n : Int)).toNat else min v.toNat n) : Nat) : Int)
  by_cases hv : v < 0
  · simp only [if_pos hv]; (first | lia | omega)
  · simp only [if_neg hv]; (first | lia | omega)
theorem adjust_gen (lo hi : Option Int) (n : Nat) : Builtin.Slice.sliceAdjust lo hi 1 (n : Int) = (((sIx n 0 lo : Nat) : Int), ((sIx n n hi : Nat) : Int)) := by
  have h1 : ¬ ((1 : Int) < 0) := by (first | lia | omega)
  unfold Builtin.Slice.sliceAdjust
  simp only [h1, if_false]
  refine Prod.ext ?_ ?_
  · cases lo with
    | none => rfl
    | some v => exact clip_eq v n 0
  · cases hi with
    | none => rfl
    | some v => exact clip_eq v n n
theorem places_gen (i j : Nat) : Builtin.Slice.slicePlaces (i : Int) (j : Int) 1 = j - i := by
  unfold Builtin.Slice.slicePlaces
  have h1 : (1 : Int) > 0 := by (first | lia | omega)
  simp only [h1, if_true, Int.ediv_one]
  split <;> (first | lia | omega)
theorem slicePart_ {v : Value} {o : Option Int} {Q : Option Int → Shared → Prop} (p : IsPart v o) (h : Q o s) : wpAny (model prog w) A (Builtin.Slice.slicePartIndex v) Q E s := by
  cases p with
  | none => exact slicePart_none h
  | int i t => exact slicePart_int h
theorem sliceApplied_gen {sl : Addr} {vl vu : Value} {lo hi : Option Int} {n : Nat} {Q : Int × Int × Nat → Shared → Prop} (hs : s.heap.IsSliceOf sl vl vu .none) (pl : IsPart vl lo) (pu : IsPart vu hi)
    (h : Q (((sIx n 0 lo : Nat) : Int), 1, sIx n n hi - sIx n 0 lo) s) : wpAny (model prog w) A (Builtin.Slice.sliceApplied (.ref sl) (pure (n : Int))) Q E s := by
  obtain ⟨os, hos, hcs, hds⟩ := id hs
  unfold Builtin.Slice.sliceApplied Builtin.Slice.sliceFields
  refine wpAny_bind (wpAny_bind (wpAny_field hos hds (x := vl) rfl (wpAny_bind (wpAny_field hos hds (x := vu) rfl (wpAny_bind (wpAny_field hos hds (x := .none) rfl (wpAny_pure ?_)))))))
  refine wpAny_bind (slicePart_none ?_)
  show wpAny _ _ (if ((1 : Int) == 0) = true then _ else _) _ _ s
  rw [if_neg (by decide)]
  refine wpAny_bind (slicePart_ pl (wpAny_bind (slicePart_ pu (wpAny_bind (wpAny_pure ?_)))))
  show wpAny _ _ (match Builtin.Slice.sliceAdjust lo hi 1 (n : Int) with | (lo, hi) => pure (lo, (1 : Int), Builtin.Slice.slicePlaces lo hi 1)) _ _ s
  rw [adjust_gen lo hi n]
  show wpAny _ _ (pure (((sIx n 0 lo : Nat) : Int), (1 : Int), Builtin.Slice.slicePlaces ((sIx n 0 lo : Nat) : Int) ((sIx n n hi : Nat) : Int) 1)) _ _ s
  rw [places_gen]
  exact wpAny_pure h
theorem pick_gen (xs : Array Value) (i k : Nat) : ((List.range k).filterMap fun (m : Nat) => xs[((i : Int) + (m : Int) * 1).toNat]?).toArray = ((xs.toList.drop i).take k).toArray := by
  have e : (fun (m : Nat) => xs[((i : Int) + (m : Int) * 1).toNat]?) = fun m => xs[i + m]? := by
    funext m
    have : ((i : Int) + (m : Int) * 1).toNat = i + m := by (first | lia | omega)
    rw [this]
  rw [e]
  have := pick_run xs i k
  rw [List.filterMap_map] at this
  have e2 : ((fun x => xs[x]?) ∘ fun x => i + x) = fun m => xs[i + m]? := rfl
  rw [e2] at this
  rw [this]

theorem getItem_tuple_cut {t sl : Addr} {items : Array Value} {vl vu : Value} {lo hi : Option Int} {Q : Value → Shared → Prop} (ht : IsTup s.heap t items) (hs : s.heap.IsSliceOf sl vl vu .none) (pl : IsPart vl lo) (pu : IsPart vu hi)
    (hw : ¬ (sIx items.size 0 lo = 0 ∧ sIx items.size items.size hi = items.size))
    (h : Q (.ref s.heap.objs.size) { s with heap := s.heap.push { cls := .type "tuple", data := .seq ((items.toList.drop (sIx items.size 0 lo)).take (sIx items.size items.size hi - sIx items.size 0 lo)).toArray } })
    (hsz : items.size ≤ sizeLine) : wpAny (model prog w) A (getItem (.ref t) (.ref sl)) Q E s := by
  have htake : sizeOk (.seq ((items.toList.drop (sIx items.size 0 lo)).take (sIx items.size items.size hi - sIx items.size 0 lo)).toArray) := by
    show ((items.toList.drop (sIx items.size 0 lo)).take (sIx items.size items.size hi - sIx items.size 0 lo)).toArray.size ≤ sizeLine
    rw [List.size_toArray, List.length_take, List.length_drop, Array.length_toList]
    (first | lia | omega)
  have hj : sIx items.size items.size hi ≤ items.size := sIx_le _ _ (Nat.le_refl _) hi
  obtain ⟨os, hos, hcs, hds⟩ := id hs
  have hTs : s.TypeIs (.ref sl) "slice" := ⟨os, hos, hcs⟩
  unfold getItem
  try with_reducible refine wpAny_holding ?_
  first | refine wpAny_bind (wpAny_pure ?_) | skip
  refine wpAny_bind (wpAny_sequenceKey ht.typeIs (by decide) ?_)
  refine wpAny_bind (wpAny_callSpecial?_slot (name := Str.ofString "__getitem__") ht.typeIs PyProof.Rows.slot_tuple_getitem
    (wpAny_call_entry PyProof.Rows.slot_tuple_getitem ht.typeIs entry_tuple_getitem ?_ (args_tuple_getitem _ _)))
  show wpAny _ _ (Builtin.Tuple.tupleItemsOf (.ref t) >>= _) _ _ s
  refine wpAny_bind (tupleItemsOf_ ht ?_)
  refine wpAny_bind (wpAny_typeOf hTs ?_)
  rw [if_pos (by decide)]
  refine wpAny_bind (sliceApplied_gen hs pl pu ?_)
  have hno : ¬ ((((sIx items.size 0 lo : Nat) : Int) == 0 && (1 : Int) == 1 && (sIx items.size items.size hi - sIx items.size 0 lo) == items.size) = true) := by
    intro q
    rw [Bool.and_eq_true, Bool.and_eq_true] at q
    have q1 : ((sIx items.size 0 lo : Nat) : Int) = 0 := eq_of_beq q.1.1
    have q2 : sIx items.size items.size hi - sIx items.size 0 lo = items.size := eq_of_beq q.2
    exact hw ⟨by (first | lia | omega), by (first | lia | omega)⟩
  show wpAny _ _ (if (((sIx items.size 0 lo : Nat) : Int) == 0 && (1 : Int) == 1 && (sIx items.size items.size hi - sIx items.size 0 lo) == items.size) = true then _ else _) _ _ s
  rw [if_neg hno, pick_gen]
  first
    | exact wpAny_bind (m := Builtin.Tuple.tupleExact _) (wpAny_newObj_type (wpAny_pure ⟨_, rfl, wpAny_pure h⟩) htake)
    | exact wpAny_bind (m := Builtin.Tuple.tupleExact _) (wpAny_newObj_type (wpAny_bind (wpAny_pure (wpAny_pure ⟨_, rfl, wpAny_pure h⟩))) htake)
    | exact wpAny_bind (wpAny_bind (m := Builtin.Tuple.tupleExact _) (wpAny_newObj_type (wpAny_pure (wpAny_pure ⟨_, rfl, wpAny_pure h⟩)) htake))
    | exact wpAny_bind (wpAny_bind (m := Builtin.Tuple.tupleExact _) (wpAny_newObj_type (wpAny_pure ⟨_, rfl, wpAny_pure h⟩) htake))
end
end HT

namespace L2
open PySem PySem.Spec PyProof.Rows

/-! ### the parts of a slice -/
abbrev TO := St → Hp → (Option Int → Hp → Prop) → Prop
/-  a slice's part (left out, or an int) -/
def PO (X : Cx) (e : Option Expr) (t : TO) : Prop :=
  ∀ (pins : List (Addr × Obj)) (s : Shared) (σ : St) (H : Hp) (Q : Option Int → Hp → Prop), Inv X pins σ H s → t σ H Q →
    wpAny (model X.prog X.w) X.A (evalPart e X.env) (fun u s' => ∃ o H', Inv X pins σ H' s' ∧ IsPart u o ∧ Q o H') X.xe s
def tNoPart : TO := fun _ H Q => Q none H
def tPart (t : TE) : TO := fun σ H Q => t σ H fun x H1 => ∃ i, x = .int i ∧ Q (some i) H1

section
variable {X : Cx} {e : Expr} {te : TE} {lo hi : Option Expr} {tl th : TO} {pos p2 : Pos}

theorem po_none : PO X none tNoPart := by
  intro pins s σ H Q I h
  rw [evalPart_none]
  exact wpAny_pure ⟨none, H, I, .none, h⟩
theorem po_some (h : PE X e te) : PO X (some e) (tPart te) := by
  intro pins s σ H Q I hw
  rw [evalPart_some]
  refine thn (h pins s σ H _ I hw) fun u s1 hh29 => ?_
  obtain ⟨x, H1, I1, r1, q1⟩ := hh29
  obtain ⟨i, rfl, q⟩ := q1
  obtain ⟨t, rfl⟩ := r1
  exact ⟨some i, H1, I1, .int i t, q⟩

/-  what a slice of a value is, by values: the slice object stands at sl -/
def SlR (X : Cx) (r : V → Option Int → Option Int → Hp → VK → Prop) : Prop :=
  ∀ (pins : List (Addr × Obj)) (s : Shared) (σ : St) (H : Hp) (x : V) (v vl vu : Value) (lo hi : Option Int) (sl : Addr) (Q : VK), Inv X pins σ H s → RelV x v → s.heap.IsSliceOf sl vl vu .none → IsPart vl lo → IsPart vu hi → r x lo hi H Q →
    ∃ T id, typeLookup (.type T) "__getitem__" = pure (some (.builtin id)) ∧ s.TypeIs v T ∧ wpAny (model X.prog X.w) X.A (getItem v (.ref sl)) (EP X pins σ Q) X.xe s
def tSl (r : V → Option Int → Option Int → Hp → VK → Prop) (te : TE) (tl th : TO) : TE := fun σ H Q => te σ H fun x H1 => tl σ H1 fun l H2 => th σ H2 fun u H3 => r x l u H3 Q
/-  a[lo:hi], any a -/
theorem pe_slice {r : V → Option Int → Option Int → Hp → VK → Prop} (hr : SlR X r) (he : PE X e te) (hl : PO X lo tl) (hu : PO X hi th) : PE X (.Subscript e (.Slice lo hi none p2) pos) (tSl r te tl th) := by
  intro pins s σ H Q I h
  refine Subscript_ (thn (he pins s σ H _ I h) fun v s1 hh30 => ?_)
  obtain ⟨x, H1, I1, r1, q1⟩ := hh30
  refine wpAny_Slice (thn (hl pins s1 σ H1 _ I1 q1) fun vl s2 hh31 => ?_)
  obtain ⟨l, H2, I2, pl, q2⟩ := hh31
  refine thn (hu pins s2 σ H2 _ I2 q2) fun vu s3 hh32 => ?_
  obtain ⟨u, H3, I3, pu, q3⟩ := hh32
  rw [evalPart_none]
  refine wpAny_pure ?_
  have I4 : Inv X pins σ H3 { s3 with heap := s3.heap.push { cls := .type "slice", data := .fields #[vl, vu, .none] } } := I3.kept (t' := s3.toks) fun b ob q => Heap.get?_push_of_some _ q
  obtain ⟨T, id, hT, ht, hg⟩ := hr pins { s3 with heap := s3.heap.push { cls := .type "slice", data := .fields #[vl, vu, .none] } } σ H3 x v vl vu l u s3.heap.objs.size Q I4 r1 (Heap.IsSliceOf.new ..) pl pu q3
  show wpAny (model X.prog X.w) X.A (subscriptTail e (.Slice lo hi none p2) v (.ref s3.heap.objs.size)) (EP X pins σ Q) X.xe { s3 with heap := s3.heap.push { cls := .type "slice", data := .fields #[vl, vu, .none] } }
  exact tail_any (ops := [.ref s3.heap.objs.size, v]) ht hT hg (by with_unfolding_all rfl)

/-  the items of xs[lo:hi] -/
def cutV (xs : List V) (lo hi : Option Int) : List V := (xs.drop (HT.sIx xs.length 0 lo)).take (HT.sIx xs.length xs.length hi - HT.sIx xs.length 0 lo)
theorem cutV_length (xs : List V) (lo hi : Option Int) : (cutV xs lo hi).length ≤ xs.length := by
  unfold cutV
  rw [List.length_take, List.length_drop]
  (first | lia | omega)
/-  t[lo:hi], not the whole of it (the whole would be t itself) -/
def rSlT (K : PySem.W.Frag) : V → Option Int → Option Int → Hp → VK → Prop := fun x lo hi H Q => ∃ a xs, x = .ref a ∧ SqT K H a xs ∧
  ¬ (HT.sIx xs.length 0 lo = 0 ∧ HT.sIx xs.length xs.length hi = xs.length) ∧ ∀ p, H p = none → Q (.ref p) (upd H p (.tup (cutV xs lo hi)))
theorem sl_tup : SlR X (rSlT X.K) := by
  intro pins s σ H x v vl vu lo hi sl Q I rx hs pl pu h
  obtain ⟨a, xs, rfl, hx, hw, q⟩ := h
  cases rx
  obtain ⟨its, r, ht, hz⟩ := I.tuple hx
  have hlen : its.toArray.size = xs.length := by rw [List.size_toArray]; exact r.length.symm
  refine ⟨"tuple", _, PyProof.Rows.slot_tuple_getitem.lookup, ht.typeIs, ?_⟩
  refine HT.getItem_tuple_cut ht hs pl pu (by rw [hlen]; exact hw) ?_ (by rw [hlen]; exact hz)
  rw [hlen]
  refine ⟨.ref s.heap.objs.size, _, I.laid (t' := s.toks) (o := .tup (cutV xs lo hi)) (fun b ob q => Heap.get?_push_of_some _ q) (Nat.le_refl _) ?_, rfl, q _ (I.hok.fresh (Nat.le_refl _))⟩
  exact ⟨Nat.le_trans (cutV_length xs lo hi) hz, _, (r.drop (HT.sIx xs.length 0 lo)).take (HT.sIx xs.length xs.length hi - HT.sIx xs.length 0 lo), IsTup.new _ _⟩

/-! ### t < u, t + u -/
/-  t + u, t not empty: u empty gives t itself -/
def rCatT (K : PySem.W.Frag) : R2 := fun x y H Q => ∃ a b xs ys, x = .ref a ∧ y = .ref b ∧ SqT K H a xs ∧ SqT K H b ys ∧ xs ≠ [] ∧ xs.length + ys.length ≤ sizeLine ∧
  (ys = [] → Q (.ref a) H) ∧ (ys ≠ [] → ∀ p, H p = none → Q (.ref p) (upd H p (.tup (xs ++ ys))))
theorem Vals.nil_iff {xs : List V} {us : List Value} (r : Vals xs us) : us = [] ↔ xs = [] := by
  cases r with
  | nil => simp
  | cons _ _ => simp
theorem op_catT : OpR X (binaryOp .Add) (rCatT X.K) := by
  intro pins s σ H x y v u Q I rx ry h
  obtain ⟨a, b, xs, ys, rfl, rfl, ha, hb, hx, hz, q1, q2⟩ := h
  cases rx
  cases ry
  obtain ⟨its, r1, p1, _⟩ := I.tuple ha
  obtain ⟨its2, r2, p2, _⟩ := I.tuple hb
  refine HT.cat_tup p1 p2 (fun z => hx (r1.nil_iff.mp z)) (fun z => ⟨.ref a, H, I, rfl, q1 (r2.nil_iff.mp z)⟩) (fun z => ?_) (by rw [← r1.length, ← r2.length]; exact hz)
  refine ⟨.ref s.heap.objs.size, _, I.laid (t' := s.toks) (o := .tup (xs ++ ys)) (fun b ob q => Heap.get?_push_of_some _ q) (Nat.le_refl _) ?_, rfl, q2 (fun w => z (r2.nil_iff.mpr w)) _ (I.hok.fresh (Nat.le_refl _))⟩
  exact ⟨by rw [List.length_append]; exact hz, _, r1.append r2, IsTup.new _ _⟩
/-  tuple(t) -/
end
end L2

namespace L2
open PySem PySem.Spec PyProof.Rows

/-! ### places -/
/-  the place that an index of any sign means -/
def ixN (n : Nat) (i : Int) : Option Nat := if 0 ≤ i then (if i < n then some i.toNat else none) else if -(n : Int) ≤ i then some (i + n).toNat else none
def atI {α : Type} (xs : List α) (i : Int) : Option α := (ixN xs.length i).bind fun j => xs[j]?
theorem ixN_seq {n : Nat} {i : Int} {j : Nat} (h : ixN n i = some j) : seqIndex? i n = some j ∧ j < n ∧ -(n : Int) ≤ i ∧ i < n := by
  unfold ixN at h
  by_cases h0 : 0 ≤ i
  · rw [if_pos h0] at h
    by_cases h1 : i < n
    · rw [if_pos h1] at h
      have e : i.toNat = j := Option.some.inj h
      exact ⟨by rw [seqIndex_of h0 h1, e], by (first | lia | omega), by (first | lia | omega), h1⟩
    · rw [if_neg h1] at h; cases h
  · rw [if_neg h0] at h
    by_cases h1 : -(n : Int) ≤ i
    · rw [if_pos h1] at h
      have e : (i + n).toNat = j := Option.some.inj h
      exact ⟨by rw [seqIndex_neg (by (first | lia | omega)) h1, e], by (first | lia | omega), h1, by (first | lia | omega)⟩
    · rw [if_neg h1] at h; cases h
theorem atI_get {α : Type} {xs : List α} {i : Int} {v : α} (h : atI xs i = some v) : ∃ j, seqIndex? i xs.length = some j ∧ xs[j]? = some v ∧ j < xs.length ∧ -(xs.length : Int) ≤ i ∧ i < xs.length := by
  unfold atI at h
  cases e : ixN xs.length i with
  | none => rw [e] at h; cases h
  | some j =>
    rw [e] at h
    obtain ⟨h1, h2, h3, h4⟩ := ixN_seq e
    exact ⟨j, h1, h, h2, h3, h4⟩
theorem atI_nat {α : Type} {xs : List α} {j : Nat} {v : α} (h : xs[j]? = some v) : atI xs (j : Int) = some v := by
  have hj : j < xs.length := (List.getElem?_eq_some_iff.mp h).1
  have e : ixN xs.length (j : Int) = some j := by
    unfold ixN
    rw [if_pos (by (first | lia | omega)), if_pos (by (first | lia | omega))]; simp
  unfold atI; rw [e]; exact h
/-! ### what may be subscripted -/
/-  what stands as an index of a plain subscript -/
def PlainIx (b : Expr) : Prop := ∀ o i, subscripted b false o i = operate [o, i] (getItem o i)
/-  a subscript by values -/
def IxR (X : Cx) (r : R2) : Prop :=
  ∀ (value slice : Expr) (pins : List (Addr × Obj)) (s : Shared) (σ : St) (H : Hp) (x y : V) (v u : Value) (Q : VK), Inv X pins σ H s → RelV x v → RelV y u → r x y H Q →
    subscripted slice false v u = operate [v, u] (getItem v u) → wpAny (model X.prog X.w) X.A (subscriptTail value slice v u) (EP X pins σ Q) X.xe s
/-  a call of a builtin's method by values: the receiver, the arguments -/
def MtR (X : Cx) (id : String) (r : V → List V → Hp → VK → Prop) : Prop :=
  ∀ (pins : List (Addr × Obj)) (s : Shared) (σ : St) (H : Hp) (x : V) (xs : List V) (v : Value) (us : List Value) (Q : VK), Inv X pins σ H s → RelV x v → Vals xs us → r x xs H Q →
    wpAny (model X.prog X.w) X.A (call (.builtin id) (v :: us)) (EP X pins σ Q) X.xe s
section
variable {X : Cx} {a b : Expr} {ta tb : TE} {pos : Pos}
/-  a[b] -/
theorem pe_ix {r : R2} (hr : IxR X r) (ha : PE X a ta) (hb : PE X b tb) (hs : PlainIx b) : PE X (.Subscript a b pos) (tOp r ta tb) := by
  intro pins s σ H Q I h
  exact Subscript_ (binT ha hb I h fun v u s2 x y H2 I2 rx ry q => hr a b pins s2 σ H2 x y v u Q I2 rx ry q (hs _ _))

def rIxL (K : PySem.W.Frag) : R2 := fun x y H Q => ∃ p xs i v, x = .ref p ∧ y = .int i ∧ SqL K H p xs ∧ atI xs i = some v ∧ Q v H
def rIxT (K : PySem.W.Frag) : R2 := fun x y H Q => ∃ p xs i v, x = .ref p ∧ y = .int i ∧ SqT K H p xs ∧ atI xs i = some v ∧ Q v H
theorem ix_list : IxR X (rIxL X.K) := by
  intro value slice pins s σ H x y v u Q I rx ry h hs
  obtain ⟨p, xs, i, z, rfl, rfl, hq, he, q⟩ := h
  cases rx
  obtain ⟨t, rfl⟩ := ry
  obtain ⟨its, r, pl, hz⟩ := I.list hq
  obtain ⟨j, h1, h2, h3, h4, h5⟩ := atI_get he
  obtain ⟨w, ew, rw'⟩ := r.get h2
  have hl := r.length
  have hn := line63
  have fin : EP X pins σ Q w s := ⟨z, H, I, rw', q⟩
  by_cases h0 : 0 ≤ i
  · have hj : i.toNat = j := by
      rw [seqIndex_of h0 h5] at h1
      exact Option.some.inj h1
    exact item_listR pl.isList h0 (by (first | lia | omega)) (by rw [hj]; simpa using ew) fin hs
  · have hj : (i + (its.toArray.size : Int)).toNat = j := by
      rw [seqIndex_neg (by (first | lia | omega)) h4] at h1
      rw [List.size_toArray, ← hl]
      exact Option.some.inj h1
    exact subscriptTail_builtinR (x := w) pl.isList.typeIs slot_list_getitem.lookup
      (wpAny_getItem_list_neg (Q := fun r s' => r = w ∧ EP X pins σ Q r s') pl.isList (by (first | lia | omega)) (by rw [List.size_toArray] <;> (first | lia | omega)) (by (first | lia | omega)) (by rw [hj]; simpa using ew) ⟨rfl, fin⟩) hs
theorem ix_tup : IxR X (rIxT X.K) := by
  intro value slice pins s σ H x y v u Q I rx ry h hs
  obtain ⟨p, xs, i, z, rfl, rfl, hq, he, q⟩ := h
  cases rx
  obtain ⟨t, rfl⟩ := ry
  obtain ⟨its, r, pl, hz⟩ := I.tuple hq
  obtain ⟨j, h1, h2, h3, h4, h5⟩ := atI_get he
  obtain ⟨w, ew, rw'⟩ := r.get h2
  have hl := r.length
  have hn := line63
  have fin : EP X pins σ Q w s := ⟨z, H, I, rw', q⟩
  exact subscriptTail_builtinR (x := w) pl.typeIs slot_tuple_getitem.lookup
    (getItem_tuple (j := j) (Q := fun r s' => r = w ∧ EP X pins σ Q r s') pl (by (first | lia | omega)) (by (first | lia | omega)) (by rw [List.size_toArray, ← hl]; exact h1) (by simpa using ew) ⟨rfl, fin⟩) hs
/-  list, tuple or str -/
/-! ### xs[i] = v, any sign -/
/-  the list's object behind a store -/
/-  the list at p is written by an update of its object -/
/-! ### slices -/
theorem slice_bounds (lo hi : Option Int) (n : Nat) : (sliceBounds lo hi none n).1 = ((HT.sIx n 0 lo : Nat) : Int) ∧ (sliceBounds lo hi none n).2.1 = ((HT.sIx n n hi : Nat) : Int) ∧ (sliceBounds lo hi none n).2.2 = 1 := by
  refine ⟨?_, ?_, rfl⟩
  · cases lo with
    | none => simp [sliceBounds, HT.sIx]
    | some i =>
      simp only [sliceBounds, HT.sIx, Option.getD_none, show (1 : Int) > 0 by decide, if_true]
      by_cases h : i < 0
      · simp only [h, if_true] <;> (first | lia | omega)
      · simp only [h, if_false] <;> (first | lia | omega)
  · cases hi with
    | none => simp [sliceBounds, HT.sIx]
    | some i =>
      simp only [sliceBounds, HT.sIx, Option.getD_none, show (1 : Int) > 0 by decide, if_true]
      by_cases h : i < 0
      · simp only [h, if_true] <;> (first | lia | omega)
      · simp only [h, if_false] <;> (first | lia | omega)
theorem slicePick_cut (its : List Value) (lo hi : Option Int) : slicePick its.toArray lo hi none = ((its.drop (HT.sIx its.length 0 lo)).take (HT.sIx its.length its.length hi - HT.sIx its.length 0 lo)).toArray := by
  obtain ⟨h1, h2, h3⟩ := slice_bounds lo hi its.toArray.size
  unfold slicePick
  rw [h1, h2, h3]
  simp only [sliceRange_one, pick_run, List.size_toArray] <;> rfl
/-  xs[lo:hi] of a list: a new list -/
def rSlL (K : PySem.W.Frag) : V → Option Int → Option Int → Hp → VK → Prop := fun x lo hi H Q => ∃ a xs, x = .ref a ∧ SqL K H a xs ∧ ∀ p, H p = none → Q (.ref p) (upd H p (.lst (cutV xs lo hi)))
theorem sl_list : SlR X (rSlL X.K) := by
  intro pins s σ H x v vl vu lo hi sl Q I rx hs pl pu h
  obtain ⟨a, xs, rfl, hx, q⟩ := h
  cases rx
  obtain ⟨its, r, ht, hz⟩ := I.list hx
  have hlen := r.length
  refine ⟨"list", _, slot_list_getitem.lookup, ht.isList.typeIs, ?_⟩
  refine wpAny_getItem_list_slice ht.isList hs pl pu .none (by simp) ?_ (by rw [List.size_toArray] <;> (first | lia | omega))
  rw [slicePick_cut, ← hlen]
  refine ⟨.ref s.heap.objs.size, _, I.laid (t' := s.toks) (o := .lst (cutV xs lo hi)) (fun b ob q => Heap.get?_push_of_some _ q) (Nat.le_refl _) ?_, rfl, q _ (I.hok.fresh (Nat.le_refl _))⟩
  exact ⟨Nat.le_trans (cutV_length xs lo hi) hz, _, 0, (r.drop (HT.sIx xs.length 0 lo)).take (HT.sIx xs.length xs.length hi - HT.sIx xs.length 0 lo), Heap.get?_push_size _ rfl⟩

/-! ### in, not in: flat items -/
/-  == of flat values -/
/-  the items' answers, read off the values (a value's own answer does not lean on its token) -/
/-  x in a list or tuple of flat items -/
/-! ### len, list(x), tuple(x) of any list or tuple that is read -/
theorem call_len_seq : CallR X (.builtin "len") (fun xs H Q => ∃ p ys, xs = [.ref p] ∧ (SqL X.K H p ys ∨ SqT X.K H p ys) ∧ Q (.int ys.length) H) := by
  intro pins s σ H xs us Q I r h
  obtain ⟨p, ys, rfl, hq, q⟩ := h
  obtain ⟨u, rfl, rx⟩ := vals1 r
  cases rx
  have hn := line63
  rcases hq with hq | hq
  · obtain ⟨its, r', pl, hz⟩ := I.list hq
    have hlen := r'.length
    exact Calls.call_len_list pl.isList (by simp only [List.size_toArray] <;> (first | lia | omega)) ⟨.int ys.length, H, I.tok _, ⟨s.toks + 1, by rw [List.size_toArray, hlen]⟩, q⟩
  · obtain ⟨its, r', pl, hz⟩ := I.tuple hq
    have hlen := r'.length
    exact len_tuple pl (by simp only [List.size_toArray] <;> (first | lia | omega)) ⟨.int ys.length, H, I.tok _, ⟨s.toks + 1, by rw [List.size_toArray, hlen]⟩, q⟩
theorem call_list_of : CallR X (.type "list") (fun xs H Q => ∃ p ys, xs = [.ref p] ∧ (SqL X.K H p ys ∨ SqT X.K H p ys) ∧ ∀ l, H l = none → Q (.ref l) (upd H l (.lst ys))) := by
  intro pins s σ H xs us Q I r h
  obtain ⟨p, ys, rfl, hq, q⟩ := h
  obtain ⟨u, rfl, rx⟩ := vals1 r
  cases rx
  have fin : ∀ (its : List Value), Vals ys its → ys.length ≤ sizeLine → ∀ (h' : Heap) (c' : Nat), (∀ b o', s.heap.get? b = some o' → h'.get? b = some o') →
      h'.get? s.heap.objs.size = some { cls := .type "list", dict := none, data := .seq its.toArray c', slots := #[] } → EP X pins σ Q (.ref s.heap.objs.size) { s with heap := h' } := fun its r' hz h' c' kp e =>
    ⟨.ref s.heap.objs.size, _, I.laid (t' := s.toks) kp (Nat.le_refl _) (show ObjOk X.prog X.w _ h' _ (.lst ys) from ⟨hz, its, c', r', e⟩), rfl, q _ (I.hok.fresh (Nat.le_refl _))⟩
  rcases hq with hq | hq
  · obtain ⟨its, r', pl, hz⟩ := I.list hq
    have hlen := r'.length
    obtain ⟨o, ho, hc, n, hd⟩ := pl.isList
    exact call_list_seq p (.inl rfl) ho hc hd (fun h' c' kp e => fin its r' hz h' c' kp e) (by simp only [List.size_toArray] <;> (first | lia | omega))
  · obtain ⟨its, r', pl, hz⟩ := I.tuple hq
    have hlen := r'.length
    obtain ⟨o, ho, hc, n, hd⟩ := pl
    exact call_list_seq p (.inr rfl) ho hc hd (fun h' c' kp e => fin its r' hz h' c' kp e) (by simp only [List.size_toArray] <;> (first | lia | omega))
theorem call_tuple_of : CallR X (.type "tuple") (fun xs H Q => ∃ p ys, xs = [.ref p] ∧ ((SqL X.K H p ys ∧ ∀ l, H l = none → Q (.ref l) (upd H l (.tup ys))) ∨ (SqT X.K H p ys ∧ Q (.ref p) H))) := by
  intro pins s σ H xs us Q I r h
  obtain ⟨p, ys, rfl, h⟩ := h
  obtain ⟨u, rfl, rx⟩ := vals1 r
  cases rx
  rcases h with ⟨hq, q⟩ | ⟨hq, q⟩
  · obtain ⟨its, r', pl, hz⟩ := I.list hq
    have hlen := r'.length
    refine call_tuple_list pl.isList (fun h' kp => ?_) (by simp only [List.size_toArray] <;> (first | lia | omega))
    have I1 : Inv X pins σ H { s with heap := h' } := I.kept (t' := s.toks) kp
    have I2 : Inv X pins σ (upd H h'.objs.size (.tup ys)) { s with heap := h'.push { cls := .type "tuple", data := .seq its.toArray } } :=
      I1.laid (t' := s.toks) (fun b o e => Heap.get?_push_of_some _ e) (Nat.le_refl _) (show ObjOk X.prog X.w _ _ _ (.tup ys) from ⟨hz, its, r', IsTup.new _ _⟩)
    exact ⟨.ref h'.objs.size, _, I2, rfl, q _ (I1.hok.fresh (Nat.le_refl _))⟩
  · obtain ⟨its, r', pl, hz⟩ := I.tuple hq
    exact call_tuple_same pl ⟨.ref p, H, I, rfl, q⟩

/-! ### the call of a builtin's method: o.m(..) -/
/-  the value is of that builtin type -/
def tyV (K : PySem.W.Frag) (T : String) (x : V) (H : Hp) : Prop := match x with
  | .str _ => T = "str"
  | .int _ => T = "int"
  | .ref p => (T = "list" ∧ ∃ xs, SqL K H p xs) ∨ (T = "tuple" ∧ ∃ o, K.lookup p = some o ∧ o.cls = .type "tuple" ∧ o.dict = none) ∨
      (T = "dict" ∧ ((∃ kvs, H p = some (.dK kvs)) ∨ ∃ kvs, H p = some (.dT kvs))) ∨ (T = "set" ∧ ∃ S n, H p = some (.set S n))
  | _ => False
theorem tyV_is {pins : List (Addr × Obj)} {σ : St} {H : Hp} {s : Shared} {T : String} {x : V} {v : Value} (I : Inv X pins σ H s) (r : RelV x v) (ty : tyV X.K T x H) :
    s.TypeIs v T ∧ ∀ a, v = .ref a → ∃ ob, s.heap.get? a = some ob ∧ ob.dict = none := by
  cases x with
  | str z =>
    obtain ⟨t, rfl⟩ := r
    cases (show T = "str" from ty)
    exact ⟨typeIs_str s z t, fun _ e => nomatch e⟩
  | int i =>
    obtain ⟨t, rfl⟩ := r
    cases (show T = "int" from ty)
    exact ⟨typeIs_int s i t, fun _ e => nomatch e⟩
  | ref p =>
    cases r
    rcases ty with ⟨rfl, xs, hq⟩ | ⟨rfl, o, hk, hc, hd⟩ | ⟨rfl, hk⟩ | ⟨rfl, S, n, hk⟩
    · obtain ⟨its, _, pl, _⟩ := I.list hq
      refine ⟨pl.isList.typeIs, fun a e => ?_⟩
      cases e
      obtain ⟨o, n, e, c, hd, _⟩ := pl
      exact ⟨o, e, hd⟩
    · refine ⟨⟨o, I.kIn p o hk, hc⟩, fun a e => ?_⟩
      cases e
      exact ⟨o, I.kIn _ o hk, hd⟩
    · have z : ∃ o, s.heap.get? p = some o ∧ o.ExactDict := by
        rcases hk with ⟨kvs, hk⟩ | ⟨kvs, hk⟩
        · obtain ⟨_, _, _, _, o, _, _, e, ex, _⟩ := I.hok p _ hk
          exact ⟨o, e, ex⟩
        · obtain ⟨_, _, _, _, o, _, _, e, ex, _⟩ := I.hok p _ hk
          exact ⟨o, e, ex⟩
      obtain ⟨o, e, ex⟩ := z
      refine ⟨⟨o, e, ex.1⟩, fun a e2 => ?_⟩
      cases e2
      exact ⟨o, e, ex.2.1⟩
    · obtain ⟨o, _, _, _, e, ex, _⟩ := I.hok p _ hk
      refine ⟨⟨o, e, ex.1⟩, fun a e2 => ?_⟩
      cases e2
      exact ⟨o, e, ex.2.1⟩
  | _ => exact False.elim ty
def tBM (K : PySem.W.Frag) (T : String) (r : V → List V → Hp → VK → Prop) (to : TE) (t : TA) : TE := fun σ H Q => to σ H fun x H1 => tyV K T x H1 ∧ t σ H1 fun xs H2 => r x xs H2 Q
variable {o e : Expr} {es : List Expr} {to : TE} {t : TA} {name : Str} {apos cpos : Pos} {T id : String} {r : V → List V → Hp → VK → Prop}
theorem pe_bm (pa : PlainAttrs T) (slot : Slot T name id) (hty : typeOf (.builtin id) = pure (.type "method_descriptor")) (hm : MtR X id r) (ho : PE X o to) (ha : PA X (e :: es) t)
    (hbase : attributeBase o name X.env (eval o X.env) = eval o X.env := by rfl)
    (hfew : ((backTo cpos (starEach (e :: es) X.env)).all (fun x => !x.1) && (backToKw cpos (keywordEach [] X.env)).all (fun x => x.1.isSome)
      && decide ((e :: es).length + ([] : List Keyword).length + (if ([] : List Keyword).isEmpty then 0 else 1) < 30)) = true := by rfl)
    (hline : (apos.endLine == cpos.line) = true := by rfl) (hs : starEach (e :: es) X.env = (false, eval e X.env) :: starEach es X.env := by rfl) (hplain : (backTo cpos (starEach es X.env)).any (·.1) = false := by rfl) :
    PE X (.Call (.Attribute o name apos) (e :: es) [] cpos) (tBM X.K T r to t) := by
  intro pins s σ H Q I h
  refine wpAny_Call_method_late hbase hfew hline rfl (thn (ho pins s σ H _ I h) fun v s1 hh33 => ?_)
  obtain ⟨x, H1, I1, r1, ty, q1⟩ := hh33
  obtain ⟨h1, h2⟩ := tyV_is I1 r1 ty
  refine ⟨T, id, pa, slot, hty, h1, h2, ?_⟩
  have hA := ha cpos pins s1 σ H1 _ I1 q1
  rw [hs] at hA ⊢
  refine Calls.callWith_builtin (by show (false || (backTo cpos (starEach es X.env)).any (·.1)) = false; rw [hplain] <;> rfl) (Calls.evalArgs_plain ?_)
  refine thn hA fun us s2 hh34 => ?_
  obtain ⟨vs, H2, I2, r2, q2⟩ := hh34
  exact hm pins s2 σ H2 x vs v us Q I2 r1 r2 q2
/- xs.append(e), list.index on a module's tuple .. are MtR facts of 06m -/
end
end L2

namespace L2
open PySem PySem.Spec PyProof.Rows

def MtM (X : Cx) (id : String) (r : V → List V → Hp → VK → Prop) : Prop :=
  ∀ (pins : List (Addr × Obj)) (s : Shared) (σ : St) (H : Hp) (x : V) (xs : List V) (v : Value) (us : List Value) (Q : VK), Inv X pins σ H s → RelV x v → Vals xs us → r x xs H Q →
    wpAny (model X.prog X.w) X.A (call (.builtin id) (v :: us)) (EP X pins σ Q) X.xe s

/-! ### lists of values -/
theorem Vals.unc {x : V} {xs : List V} {us : List Value} (h : Vals (x :: xs) us) : ∃ u r, us = u :: r ∧ RelV x u ∧ Vals xs r := by
  cases h with
  | cons a b => exact ⟨_, _, rfl, a, b⟩
theorem Vals.unn {us : List Value} (h : Vals [] us) : us = [] := by cases h; rfl
theorem Vals.one {x : V} {us : List Value} (h : Vals [x] us) : ∃ u, us = [u] ∧ RelV x u := by
  obtain ⟨u, r, rfl, a, b⟩ := h.unc
  obtain rfl := b.unn
  exact ⟨u, rfl, a⟩
theorem Vals.two {x y : V} {us : List Value} (h : Vals [x, y] us) : ∃ u v, us = [u, v] ∧ RelV x u ∧ RelV y v := by
  obtain ⟨u, r, rfl, a, b⟩ := h.unc
  obtain ⟨v, rfl, c⟩ := b.one
  exact ⟨u, v, rfl, a, c⟩
theorem Vals.rep {xs : List V} {us : List Value} (h : Vals xs us) : ∀ k : Nat, Vals (List.replicate k xs).flatten (List.replicate k us).flatten
  | 0 => .nil
  | k + 1 => by
    rw [List.replicate_succ, List.replicate_succ, List.flatten_cons, List.flatten_cons]
    exact Vals.append h (Vals.rep h k)
theorem foldl_rep (its : List Value) : ∀ (k : Nat) (acc : List Value),
    List.foldl (fun x1 x2 => x1 ++ x2) acc.toArray (List.replicate k its.toArray) = (acc ++ (List.replicate k its).flatten).toArray
  | 0, acc => by simp
  | k + 1, acc => by
    have e : acc.toArray ++ its.toArray = (acc ++ its).toArray := by simp
    have e2 : (acc ++ its) ++ (List.replicate k its).flatten = acc ++ (List.replicate (k + 1) its).flatten := by
      rw [List.replicate_succ, List.flatten_cons, List.append_assoc]
    rw [← e2, ← foldl_rep its k (acc ++ its), ← e, List.replicate_succ, List.foldl_cons]

section
variable {X : Cx} {pins : List (Addr × Obj)} {σ : St} {H : Hp} {s : Shared} {l b : Addr} {xs ys zs : List V}

/-! ### the two steps: a tracked list is rewritten, a new list is laid -/
theorem Inv.lset {its its' : List Value} {n : Nat} {f : Array Value → Array Value} {t' : Nat} (I : Inv X pins σ H s) (hH : H l = some (.lst xs))
    (e : s.heap.get? l = some { cls := .type "list", data := .seq its.toArray n }) (hf : f its.toArray = its'.toArray) (hv : Vals ys its') (hz : ys.length ≤ sizeLine) :
    Inv X pins σ (upd H l (.lst ys)) { s with heap := s.heap.update l (Obj.mapSeq f), toks := t' } := by
  have q := PySem.IsL.update e f
  rw [hf] at q
  refine I.write (x := l) (e := l) (by rw [hH]; exact trivial) (.inl rfl) (fun b' u hb hu => (Heap.get?_update_other s.heap (Obj.mapSeq f) (Ne.symm hb)).trans hu) ⟨_, q⟩ ?_
  exact ⟨hz, its', _, hv, q⟩
theorem Inv.lnew {its : List Value} {t' : Nat} (I : Inv X pins σ H s) (hv : Vals ys its) (hz : ys.length ≤ sizeLine) :
    Inv X pins σ (upd H s.heap.objs.size (.lst ys)) { s with heap := s.heap.push { cls := .type "list", data := .seq its.toArray }, toks := t' } :=
  I.laid (fun _ _ q => Heap.get?_push_of_some _ q) (Nat.le_refl _) ⟨hz, its, 0, hv, Heap.get?_push_size _ rfl⟩
theorem Inv.fresh (I : Inv X pins σ H s) : H s.heap.objs.size = none := I.hok.fresh (Nat.le_refl _)
theorem Inv.lstM (I : Inv X pins σ H s) (hH : H l = some (.lst xs)) : xs.length ≤ sizeLine ∧ ∃ (its : List Value) (n : Nat), Vals xs its ∧ xs.length = its.length ∧ s.heap.get? l = some { cls := .type "list", data := .seq its.toArray n } := by
  obtain ⟨z, its, n, r, e⟩ := I.hok l _ hH
  exact ⟨z, its, n, r, r.length, e⟩

theorem notLongL {n : Nat} (h : n ≤ sizeLine) : Builtin.List.listTooLong n = false := by
  unfold Builtin.List.listTooLong
  exact decide_eq_false (by (first | lia | omega))
end

section
variable {X : Cx}

/-! ### methods -/
def rAppend : V → List V → Hp → VK → Prop := fun x vs H Q => ∃ l xs y, x = .ref l ∧ vs = [y] ∧ H l = some (.lst xs) ∧ xs.length < sizeLine ∧ Q .non (upd H l (.lst (xs ++ [y])))
theorem mt_append : MtM X "list.append" rAppend := by
  intro pins s σ H x vs v us Q I rx rv h
  obtain ⟨l, xs, y, rfl, rfl, hH, hz, q⟩ := h
  cases rx
  obtain ⟨u, rfl, ru⟩ := rv.one
  obtain ⟨z, its, n, r, hl, e⟩ := I.lstM hH
  refine call_meets F.slot_list_append ⟨_, e, rfl⟩ F.entry_list_append (F.args_list_append_2 _ _) (PySem.list_append l its.toArray n u (by rw [List.size_toArray]; (first | lia | omega))) ⟨e, ?_⟩
  refine ⟨.non, _, I.lset (its' := its ++ [u]) hH e (by simp) (r.append (.cons ru .nil)) ?_, rfl, q⟩
  rw [List.length_append, List.length_singleton]
  (first | lia | omega)

/-! ### list + list, list += list, list * int -/
def rCat : R2 := fun x y H Q => ∃ l b xs zs, x = .ref l ∧ y = .ref b ∧ H l = some (.lst xs) ∧ H b = some (.lst zs) ∧ xs.length + zs.length ≤ sizeLine ∧ ∀ p, H p = none → Q (.ref p) (upd H p (.lst (xs ++ zs)))
theorem op_cat : OpR X (binaryOp .Add) rCat := by
  intro pins s σ H x y v u Q I rx ry h
  obtain ⟨l, b, xs, zs, rfl, rfl, hH, hB, hz, q⟩ := h
  cases rx
  cases ry
  obtain ⟨z, its, n, r, hl, e⟩ := I.lstM hH
  obtain ⟨z2, its2, n2, r2, hl2, e2⟩ := I.lstM hB
  refine PySem.P.add_list e e2 ?_ (by rw [List.size_toArray, List.size_toArray]; (first | lia | omega))
  have ea : its.toArray ++ its2.toArray = (its ++ its2).toArray := by simp
  rw [ea]
  exact ⟨.ref _, _, I.lnew (t' := s.toks) (r.append r2) (by rw [List.length_append]; (first | lia | omega)), rfl, q _ I.fresh⟩
/-  a list times an int (a negative one is nothing) -/
def rRep : R2 := fun x y H Q => ∃ l k xs, x = .ref l ∧ y = .int k ∧ H l = some (.lst xs) ∧ -(2 ^ 63) ≤ k ∧ k < 2 ^ 63 ∧ xs.length * k.toNat ≤ sizeLine ∧
  ∀ p, H p = none → Q (.ref p) (upd H p (.lst (List.replicate k.toNat xs).flatten))
theorem len_rep {α : Type} (xs : List α) (k : Nat) : (List.replicate k xs).flatten.length = k * xs.length := by
  induction k with
  | zero => simp
  | succ k ih => rw [List.replicate_succ, List.flatten_cons, List.length_append, ih, Nat.succ_mul, Nat.add_comm]
theorem op_rep : OpR X (binaryOp .Mult) rRep := by
  intro pins s σ H x y v u Q I rx ry h
  obtain ⟨l, k, xs, rfl, rfl, hH, h1, h2, hz, q⟩ := h
  cases rx
  obtain ⟨t, rfl⟩ := ry
  obtain ⟨z, its, n, r, hl, e⟩ := I.lstM hH
  have hlen : its.toArray.size * k.toNat ≤ sizeLine := by rw [List.size_toArray, ← hl]; exact hz
  have hcap : ¬ its.toArray.size * k.toNat > (2 ^ 63 - 1) / 8 := by
    have : (sizeLine : Nat) ≤ (2 ^ 63 - 1) / 8 := by decide
    (first | lia | omega)
  have hfit : ¬ (!Builtin.List.listFitsIndex k) = true := by
    rw [fitsIndex_both h1 h2]
    exact Bool.false_ne_true
  have hlong : ¬ Builtin.List.listTooLong (its.toArray.size * k.toNat) = true := by
    rw [notLongL hlen]
    exact Bool.false_ne_true
  have hnew : List.foldl (fun x1 x2 => x1 ++ x2) #[] (List.replicate (if its.toArray.isEmpty = true then 0 else k.toNat) its.toArray) = (List.replicate k.toNat its).flatten.toArray := by
    have f0 : ∀ m : Nat, List.foldl (fun x1 x2 => x1 ++ x2) #[] (List.replicate m its.toArray) = (List.replicate m its).flatten.toArray := fun m => by
      have := foldl_rep its m []
      rw [List.nil_append] at this
      exact this
    rw [f0]
    cases its with
    | nil => simp
    | cons a r' => rw [if_neg (by simp)]
  refine wpAny_binaryOp_repeat_ref (T := "list") (U := "int") (by decide) ⟨_, e, rfl⟩ (fun s' => typeIs_int s' k t) noFill_list_mul F.fills_int_mul F.slot_int_rmul repeat_list F.slot_int_index.lookup
    (call_meets F.slot_int_rmul (typeIs_int s k t) F.entry_int_rmul (F.args_int_rmul_2 _ _) (int___rmul___int_list k t l its.toArray n)
      ⟨e, rfl, ⟨_, e, rfl⟩, call_meets F.slot_list_mul ⟨_, e, rfl⟩ F.entry_list_mul (F.args_list_mul_2 _ _) (AutoListH.list___mul___list_int_3 l its.toArray n k t hfit hcap hlong) ⟨e, ?_⟩⟩)
  rw [hnew]
  exact ⟨.ref _, _, I.lnew (t' := s.toks) (r.rep k.toNat) (by rw [len_rep, Nat.mul_comm]; exact hz), rfl, q _ I.fresh⟩

/-! ### del xs[i] -/
end

/-! ### xs[a:b] = ys -/
section
variable {prog : Program} {w : World} {A : Around} {E : Value → Shared → Prop} {s : Shared}
set_option maxRecDepth 100000 in
/-  list.__setitem__ with a slice of step one and another list -/
end

section
variable {X : Cx}
/-  xs[a:c] = ys of another list, at the value level: sl is the slice object that was just made -/
end
end L2

namespace L2
open PySem PySem.Spec PyProof.Rows

/-! ### lists of pairs as tables -/
section
variable {κ : Type} [DecidableEq κ]
def valV (kvs : List (κ × V)) (k : κ) : Option V := (kvs.find? fun kv => decide (kv.1 = k)).map (·.2)
/-  in its place, or at the end -/
def putK (kvs : List (κ × V)) (k : κ) (v : V) : List (κ × V) :=
  if (kvs.any fun kv => decide (kv.1 = k)) = true then kvs.map (fun kv => if kv.1 = k then (kv.1, v) else kv) else kvs ++ [(k, v)]
theorem valV_nil {k : κ} : valV ([] : List (κ × V)) k = none := rfl
theorem valV_pos {p : κ × V} {r : List (κ × V)} {k : κ} (e : p.1 = k) : valV (p :: r) k = some p.2 := by simp [valV, List.find?_cons, e]
theorem valV_neg {p : κ × V} {r : List (κ × V)} {k : κ} (e : ¬ p.1 = k) : valV (p :: r) k = valV r k := by simp [valV, List.find?_cons, e]
theorem valV_any (k : κ) : ∀ kvs : List (κ × V), (kvs.any fun kv => decide (kv.1 = k)) = (valV kvs k).isSome
  | [] => rfl
  | p :: r => by
    rw [List.any_cons]
    by_cases e : p.1 = k
    · simp only [valV_pos e, decide_eq_true e, Bool.true_or, Option.isSome_some]
    · rw [valV_neg e, decide_eq_false e, Bool.false_or]; exact valV_any k r
theorem valV_map (k j : κ) (y : V) : ∀ kvs : List (κ × V), valV (kvs.map fun kv => if kv.1 = k then (kv.1, y) else kv) j = (valV kvs j).map fun x => if j = k then y else x
  | [] => rfl
  | p :: r => by
    have ih := valV_map k j y r
    rw [List.map_cons]
    by_cases h : p.1 = k
    · rw [if_pos h]
      by_cases e : p.1 = j
      · rw [valV_pos (p := (p.1, y)) e, valV_pos e, Option.map_some, if_pos (e.symm.trans h)]
      · rw [valV_neg (p := (p.1, y)) e, valV_neg e, ih]
    · rw [if_neg h]
      by_cases e : p.1 = j
      · rw [valV_pos (p := p) e, valV_pos e, Option.map_some, if_neg (fun z => h (e.trans z))]
      · rw [valV_neg (p := p) e, valV_neg e, ih]
theorem valV_snoc (k j : κ) (y : V) : ∀ kvs : List (κ × V), valV kvs k = none → valV (kvs ++ [(k, y)]) j = if j = k then some y else valV kvs j
  | [], _ => by
    by_cases e : k = j
    · rw [if_pos e.symm]; exact valV_pos (p := (k, y)) e
    · rw [if_neg (fun z => e z.symm)]; exact valV_neg (p := (k, y)) e
  | p :: r, hn => by
    rw [List.cons_append]
    have hk : ¬ p.1 = k := fun z => by rw [valV_pos z] at hn; cases hn
    rw [valV_neg hk] at hn
    have ih := valV_snoc k j y r hn
    by_cases e : p.1 = j
    · rw [valV_pos e, valV_pos e, if_neg (fun z => hk (e.trans z))]
    · rw [valV_neg e, valV_neg e, ih]
theorem valV_put (kvs : List (κ × V)) (k j : κ) (y : V) : valV (putK kvs k y) j = if j = k then some y else valV kvs j := by
  unfold putK
  by_cases a : (kvs.any fun kv => decide (kv.1 = k)) = true
  · rw [if_pos a, valV_map]
    rw [valV_any] at a
    by_cases e : j = k
    · obtain ⟨x, hx⟩ := Option.isSome_iff_exists.mp a
      rw [if_pos e, e, hx, Option.map_some, if_pos rfl]
    · rw [if_neg e]
      cases valV kvs j with
      | none => rfl
      | some x => rw [Option.map_some, if_neg e]
  · rw [if_neg a]
    refine valV_snoc k j y kvs ?_
    rw [valV_any] at a
    cases q : valV kvs k with
    | none => rfl
    | some x => rw [q] at a; exact (a rfl).elim
theorem length_putK (kvs : List (κ × V)) (k : κ) (v : V) : (putK kvs k v).length ≤ kvs.length + 1 := by
  unfold putK
  split
  · rw [List.length_map]; (first | lia | omega)
  · rw [List.length_append, List.length_cons, List.length_nil]; (first | lia | omega)
theorem RelO.isSome_eq {o : Option V} {u : Option Value} (r : RelO o u) : o.isSome = u.isSome := by
  cases o with
  | none => cases u with
    | none => rfl
    | some _ => exact (show False from r).elim
  | some _ => cases u with
    | none => exact (show False from r).elim
    | some _ => rfl
/-  raw tables of the same keys -/
theorem KV.val {kvs : List (κ × V)} {vs : List (κ × Value)} (r : KV kvs vs) (k : κ) : RelO (valV kvs k) (valueAt vs k) := by
  unfold KV at r
  induction r with
  | nil => exact True.intro
  | @cons p q ps qs h t ih =>
    obtain ⟨h1, h2⟩ := h
    by_cases e : p.1 = k
    · have e' : q.1 = k := h1.symm.trans e
      have b : valueAt (q :: qs) k = some q.2 := by simp [valueAt, List.find?_cons, e']
      rw [valV_pos e, b]; exact h2
    · have e' : ¬ q.1 = k := fun z => e (h1.trans z)
      have b : valueAt (q :: qs) k = valueAt qs k := by simp [valueAt, List.find?_cons, e']
      rw [valV_neg e, b]; exact ih
theorem KV.any {kvs : List (κ × V)} {vs : List (κ × Value)} (r : KV kvs vs) (k : κ) : (kvs.any fun kv => decide (kv.1 = k)) = vs.any fun kv => decide (kv.1 = k) := by
  unfold KV at r
  induction r with
  | nil => rfl
  | cons h t ih => rw [List.any_cons, List.any_cons, ih, h.1]
theorem KV.repl {kvs : List (κ × V)} {vs : List (κ × Value)} (r : KV kvs vs) (k : κ) {y : V} {u : Value} (ry : RelV y u) :
    KV (kvs.map fun kv => if kv.1 = k then (kv.1, y) else kv) (vs.map fun kv => if kv.1 = k then (kv.1, u) else kv) := by
  unfold KV at r ⊢
  induction r with
  | nil => exact .nil
  | @cons p q ps qs h t ih =>
    rw [List.map_cons, List.map_cons]
    refine .cons ?_ ih
    obtain ⟨h1, h2⟩ := h
    by_cases e : p.1 = k
    · rw [if_pos e, if_pos (h1.symm.trans e)]; exact ⟨h1, ry⟩
    · rw [if_neg e, if_neg (fun z => e (h1.trans z))]; exact ⟨h1, h2⟩
theorem KV.put {kvs : List (κ × V)} {vs : List (κ × Value)} (r : KV kvs vs) (k : κ) {y : V} {u : Value} (ry : RelV y u) : KV (putK kvs k y) (stored vs k u) := by
  unfold putK stored
  rw [r.any k]
  by_cases e : (vs.any fun kv => decide (kv.1 = k)) = true
  · rw [if_pos e, if_pos e]; exact r.repl k ry
  · rw [if_neg e, if_neg e]; exact Paired.snoc r ⟨rfl, ry⟩
theorem KV.length {kvs : List (κ × V)} {vs : List (κ × Value)} (r : KV kvs vs) : kvs.length = vs.length := Paired.length r
end


/-! ### a tracked dict, its keys ints and texts or tuples of these -/
theorem kV_is {P : Program} {w : World} {k : Key} {u : Value} (r : RelV (kV k) u) : (mixKind P w).is k u = true := by
  cases k with
  | inl i => obtain ⟨t, e⟩ := (show ∃ t, u = Value.int i t from r); subst e; exact mixKind_int P w i t
  | inr x => obtain ⟨t, e⟩ := (show ∃ t, u = Value.str x t from r); subst e; exact mixKind_str P w x t
theorem items_are {P : Program} {w : World} : ∀ {ks : List Key} {us : List Value}, Vals (ks.map kV) us → ItemsAre (mixKind P w) ks us
  | [], _, r => by rw [List.map_nil] at r; cases r; exact .nil
  | k :: ks, _, r => by
    rw [List.map_cons] at r
    cases r with
    | cons h t => exact .cons (kV_is h) (items_are t)

/-  raw entries of a dict with tuple keys -/
abbrev KT (H : Hp) : List (List Key × V) → List (List Key × Addr × Value) → Prop := Paired fun p q => p.1 = q.1 ∧ H q.2.1 = some (.tup (p.1.map kV)) ∧ RelV p.2 q.2.2
theorem KT.val {H : Hp} {kvs : List (List Key × V)} {xs : List (List Key × Addr × Value)} (r : KT H kvs xs) (k : List Key) : RelO (valV kvs k) ((atKey xs k).map (·.2)) := by
  induction r with
  | nil => exact True.intro
  | @cons p q ps qs h t ih =>
    obtain ⟨h1, _, h2⟩ := h
    by_cases e : p.1 = k
    · have e' : q.1 = k := h1.symm.trans e
      have b : atKey (q :: qs) k = some q.2 := by simp [atKey, List.find?_cons, e']
      rw [valV_pos e, b]; exact h2
    · have e' : ¬ q.1 = k := fun z => e (h1.trans z)
      have b : atKey (q :: qs) k = atKey qs k := by simp [atKey, List.find?_cons, e']
      rw [valV_neg e, b]; exact ih
theorem KT.repl {H : Hp} {kvs : List (List Key × V)} {xs : List (List Key × Addr × Value)} (r : KT H kvs xs) (k : List Key) {y : V} {u : Value} (ry : RelV y u) :
    KT H (kvs.map fun kv => if kv.1 = k then (kv.1, y) else kv) (xs.map (putAt k u)) := by
  induction r with
  | nil => exact .nil
  | @cons p q ps qs h t ih =>
    rw [List.map_cons, List.map_cons]
    refine .cons ?_ ih
    obtain ⟨h1, h2, h3⟩ := h
    unfold putAt
    by_cases e : p.1 = k
    · rw [if_pos e, if_pos (h1.symm.trans e)]; exact ⟨h1, h2, ry⟩
    · rw [if_neg e, if_neg (fun z => e (h1.trans z))]; exact ⟨h1, h2, h3⟩
theorem KT.put {H : Hp} {kvs : List (List Key × V)} {xs : List (List Key × Addr × Value)} (r : KT H kvs xs) (k : List Key) {b : Addr} {y : V} {u : Value} (hb : H b = some (.tup (k.map kV))) (ry : RelV y u) :
    KT H (putK kvs k y) (storedH xs k b u) := by
  have e : (kvs.any fun kv => decide (kv.1 = k)) = (atKey xs k).isSome := by
    rw [valV_any, (r.val k).isSome_eq, Option.isSome_map]
  unfold putK storedH
  rw [e]
  by_cases q : (atKey xs k).isSome = true
  · rw [if_pos q, if_pos q]; exact r.repl k ry
  · rw [if_neg q, if_neg q]; exact Paired.snoc r ⟨rfl, hb, ry⟩
theorem KT.keeps {H H' : Hp} {kvs : List (List Key × V)} {xs : List (List Key × Addr × Value)} (r : KT H kvs xs) (ht : ∀ b ys, H b = some (.tup ys) → H' b = some (.tup ys)) : KT H' kvs xs :=
  Paired.mapP r fun _ _ z => ⟨z.1, ht _ _ z.2.1, z.2.2⟩

section
variable {P : Program} {w : World} {H : Hp} {h : Heap} {a : Addr}
theorem rd_of {u : HO} (ok : HOk P w H h) (e : Rd H a u) : ObjOk P w H h a u := e.ok ok
theorem dk_rd {kvs : List (Key × V)} (ok : HOk P w H h) (e : Rd H a (.dK kvs)) : kvs.length ≤ sizeLine ∧ (a == sysModules) = false ∧ ∃ vs, KV kvs vs ∧ h.DictOf (mixKind P w) a vs :=
  show ObjOk P w H h a (.dK kvs) from rd_of ok e
theorem dk_of {kvs : List (Key × V)} (ok : HOk P w H h) (e : H a = some (.dK kvs)) : kvs.length ≤ sizeLine ∧ (a == sysModules) = false ∧ ∃ vs, KV kvs vs ∧ h.DictOf (mixKind P w) a vs := dk_rd ok (.inl e)
/-  a tracked tuple of ints and texts is a key -/
theorem key_of {ks : List Key} (ok : HOk P w H h) (e : H a = some (.tup (ks.map kV))) : (tupleKind (mixKind P w)).is h ks a := by
  obtain ⟨_, its, r, o, h1, h2, n, h3⟩ := (show ObjOk P w H h a (.tup (ks.map kV)) from ok a _ e)
  exact ⟨o, its.toArray, n, h1, h2, h3, by simpa using items_are r⟩
theorem dt_rd {kvs : List (List Key × V)} (ok : HOk P w H h) (e : Rd H a (.dT kvs)) : kvs.length ≤ sizeLine ∧ (a == sysModules) = false ∧
    ∃ xs, KT H kvs xs ∧ h.DictOfH (tupleKind (mixKind P w)) a xs := by
  obtain ⟨z, y, xs, r, o, es, ep, h1, h2, h3, h4, h5⟩ := (show ObjOk P w H h a (.dT kvs) from rd_of ok e)
  refine ⟨z, y, xs, r, o, es, ep, h1, h2, h3, h4, fun x hx => ?_, h5⟩
  have all : ∀ {l : List (List Key × V)} {m : List (List Key × Addr × Value)}, KT H l m → ∀ x ∈ m, (tupleKind (mixKind P w)).is h x.1 x.2.1 := by
    intro l m q
    induction q with
    | nil => intro x hx; exact nomatch hx
    | @cons p q ps qs hq t ih =>
      intro x hx
      rcases List.mem_cons.mp hx with e | hx
      · subst e
        exact key_of ok (by rw [← hq.1]; exact hq.2.1)
      · exact ih x hx
  exact all r x hx
theorem dt_of {kvs : List (List Key × V)} (ok : HOk P w H h) (e : H a = some (.dT kvs)) : kvs.length ≤ sizeLine ∧ (a == sysModules) = false ∧
    ∃ xs, KT H kvs xs ∧ h.DictOfH (tupleKind (mixKind P w)) a xs := dt_rd ok (.inl e)
end

/-  what the dict at a holds at the key y -/
def DGet (H : Hp) (a : Addr) (y : V) (r : Option V) : Prop :=
  (∃ kvs k, Rd H a (.dK kvs) ∧ y = kV k ∧ r = valV kvs k) ∨ ∃ kvs k b, Rd H a (.dT kvs) ∧ y = .ref b ∧ H b = some (.tup (k.map kV)) ∧ r = valV kvs k
/-  the heap behind a[y] = v -/
def DPut (H : Hp) (a : Addr) (y v : V) (H' : Hp) : Prop :=
  (∃ kvs k, H a = some (.dK kvs) ∧ y = kV k ∧ kvs.length < sizeLine ∧ H' = upd H a (.dK (putK kvs k v))) ∨
  ∃ kvs k b, H a = some (.dT kvs) ∧ y = .ref b ∧ H b = some (.tup (k.map kV)) ∧ kvs.length < sizeLine ∧ H' = upd H a (.dT (putK kvs k v))
theorem DGet.k {H : Hp} {a : Addr} {kvs : List (Key × V)} {k : Key} (e : H a = some (.dK kvs)) : DGet H a (kV k) (valV kvs k) := .inl ⟨kvs, k, .inl e, rfl, rfl⟩
theorem DPut.k {H : Hp} {a : Addr} {kvs : List (Key × V)} {k : Key} {v : V} (e : H a = some (.dK kvs)) (hl : kvs.length < sizeLine) : DPut H a (kV k) v (upd H a (.dK (putK kvs k v))) := .inl ⟨kvs, k, e, rfl, hl, rfl⟩
section
variable {X : Cx} {pins : List (Addr × Obj)} {σ : St} {H : Hp} {s : Shared} {a : Addr} {y v : V} {u r : Value} {o : Option V} {A : Around} {E : Value → Shared → Prop}

theorem Inv.big (I : Inv X pins σ H s) : sysModules < s.heap.objs.size := by
  have h : mainGlobals < s.heap.objs.size := (I.mod.glob.keeps I.bk).lt
  exact Nat.lt_trans (by decide) h

/-  d[y], there -/
theorem d_getItem {Q : Value → Shared → Prop} (hu : A.units + 1 < cLine) (I : Inv X pins σ H s) (g : DGet H a y (some v)) (ry : RelV y u) (h : ∀ w' s', Inv X pins σ H s' → RelV v w' → Q w' s') :
    wpAny (model X.prog X.w) A (getItem (.ref a) u) Q E s := by
  rcases g with ⟨kvs, k, e, ey, l⟩ | ⟨kvs, k, b, e, ey, eb, l⟩
  · subst ey
    obtain ⟨z, hd, vs, rel, dd⟩ := dk_rd I.hok e
    obtain ⟨w', hw, rw'⟩ := RelO.some_of (v := v) (o := valueAt vs k) (by rw [l]; exact rel.val k)
    exact wpAny_getItem_of (kV_is ry) dd.mapOf hw (h w' _ (I.tok _) rw')
  · subst ey
    cases (show u = Value.ref b from ry)
    obtain ⟨z, hd, xs, rel, dd⟩ := dt_rd I.hok e
    obtain ⟨w', hw, rw'⟩ := RelO.some_of (v := v) (o := (atKey xs k).map (·.2)) (by rw [l]; exact rel.val k)
    obtain ⟨p, hp, hp2⟩ := Option.map_eq_some_iff.mp hw
    refine wpAny_getItem_heap (tupleKind_room_in1 hu) (key_of I.hok eb) dd hp ?_
    rw [hp2]
    exact h w' _ (I.tok _) rw'
/-  y in d -/
theorem d_in {Q : Value → Shared → Prop} (hu : A.units + 1 < cLine) (I : Inv X pins σ H s) (g : DGet H a y o) (ry : RelV y u) (h : ∀ s', Inv X pins σ H s' → Q (.bool o.isSome) s') :
    wpAny (model X.prog X.w) A (compareOp .In u (.ref a)) Q E s := by
  rcases g with ⟨kvs, k, e, ey, l⟩ | ⟨kvs, k, b, e, ey, eb, l⟩
  · subst ey
    obtain ⟨z, hd, vs, rel, dd⟩ := dk_rd I.hok e
    refine wpAny_in_of (kV_is ry) hd dd.mapOf ?_
    rw [← (rel.val k).isSome_eq, ← l]
    exact h _ (I.tok _)
  · subst ey
    cases (show u = Value.ref b from ry)
    obtain ⟨z, hd, xs, rel, dd⟩ := dt_rd I.hok e
    refine wpAny_in_heap (tupleKind_room_in1 hu) (key_of I.hok eb) hd dd ?_
    have q := (rel.val k).isSome_eq
    rw [Option.isSome_map] at q
    rw [← q, ← l]
    exact h _ (I.tok _)
theorem d_notIn {Q : Value → Shared → Prop} (hu : A.units + 1 < cLine) (I : Inv X pins σ H s) (g : DGet H a y o) (ry : RelV y u) (h : ∀ s', Inv X pins σ H s' → Q (.bool (!o.isSome)) s') :
    wpAny (model X.prog X.w) A (compareOp .NotIn u (.ref a)) Q E s := by
  rcases g with ⟨kvs, k, e, ey, l⟩ | ⟨kvs, k, b, e, ey, eb, l⟩
  · subst ey
    obtain ⟨z, hd, vs, rel, dd⟩ := dk_rd I.hok e
    refine wpAny_notIn_of (kV_is ry) hd dd.mapOf ?_
    rw [← (rel.val k).isSome_eq, ← l]
    exact h _ (I.tok _)
  · subst ey
    cases (show u = Value.ref b from ry)
    obtain ⟨z, hd, xs, rel, dd⟩ := dt_rd I.hok e
    refine wpAny_notIn_heap (tupleKind_room_in1 hu) (key_of I.hok eb) hd dd ?_
    have q := (rel.val k).isSome_eq
    rw [Option.isSome_map] at q
    rw [← q, ← l]
    exact h _ (I.tok _)
/-  a dict's object is replaced -/
theorem d_write {h' : Heap} {t' : Nat} {ob : HO} (I : Inv X pins σ H s) (mu : Mut (H a)) (hs : Heap.SameBut a s.heap h') (he : ∃ q, h'.get? a = some q) (new : ObjOk X.prog X.w (upd H a ob) h' a ob) :
    Inv X pins σ (upd H a ob) { s with heap := h', toks := t' } :=
  I.write (x := a) (e := a) mu (.inl rfl) (fun b q hb z => (hs.2 b hb).trans z) he new
theorem dk_new {P : Program} {w : World} {H' : Hp} {h' : Heap} {kvs : List (Key × V)} {vs : List (Key × Value)} (z : kvs.length ≤ sizeLine) (hd : (a == sysModules) = false) (rel : KV kvs vs) (dd : h'.DictOf (mixKind P w) a vs) :
    ObjOk P w H' h' a (.dK kvs) := ⟨z, hd, vs, rel, dd⟩
/-  d[y] = v -/
theorem d_setItem {H' : Hp} {Q : Unit → Shared → Prop} (hu : A.units + 1 < cLine) (I : Inv X pins σ H s) (g : DPut H a y v H') (ry : RelV y u) (rv : RelV v r) (h : ∀ s', Inv X pins σ H' s' → Q () s') :
    wpAny (model X.prog X.w) A (setItem (.ref a) u r) Q E s := by
  rcases g with ⟨kvs, k, e, ey, l, eH⟩ | ⟨kvs, k, b, e, ey, eb, l, eH⟩
  · subst ey eH
    obtain ⟨z, hd, vs, rel, dd⟩ := dk_of I.hok e
    have hz : vs.length ≤ sizeLine := by rw [← rel.length]; exact z
    have hl : (putK kvs k v).length ≤ sizeLine := by have := length_putK kvs k v; (first | lia | omega)
    refine wpAny_setItem_pairs (hsz := hz) (kV_is ry) dd fun h' dd' hs => h _ ?_
    have he : ∃ q, h'.get? a = some q := let ⟨q, _, _, hq, _⟩ := dd'; ⟨q, hq⟩
    exact d_write I (by rw [e]; exact True.intro) hs he (dk_new hl hd (rel.put k rv) dd')
  · subst ey eH
    cases (show u = Value.ref b from ry)
    obtain ⟨z, hd, xs, rel, dd⟩ := dt_of I.hok e
    have hz : xs.length ≤ sizeLine := by rw [← Paired.length rel]; exact z
    have hl : (putK kvs k v).length ≤ sizeLine := by have := length_putK kvs k v; (first | lia | omega)
    refine wpAny_setItem_heap (hsz := hz) (tupleKind_room_in1 hu) (key_of I.hok eb) dd fun h' dd' hs => h _ ?_
    obtain ⟨q, es, ep, hq, h2, h3, h4, _, h5⟩ := dd'
    refine d_write I (by rw [e]; exact True.intro) hs ⟨q, hq⟩ ⟨hl, hd, _, (rel.put k eb rv).keeps fun c ys ec => ?_, q, es, ep, hq, h2, h3, h4, h5⟩
    rw [upd_ne (ne_of ec e (fun z => nomatch z))]
    exact ec
end

section
variable {X : Cx} {pins : List (Addr × Obj)} {σ : St} {H : Hp} {s : Shared} {a : Addr} {kvs : List (Key × V)} {k : Key} {u : Value} {A : Around} {E : Value → Shared → Prop}
/-  del d[k] -/
/-  d.pop(k[, x]), there -/
/-  d.pop(k, x), not there -/
/-  d.clear() -/
/-  len(d) -/
/-  if d -/
end


/-! ### readings and rules -/
/-  the element of a subscription, not a slice -/
def NoSl (i : Expr) : Prop := ∀ ov iv, subscripted i false ov iv = operate [ov, iv] (getItem ov iv)
theorem subD_of {prog : Program} {w : World} {A : Around} {E : Value → Shared → Prop} {s : Shared} {env : Env} {value slice : Expr} {pos : Pos} {T id : String} {Q : Value → Shared → Prop}
    (hl : typeLookup (.type T) "__getitem__" = pure (some (.builtin id))) (hs : NoSl slice)
    (h : wpAny (model prog w) A (eval value env) (fun o s₁ => wpAny (model prog w) A (eval slice env) (fun i s₂ => s₂.TypeIs o T ∧ wpAny (model prog w) A (getItem o i) Q E s₂) E s₁) E s) :
    wpAny (model prog w) A (eval (.Subscript value slice pos) env) Q E s := by
  refine Subscript_ (wpAny_mono h (fun o s₁ h₁ => wpAny_mono h₁ (fun i s₂ h₂ => ?_) fun _ _ x => x) fun _ _ x => x)
  obtain ⟨hT, h₂⟩ := h₂
  unfold subscriptTail
  refine wpAny_bind ?_
  rw [getitemInPython_of_ne hT.not_modules]
  refine wpAny_bind (wpAny_specialOf hT hl ?_)
  have fin : wpAny (model prog w) A (subscripted slice false o i) (fun r s₃ => wpAny (model prog w) A (letTemporaryGo value o r >>= fun _ => pure r) Q E s₃) E s₂ := by
    rw [hs o i]
    exact wpAny_operating (wpAny_mono h₂ (fun r s₃ h₃ => wpAny_bind (wpAny_letTemporaryGo (wpAny_pure h₃))) fun _ _ x => x)
  first
    | exact wpAny_pure (wpAny_bind fin)
    | exact wpAny_bind (wpAny_pure (wpAny_bind fin))
    | exact wpAny_bind fin

theorem dict_typeIs {X : Cx} {pins : List (Addr × Obj)} {σ : St} {H : Hp} {s : Shared} {a : Addr} {y : V} {o : Option V} (I : Inv X pins σ H s) (g : DGet H a y o) : s.TypeIs (.ref a) "dict" := by
  rcases g with ⟨kvs, k, e, _, _⟩ | ⟨kvs, k, b, e, _, _, _⟩
  · obtain ⟨_, _, vs, _, dd⟩ := dk_rd I.hok e
    exact dd.typeIs
  · obtain ⟨_, _, xs, _, dd⟩ := dt_rd I.hok e
    exact dd.typeIs
/-  d[y] -/
def tDGet (td ty : TE) : TE := fun σ H Q => td σ H fun x H1 => ty σ H1 fun y H2 => ∃ a v, x = .ref a ∧ DGet H2 a y (some v) ∧ Q v H2
/-  y in d, y not in d -/
def tDIn (ty td : TE) : TE := fun σ H Q => ty σ H fun y H1 => td σ H1 fun x H2 => ∃ a o, x = .ref a ∧ DGet H2 a y o ∧ Q (.bl o.isSome) H2
def tDNotIn (ty td : TE) : TE := fun σ H Q => ty σ H fun y H1 => td σ H1 fun x H2 => ∃ a o, x = .ref a ∧ DGet H2 a y o ∧ Q (.bl (!o.isSome)) H2
/-  d[y] = v -/
def sDPut (td ty tv : TE) : TS := fun D σ H => tv σ H fun v H1 => td σ H1 fun x H2 => ty σ H2 fun y H3 => ∃ a H4, x = .ref a ∧ DPut H3 a y v H4 ∧ D.nx σ H4
/-  d[y] op= v -/
/-  del d[y] -/
section
variable {X : Cx} {o i e value : Expr} {pos pos' tpos : Pos} {td ty tv : TE}
theorem pe_dget (hu : X.A.units + 1 < cLine) (ho : PE X o td) (hi : PE X i ty) (hs : NoSl i) : PE X (.Subscript o i pos) (tDGet td ty) := by
  intro pins s σ H Q I h
  refine subD_of PySem.F.slot_dict_getitem.lookup hs (thn (ho pins s σ H _ I h) fun u s1 hh35 => ?_)
  obtain ⟨x, H1, I1, rx, q1⟩ := hh35
  refine thn (hi pins s1 σ H1 _ I1 q1) fun iv s2 hh36 => ?_
  obtain ⟨y, H2, I2, ry, a, v, ex, g, q2⟩ := hh36
  subst ex
  obtain rfl : u = Value.ref a := rx
  exact ⟨dict_typeIs I2 g, d_getItem hu I2 g ry fun w' s3 I3 rw' => ⟨v, H2, I3, rw', q2⟩⟩
theorem pc_din (hu : X.A.units + 1 < cLine) (hi : PE X i ty) (ho : PE X o td) : PC X .In i o (tDIn ty td) := by
  intro pins s σ H Q I h
  refine thn (hi pins s σ H _ I h) fun iv s1 hh37 => ?_
  obtain ⟨y, H1, I1, ry, q1⟩ := hh37
  refine thn (ho pins s1 σ H1 _ I1 q1) fun u s2 hh38 => ?_
  obtain ⟨x, H2, I2, rx, a, ov, ex, g, q2⟩ := hh38
  subst ex
  obtain rfl : u = Value.ref a := rx
  exact d_in hu I2 g ry fun s3 I3 => ⟨.bl ov.isSome, H2, I3, rfl, q2⟩
theorem pc_dnotin (hu : X.A.units + 1 < cLine) (hi : PE X i ty) (ho : PE X o td) : PC X .NotIn i o (tDNotIn ty td) := by
  intro pins s σ H Q I h
  refine thn (hi pins s σ H _ I h) fun iv s1 hh39 => ?_
  obtain ⟨y, H1, I1, ry, q1⟩ := hh39
  refine thn (ho pins s1 σ H1 _ I1 q1) fun u s2 hh40 => ?_
  obtain ⟨x, H2, I2, rx, a, ov, ex, g, q2⟩ := hh40
  subst ex
  obtain rfl : u = Value.ref a := rx
  exact d_notIn hu I2 g ry fun s3 I3 => ⟨.bl (!ov.isSome), H2, I3, rfl, q2⟩
theorem ps_dput (hu : X.A.units + 1 < cLine) (ho : PE X o td) (hi : PE X i ty) (hv : PE X value tv) (hs : swapsWith value (some (.Subscript o i pos')) pos.line X.env = pure false) :
    PS X (.Assign [.Subscript o i pos'] value pos) (sDPut td ty tv) := by
  intro pins s σ H D I h
  refine wpAny_Assign_Subscript (thn (hv pins s σ H _ I h) fun r s1 hh41 => ?_) hs
  obtain ⟨v, H1, I1, rv, q1⟩ := hh41
  refine thn (ho pins s1 σ H1 _ I1 q1) fun u s2 hh42 => ?_
  obtain ⟨x, H2, I2, rx, q2⟩ := hh42
  refine thn (hi pins s2 σ H2 _ I2 q2) fun iv s3 hh43 => ?_
  obtain ⟨y, H3, I3, ry, a, H4, ex, g, q3⟩ := hh43
  subst ex
  obtain rfl : u = Value.ref a := rx
  exact d_setItem hu I3 g ry rv fun s4 I4 => ⟨σ, H4, I4, q3⟩
end


/-! ### displays -/
theorem dk_empty {P : Program} {w : World} {H : Hp} (h : Heap) (hb : sysModules < h.objs.size) : ObjOk P w H (h.push { cls := .type "dict", data := .dict #[] }) h.objs.size (.dK []) :=
  ⟨Nat.zero_le _, beq_eq_false_iff_ne.mpr (Ne.symm (Nat.ne_of_lt hb)), [], .nil, Heap.DictOf.new h⟩
/-  {}, to be a dict of the kind that is wanted -/
def tDNewK : TE := fun _ H Q => ∀ p, H p = none → Q (.ref p) (upd H p (.dK []))
section
variable {X : Cx} {pos : Pos}
theorem pe_dnewK : PE X (.Dict [] [] pos) tDNewK := fun pins s σ H Q I h =>
  wpAny_Dict_empty ⟨.ref s.heap.objs.size, _, I.laid (a := s.heap.objs.size) (o := .dK []) (t' := s.toks) (fun _ _ q => Heap.get?_push_of_some _ q) (Nat.le_refl _) (dk_empty s.heap I.big), rfl, h _ (I.hok.fresh (Nat.le_refl _))⟩
end

/-  the pairs of a display, from the left -/
/-  {k: v, ..} with keys ints and texts; the new dict stands empty while the pairs are made -/
/-! ### methods -/
/-  a method call o.m(e) of a built-in, with one argument: what must be seen of the text -/
/-  a is a dict, whatever its keys -/
section
variable {X : Cx} {pins : List (Addr × Obj)} {σ : St} {H : Hp} {s : Shared} {a : Addr} {y d : V} {u r : Value} {o : Option V} {A : Around} {E : Value → Shared → Prop}
/-  d.get(y) -/
/-  d.get(y, x) -/
end

/-  d.pop(k): there; d.pop(k, x): there or not -/
section
variable {X : Cx} {o e f : Expr} {apos cpos : Pos} {td ty tx : TE}
end

/-! ### dict(d): a copy -/
section
variable {X : Cx} {pins : List (Addr × Obj)} {σ : St} {H : Hp} {s : Shared} {a : Addr} {kvs : List (Key × V)} {A : Around} {E : Value → Shared → Prop}
end


section
variable {X : Cx} {pins : List (Addr × Obj)} {σ : St} {H : Hp} {s : Shared} {a : Addr} {y : V} {u : Value} {A : Around} {E : Value → Shared → Prop}
/-  d[y], not there: a KeyError -/
end
end L2

namespace Att
open PySem PySem.W PySem.Calls PyProof.Rows

/-! ### the script -/
theorem ints_of_wellAll {P : Params} {h : Heap} : ∀ (ns : List Int) (vs : List Value), WellAll P h vs (ns.map WData.int) → IntsAre vs ns := by
  intro ns
  induction ns with
  | nil =>
    intro vs w
    rw [List.map_nil] at w
    cases w
    exact .nil
  | cons n ns ih =>
    intro vs w
    rw [List.map_cons] at w
    cases w with
    | cons a b =>
      cases a
      exact .cons _ _ (ih _ b)

theorem script_of {l : OpenLaw} {n : Nat} (hn : l.most = some n) {P : Params} {h : Heap} {args : List WData} {vals : List Value}
    (hpre : l.row.toRowW.claim.pre args = true) (hwl : WellAll P h vals args) :
    ∃ a vs ns, vals = [Value.ref a] ∧ args = [WData.list (ns.map WData.int)] ∧ h.get? a = some { cls := .type "list", data := .seq vs.toArray } ∧ IntsAre vs ns ∧ ns.length ≤ n := by
  have hsh : WShape.hasAll [] args [.list .int] = true := (pre_splitW hpre).1
  have hc : l.pre.holds [] { args := args } = true := (pre_splitW hpre).2
  obtain ⟨d, r, rfl, h1, h2⟩ := hasAllW_cons hsh
  obtain rfl := hasAllW_nil h2
  obtain ⟨xs, rfl, h3⟩ := hasW_list h1
  obtain ⟨ns, rfl⟩ := items_int h3
  have hlen : ns.length ≤ n := by
    unfold OpenLaw.pre at hc
    have h4 : (WTm.not (.lt (.lit (.int (n : Int))) (.len (.arg 0)))).holds [] { args := [.list (ns.map .int)] } = true := by
      have h4 := (holds_andW hc).1
      rw [hn] at h4
      exact h4
    have h5 := condW_of h4 (w_not (w_lt w_lit (w_len_list (w_arg rfl))))
    rw [List.length_map] at h5
    refine Nat.le_of_not_lt fun q => ?_
    have q' : (n : Int) < ((ns.length : Nat) : Int) := by omega
    first
      | (rw [decide_eq_true q'] at h5; exact absurd h5 (by decide))
      | (simp at h5; omega)
  cases hwl with
  | cons w1 w2 =>
    cases w2
    cases w1 with
    | list ho hall => exact ⟨_, _, ns, rfl, rfl, ho, ints_of_wellAll ns _ hall, hlen⟩

theorem post_true (l : OpenLaw) (args : List WData) : l.row.toRowW.claim.post args (.bool true) args = true :=
  postW_of (r := l.row.toRowW) (X := (true == true))
    (show WShape.has [] (.bool true) .bool = true by first | rfl | decide | simp [WShape.has, WShape.arms, WShape.armsAll])
    (show (WTm.eq .res (.lit (.bool true))).value [] { args := args, res := some (.bool true), after := args } = some (.bool (true == true)) from w_eq_bool (w_res rfl) w_lit) rfl

/-! ### the attachment: holds_open's last premise (the goal 'hc' behind k_head) from a wpAny of the law's body -/
/-  the same from a codeAny of the CALL (for a layer whose function contracts speak of calls) -/
theorem attach_call {l : OpenLaw} {n : Nat} {q : Program} {loose : List Str} {XP : (Str → Option Value) → Heap → Prop} {YP : World → Heap → Prop} {d : DefRec}
    (hn : l.most = some n) (hdf : d.params.defaults = [])
    (call : ∀ (w : World) (s₀ s₁ : Shared) (mg mb : Str → Option Value) (fa : Addr) (o : Obj) (pm cd doc : Value) (a : Addr) (vs : List Value) (ns : List Int),
      Ground q loose [] XP w s₀ mg mb s₁.heap → YP w s₁.heap →
      s₁.heap.get? fa = some o → o.data = .func (docDef d.name d.params d.body d.scope pm cd doc) → s₁.heap.CodeRec cd d.name → mg d.name = some (.ref fa) →
      s₁.heap.get? a = some { cls := .type "list", data := .seq vs.toArray } → IntsAre vs ns → ns.length ≤ n → s₁.gens = #[] →
      codeAny (model l.prog w) callerA (.call (.ref fa) ⟨[.ref a], []⟩) (fun r s' => r = .ok (.ret (.bool true)) ∧ OldK s₁.heap s'.heap ∧ s'.os = s₁.os ∧ AllBare s'.gens) s₁) :
    WalkO q loose XP YP l.row.toRowW d [] (fun f vs => PySem.call f vs) := by
  intro w s₀ s₁ mg mb G Y fa o pm cd doc dV kV ho hd hcd hD hmg hg args vals as hpre hlay hrd hwl hlo
  obtain rfl : dV = .none := Dflts.none hD hdf
  obtain rfl : kV = .none := Dflts.noKw hD
  obtain ⟨a, vs, ns, rfl, rfl, hobj, hints, hlen⟩ := script_of hn hpre hwl
  refine enter_call (codeAny_mono (call w s₀ s₁ mg mb fa o pm cd doc a vs ns G Y ho (fd_plain hd) hcd hmg hobj hints hlen hg) fun r s' hq => ?_)
  obtain ⟨rfl, h2, h3, h4⟩ := hq
  exact ⟨.inl ⟨.bool true, .bool true, [], rfl, fun _ => rfl, .bool true, post_true l _, fun _ => ⟨List.Pairwise.nil, fun _ hm => (nomatch hm)⟩⟩, h2, h3, h4⟩

/-  the same where the top left finished generators (o_head chose holds_openN): nothing may have changed at all and no generator may be left -/
/-! ### rules over ANY heap (no ledger) from facts about the written part K: the library's own take a ledger (News) for what they write -/
section
variable {prog : Program} {w : World} {A : Around} {E : Value → Shared → Prop} {s : Shared} {K : Frag}

/-  a def of the module, or a method (qual 'C.m'), entered: the frame is the next address; cells behind it -/
/-  C(..): dict at size, instance at size + 1, then __init__ -/
/-  x.name where the instance's dict holds the name and the class does not -/
/-  x.m(..): the method found in the class -/
/-! the whole heap as the ledger: makes every rule that writes through a ledger a rule over any heap -/
/-  Upd of the head entry (for append_K, setItem_K ..) -/
/-  x.name = v over any heap: L is any namespace of the heap (the frame's, say): its map stays, its object is not told; all else but the dict stays -/
end
end Att

namespace L2
open PySem PySem.Spec PyProof.Rows

theorem vals_ints : ∀ {vs : List Value} {ns : List Int}, IntsAre vs ns → Vals (ns.map V.int) vs
  | _, _, .nil => .nil
  | _, _, .cons n t h => .cons ⟨t, rfl⟩ (vals_ints h)

/-  nothing is tracked but the script, known to the object (or it is an object of the module) -/
def Only (H : Hp) : Prop := ∀ b, H b = none ∨ ∃ o xs, H b = some (.frz o (.lst xs))

/-  THE HEAD: the law's promise, at the heap behind the top. F, the promise of the law's def, may use that base is part of the heap (so K.In base, base.Ns mainGlobals mg stand in Mod) -/
theorem law_call {P : Program} {w : World} {K : PySem.W.Frag} {mg mb : Str → Option Value} {CX : CXT} {k : Nat} {fa a : Addr} {fd : FuncData} {x : Str} {sp : Sp} {s₁ : Shared} {vs : List Value} {ns : List Int}
    (KX : K.In s₁.heap) (hns : s₁.heap.Ns mainGlobals mg) (hb : s₁.heap.Ns builtinsNs mb) (hbb : ∀ x : Str, x ≠ "__name__" → mb x = bootBuiltins x) (hlim : s₁.heap.NoLimit) (hbm : ∃ b o, mg "__builtins__" = some (.ref b) ∧ b ≠ builtinsNs ∧ s₁.heap.get? b = some o ∧ o.cls = .type "module" ∧ o.dict = some builtinsNs ∧ o.data = .plain) (hg : s₁.gens = #[])
    (ha : s₁.heap.get? a = some { cls := .type "list", data := .seq vs.toArray }) (hi : IntsAre vs ns) (hl : ns.length ≤ sizeLine) (hr : Room k callerA)
    (F : ∀ base : Heap, K.In base → base.Ns mainGlobals mg → FnOk P w K mg base CX k fa fd [x] sp) (hbind : ∀ (s : Shared) (u : Value), BindsTo s fd ⟨[u], []⟩ [(x, u)])
    (hsp : ∀ H : Hp, Only H → SqL K H a (ns.map V.int) → sp [.ref a] H (fun v _ => v = .bl true) fun _ _ _ => False)
    (hCX : ∀ H e s', CX [] H s₁ (fun _ _ _ => False) e s' → False) :
    codeAny (model P w) callerA (.call (.ref fa) ⟨[.ref a], []⟩) (fun r s' => r = .ok (.ret (.bool true)) ∧ OldK s₁.heap s'.heap ∧ s'.os = s₁.os ∧ AllBare s'.gens) s₁ := by
  have rv := vals_ints hi
  have lenV := hi.length
  -- from an abstract heap in which nothing but the script may be tracked
  have core : ∀ H : Hp, Only H → SqL K H a (ns.map V.int) → HOk P w H s₁.heap → (∀ b, H b ≠ none → b = a) → (H a ≠ none → K.lookup a = none) →
      codeAny (model P w) callerA (.call (.ref fa) ⟨[.ref a], []⟩) (fun r s' => r = .ok (.ret (.bool true)) ∧ OldK s₁.heap s'.heap ∧ s'.os = s₁.os ∧ AllBare s'.gens) s₁ := by
    intro H hO hS hok hA hK
    have base_of : ∀ {b : Addr} {o : Obj}, s₁.heap.get? b = some o → H b = none → (hidT s₁.heap H).get? b = some o := fun e n => hidT_get e n
    have noA : ∀ {b : Addr} {o : Obj} {es : Array DictEntry} {ep : Nat}, s₁.heap.get? b = some o → o.data = .dict es ep → H b = none := fun {b o es ep} e d => by
      cases q : H b with
      | none => rfl
      | some u =>
        have e' : b = a := hA b (by rw [q]; simp)
        subst e'
        rw [ha] at e; cases e
        have d' : Data.seq vs.toArray _ = Data.dict es ep := d
        cases d'
    have nsK : ∀ {b : Addr} {m : Str → Option Value}, s₁.heap.Ns b m → (hidT s₁.heap H).Ns b m := fun {b m} ⟨o, es, ep, e, d, r⟩ => ⟨o, es, ep, base_of e (noA e d), d, r⟩
    have hKb : K.In (hidT s₁.heap H) := fun b o e => base_of (KX b o e) (by
      cases q : H b with
      | none => rfl
      | some u =>
        have e' : b = a := hA b (by rw [q]; simp)
        subst e'
        rw [hK (by rw [q]; simp)] at e; cases e)
    have hM : Mod K mg (hidT s₁.heap H) := ⟨hKb, nsK hns, ⟨mb, nsK hb, hbb⟩, let ⟨mc, h1, h2⟩ := hlim; ⟨mc, nsK h1, h2⟩, let ⟨b, o, a1, a2, a3, a4⟩ := hbm; ⟨b, o, a1, a2, base_of a3 (by
      cases q : H b with
      | none => rfl
      | some u =>
        have e' : b = a := hA b (by rw [q]; simp)
        subst e'
        rw [ha] at a3; cases a3
        exact absurd a4.1 (by simp)), a4⟩⟩
    have e0 : Env0 P w K mg (hidT s₁.heap H) callerA [] s₁ H := ⟨rfl, hM, fun b o e => of_hidT e, Nat.le_of_eq (hidT_size _ _), trivial, fun b hb => absurd (show b ∈ ([] : List Addr) from hb) (by simp), hok, .of_eq hg⟩
    refine codeAny_mono ((F _ hKb (nsK hns)).run callerA [] s₁ H ⟨[.ref a], []⟩ [.ref a] [.ref a] _ _ hr e0 (hbind s₁ (.ref a)) (.cons rfl .nil) (hsp H hO hS)) fun r s' h => ?_
    cases r with
    | error e => exact (hCX H e s' h).elim
    | ok fl =>
      cases fl with
      | next => exact False.elim h
      | brk => exact False.elim h
      | cont => exact False.elim h
      | ret u =>
        obtain ⟨v, H', os, bare, un, hok', r', q⟩ := h
        have q' : v = .bl true := q
        subst q'
        obtain rfl : u = Value.bool true := r'
        refine ⟨rfl, OldK.of_keep fun b o e => ?_, os, bare⟩
        cases q : H b with
        | none => exact un.keep b o e q (by intro z; exact absurd (show b ∈ ([] : List Addr) from z) (by simp)) (by simp)
        | some u =>
          rcases hO b with z | ⟨ob, xs, z⟩
          · rw [q] at z; cases z
          · have z2 := un.fix b _ z trivial
            obtain ⟨e1, _⟩ := hok b _ z
            obtain ⟨e2, _⟩ := hok' b _ z2
            rw [e] at e1; cases e1
            exact e2
  cases hk : K.lookup a with
  | some o =>
    -- the script is one of the module's own objects
    have e := KX a o hk
    rw [ha] at e
    cases e
    refine core (fun _ => none) (fun _ => .inl rfl) (.inr ⟨_, vs.toArray, _, hk, rfl, rfl, rfl, by rw [List.size_toArray, lenV]; exact hl, by simpa using rv⟩) (fun b u z => by have z' : (none : Option HO) = some u := z; cases z') (fun b z => absurd rfl z) fun z => absurd rfl z
  | none =>
    refine core (fun b => if b = a then some (.frz { cls := .type "list", data := .seq vs.toArray } (.lst (ns.map V.int))) else none) (fun b => ?_) (.inl (.inr ⟨{ cls := .type "list", data := .seq vs.toArray }, if_pos rfl⟩)) (fun b u z => ?_) (fun b z => ?_) fun _ => hk
    · by_cases hb : b = a
      · exact .inr ⟨_, _, if_pos hb⟩
      · exact .inl (if_neg hb)
    · by_cases hb : b = a
      · have z' := (if_pos hb).symm.trans z
        cases z'
        subst hb
        exact ⟨ha, by rw [List.length_map]; exact hl, vs, _, rv, ha⟩
      · have z' := (if_neg hb).symm.trans z
        cases z'
    · by_cases hb : b = a
      · exact hb
      · exact absurd (if_neg hb) z
end L2

namespace L2
open PySem PySem.Spec PyProof.Rows

/-  the goal that k_head leaves (case hc), from the law's promise. F gives the function object fd (K's own) once, then the promise over every base -/
theorem walk_of {l : PySem.W.OpenLaw} {n k : Nat} {q : Program} {loose : List Str} {XP : (Str → Option Value) → Heap → Prop} {YP : World → Heap → Prop} {d : DefRec} {K : Params → PySem.W.Frag} {CX : World → CXT} {sp : World → Sp} {x : Str}
    (hn : l.most = some n) (hn2 : n ≤ sizeLine) (hdf : d.params.defaults = []) (hr : Room k callerA)
    (hY : ∀ (w : World) (h : Heap), YP w h → (K w.params).In h)
    (F : ∀ (w : World) (mg : Str → Option Value) (fa : Addr) (h : Heap), (K w.params).In h → h.Ns mainGlobals mg → mg d.name = some (.ref fa) →
      ∃ fd : FuncData, (∀ (s : Shared) (u : Value), BindsTo s fd ⟨[u], []⟩ [(x, u)]) ∧
        ∀ base : Heap, (K w.params).In base → base.Ns mainGlobals mg → FnOk l.prog w (K w.params) mg base (CX w) k fa fd [x] (sp w))
    (hsp : ∀ (w : World) (H : Hp) (a : Addr) (ns : List Int), ns.length ≤ n → Only H → SqL (K w.params) H a (ns.map V.int) → sp w [.ref a] H (fun v _ => v = .bl true) fun _ _ _ => False)
    (hCX : ∀ (w : World) (H : Hp) (s : Shared) (e : Value) (s' : Shared), CX w [] H s (fun _ _ _ => False) e s' → False) :
    PySem.W.WalkO q loose XP YP l.row.toRowW d [] (fun f vs => PySem.call f vs) := by
  refine Att.attach_call hn hdf fun w s₀ s₁ mg mb fa o pm cd doc a vs ns G Y ho hd hcd hmg hobj hints hlen hg => ?_
  have KX := hY w _ Y
  obtain ⟨fd, hb, hF⟩ := F w mg fa _ KX G.T.g hmg
  exact law_call KX G.T.g G.T.b G.T.builtins G.T.nolimit G.T.bmain hg hobj hints (Nat.le_trans hlen hn2) hr hF hb (fun H hO hS => hsp w H a ns hlen hO hS) fun H e s' => hCX w H s₁ e s'
/-  the same where the promise hangs on the written part alone: (sp := My.sp_law), no hole under a binder -/
theorem walk_ofK {l : PySem.W.OpenLaw} {n k : Nat} {q : Program} {loose : List Str} {XP : (Str → Option Value) → Heap → Prop} {YP : World → Heap → Prop} {d : DefRec} {K : Params → PySem.W.Frag} {CX : CXT} {sp : PySem.W.Frag → Sp} {x : Str}
    (hn : l.most = some n) (hn2 : n ≤ sizeLine) (hdf : d.params.defaults = []) (hr : Room k callerA)
    (hY : ∀ (w : World) (h : Heap), YP w h → (K w.params).In h)
    (F : ∀ (w : World) (mg : Str → Option Value) (fa : Addr) (h : Heap), (K w.params).In h → h.Ns mainGlobals mg → mg d.name = some (.ref fa) →
      ∃ fd : FuncData, (∀ (s : Shared) (u : Value), BindsTo s fd ⟨[u], []⟩ [(x, u)]) ∧
        ∀ base : Heap, (K w.params).In base → base.Ns mainGlobals mg → FnOk l.prog w (K w.params) mg base CX k fa fd [x] (sp (K w.params)))
    (hsp : ∀ (K : PySem.W.Frag) (H : Hp) (a : Addr) (ns : List Int), ns.length ≤ n → Only H → SqL K H a (ns.map V.int) → sp K [.ref a] H (fun v _ => v = .bl true) fun _ _ _ => False)
    (hCX : ∀ (H : Hp) (s : Shared) (e : Value) (s' : Shared), CX [] H s (fun _ _ _ => False) e s' → False) :
    PySem.W.WalkO q loose XP YP l.row.toRowW d [] (fun f vs => PySem.call f vs) :=
  walk_of (K := K) (CX := fun _ => CX) (sp := fun w => sp (K w.params)) hn hn2 hdf hr hY F (fun w H a ns h1 h2 h3 => hsp (K w.params) H a ns h1 h2 h3) fun _ H s e s' => hCX H s e s'
end L2

/- THE LAST THEOREM (shape; LID, My.* are yours):
   My.Adr: a structure of the addresses that your layer names (classes, functions); My.Txt K t: a structure (Prop) of the equations over K;
   My.txt_mk : {K} {implicit addresses ..} (e1 : nsIn K mainGlobals "law" = some (some (.ref f))) (e2 : K.lookup f = some ⟨oc, od, .func (fnOf "law" "law" params body scope dV kV doc pm an cdv ct), sl⟩) (e3 : codeIn K cdv "law" = true) .. : ∃ t, My.Txt K t

(the tactic k_is has no namespace: write k_is) -/

/-! SHORT WORDS over the layer: a def of the text, its body, what a loop and a test want. -/
namespace L2
open PySem PySem.Spec PyProof.Rows

/-! ### the text by places -/
/-  the j-th statement of a class's body -/
def inClass (s : Stmt) (j : Nat) : Stmt := match s with
  | .ClassDef _ _ _ body _ _ _ _ _ _ _ => body.getD j (.Pass ⟨0, 0, 0, 0⟩)
  | _ => .Pass ⟨0, 0, 0, 0⟩
def defArgs (s : Stmt) : Arguments := match s with
  | .FunctionDef _ a _ _ _ _ _ _ _ _ => a
  | _ => { posonlyargs := [], args := [], vararg := none, kwonlyargs := [], kw_defaults := [], kwarg := none, defaults := [] }
def defBody (s : Stmt) : List Stmt := match s with
  | .FunctionDef _ _ b _ _ _ _ _ _ _ => b
  | _ => []
def defScope (s : Stmt) : Scope := match s with
  | .FunctionDef _ _ _ _ _ _ sc _ _ _ => sc
  | _ => { kind := .function, names := [], isGenerator := false, isCoroutine := false }

/-! ### no exception leaves a def -/
abbrev CX0 : CXT := fun _ _ _ _ _ _ => False
abbrev E0 : XK := fun _ _ _ => False
theorem pass0 {X : Cx} : Passes CX0 X E0 := fun _ _ _ _ _ _ _ h => h.elim

/-! ### a def (or method) of the text as it stands behind the top -/
structure Fun (K : PySem.W.Frag) (x qual : Str) (st : Stmt) (f : Addr) (fd : FuncData) : Prop where
  ex : ∃ (oc : Value) (od : Option Addr) (kV doc pm : Value) (an : Option Addr) (cdv ct : Value) (osl : Array (Option Value)),
    fd = PySem.W.fnOf x qual (defArgs st) (defBody st) (defScope st) .none kV doc pm an cdv ct ∧ K.lookup f = some ⟨oc, od, .func fd, osl⟩ ∧ PySem.W.codeIn K cdv qual = true
  kp : PySem.W.keepIn K (.ref f) = true
section
variable {P : Program} {w : World} {K : PySem.W.Frag} {mg : Str → Option Value} {base : Heap}
/-  THE RULE for a def: its body as a term of rules, and the reading of that term -/
theorem Fun.ok {x qual : Str} {st : Stmt} {f : Addr} {fd : FuncData} {N ps : List Str} {k : Nat} {sp : Sp} (F : Fun K x qual st f fd) (S : FnScope N ps (defScope st)) (len : ∀ vs H Q E, sp vs H Q E → vs.length = ps.length)
    (hbody : ∀ (cdv : Value) (A : Around) (outer : List Env) (s : Shared) (H : Hp) (vs : List V) (Q : VK) (E : XK), Room k (A.deeper (envOfC qual (defScope st) s.heap.objs.size f cdv)) → sp vs H Q E →
      ∃ t, PSs (cxOf CX0 P w K mg base N qual (defScope st) f cdv A outer s H E).nox (defBody st) t ∧ t { nx := fun _ H' => Q .non H', rt := Q } (start N vs) H) : FnOk P w K mg base CX0 (k + 1) f fd ps sp := by
  obtain ⟨oc, od, kV, doc, pm, an, cdv, ct, osl, rfl, lk, hcd⟩ := F.ex
  refine fn_of lk hcd S len fun A outer s H vs Q E hr hsp => ?_
  obtain ⟨t, h, q⟩ := hbody cdv A outer s H vs Q E hr hsp
  exact ⟨t, h.nox, q⟩
/-  how its arguments bind (no defaults): h is «fun _ _ _ _ _ _ us hl => match us, hl with | [_, _], _ => rfl», one _ a parameter -/
theorem Fun.binds {x qual : Str} {st : Stmt} {f : Addr} {fd : FuncData} {ps : List Str} (F : Fun K x qual st f fd)
    (h : ∀ (kV doc pm : Value) (an : Option Addr) (cdv ct : Value) (us : List Value), us.length = ps.length → bindArgs (PySem.W.fnOf x qual (defArgs st) (defBody st) (defScope st) .none kV doc pm an cdv ct) ⟨us, []⟩ = pure (ps.zip us)) : Binds K fd ps [] := by
  obtain ⟨oc, od, kV, doc, pm, an, cdv, ct, osl, rfl, lk, hcd⟩ := F.ex
  exact .all (h kV doc pm an cdv ct)
theorem fun_mk {x qual : Str} {st : Stmt} {f : Addr} {oc : Value} {od an : Option Addr} {osl : Array (Option Value)} {kV doc pm cdv ct : Value} (l : K.lookup f = some ⟨oc, od, .func (PySem.W.fnOf x qual (defArgs st) (defBody st) (defScope st) .none kV doc pm an cdv ct), osl⟩)
    (c : PySem.W.codeIn K cdv qual = true) (k : PySem.W.keepIn K (.ref f) = true) : Fun K x qual st f (PySem.W.fnOf x qual (defArgs st) (defBody st) (defScope st) .none kV doc pm an cdv ct) := ⟨⟨oc, od, kV, doc, pm, an, cdv, ct, osl, rfl, l, c⟩, k⟩
end
theorem hu_of {A : Around} {k : Nat} (hr : Room k A) : A.units + 1 < cLine := Nat.lt_of_le_of_lt (Nat.add_le_add_left (by decide : 1 ≤ 64) _) hr.units
/-! ### expressions in short: the name that stands in the i-th slot -/
section
variable {X : Cx}
end

/-! ### tests -/
/-! ### heaps -/
/-  all that was tracked is as it was -/
def Same (H H' : Hp) : Prop := ∀ b o, H b = some o → H' b = some o
theorem Same.refl (H : Hp) : Same H H := fun _ _ h => h
theorem Same.trans {H H1 H2 : Hp} (a : Same H H1) (b : Same H1 H2) : Same H H2 := fun c o h => b c o (a c o h)
theorem Same.free {H H' : Hp} (e : Same H H') {l : Addr} (h : H' l = Option.none) : H l = Option.none := by
  cases q : H l with
  | none => rfl
  | some o =>
    rw [e l o q] at h
    cases h
theorem Same.seq {K : PySem.W.Frag} {H H' : Hp} {a : Addr} {xs : List V} (e : Same H H') (h : SqL K H a xs) : SqL K H' a xs := by
  rcases h with (h | ⟨o, h⟩) | h
  · exact .inl (.inl (e _ _ h))
  · exact .inl (.inr ⟨o, e _ _ h⟩)
  · exact .inr h

section
variable {X : Cx}
/-  len of a dict -/
end

/-! ### a dict's pairs: keys that differ -/
section
variable {κ : Type} [DecidableEq κ]
end
end L2


set_option maxHeartbeats 4000000
/-! ROWS OF OUR OWN over the hand layer: readings that compute. -/
namespace L2
open PySem PySem.Spec PyProof.Rows
section
variable {X : Cx}
theorem PE.imp {e : Expr} {t t' : TE} (h : PE X e t) (i : ∀ σ H Q, t' σ H Q → t σ H Q) : PE X e t' :=
  fun pins s σ H Q I q => h pins s σ H Q I (i σ H Q q)
theorem PT.imp {e : Expr} {t t' : TT} (h : PT X e t) (i : ∀ σ H Q, t' σ H Q → t σ H Q) : PT X e t' :=
  fun pins s σ H Q I q => h pins s σ H Q I (i σ H Q q)
theorem OpR.imp {f : Value → Value → Sem Value} {r r' : R2} (h : OpR X f r) (i : ∀ x y H Q, r' x y H Q → r x y H Q) : OpR X f r' :=
  fun pins s σ H x y v u Q I rx ry q => h pins s σ H x y v u Q I rx ry (i x y H Q q)
theorem UnR.imp {f : Value → Sem Value} {r r' : V → Hp → VK → Prop} (h : UnR X f r) (i : ∀ x H Q, r' x H Q → r x H Q) : UnR X f r' :=
  fun pins s σ H x v Q I rx q => h pins s σ H x v Q I rx (i x H Q q)
theorem CallR.imp {f : Value} {r r' : List V → Hp → VK → Prop} (h : CallR X f r) (i : ∀ xs H Q, r' xs H Q → r xs H Q) : CallR X f r' :=
  fun pins s σ H xs us Q I rv q => h pins s σ H xs us Q I rv (i xs H Q q)
/-  one of two readings of the same expression -/
theorem pe_alt {e : Expr} {t u : TE} (h : PE X e t) (k : PE X e u) : PE X e (fun σ H Q => t σ H Q ∨ u σ H Q) :=
  fun pins s σ H Q I q => q.elim (fun z => h pins s σ H Q I z) (fun z => k pins s σ H Q I z)

/-! names -/
def cVar (i : Nat) : TE := fun σ H Q => match σ[i]? with
  | some (some v) => Q v H
  | _ => False
theorem cVar_imp {i : Nat} {σ : St} {H : Hp} {Q : VK} (q : cVar i σ H Q) : tVar i σ H Q := by
  unfold cVar at q
  split at q
  · rename_i v e; exact ⟨v, e, q⟩
  · exact q.elim
theorem cv (i : Nat) {x : Str} {pos : Pos} (hN : X.N[i]? = some x := by rfl) (hv : Vis X.env.scope x := by first | exact Or.inl rfl | exact Or.inr (Or.inl rfl) | exact Or.inr (Or.inr rfl)) (hd : (x == ("__debug__" : Str)) = false := by decide)
    (hcd : (x == ("__classdict__" : Str)) = false := by decide) : PE X (.Name x pos) (cVar i) := (pe_var hN hv hd hcd).imp fun _ _ _ q => cVar_imp q

/-! ints -/
def kI (C : Int → Int → Prop) (g : Int → Int → V) : R2 := fun x y H Q => match x with
  | .int i => (match y with
    | .int j => C i j ∧ Q (g i j) H
    | _ => False)
  | _ => False
def kI0 (g : Int → Int → V) : R2 := fun x y H Q => match x with
  | .int i => (match y with
    | .int j => Q (g i j) H
    | _ => False)
  | _ => False
theorem kI_imp {C : Int → Int → Prop} {g : Int → Int → V} {x y : V} {H : Hp} {Q : VK} (q : kI C g x y H Q) : rI C g x y H Q := by
  cases x with
  | int i =>
    cases y with
    | int j => exact ⟨i, j, rfl, rfl, q.1, q.2⟩
    | _ => exact False.elim q
  | _ => exact False.elim q
theorem kI0_imp {g : Int → Int → V} {x y : V} {H : Hp} {Q : VK} (q : kI0 g x y H Q) : rI0 g x y H Q := by
  cases x with
  | int i =>
    cases y with
    | int j => exact ⟨i, j, rfl, rfl, q⟩
    | _ => exact False.elim q
  | _ => exact False.elim q
theorem o_add : OpR X (binaryOp .Add) (kI0 fun i j => .int (i + j)) := op_add.imp fun _ _ _ _ => kI0_imp
theorem o_sub : OpR X (binaryOp .Sub) (kI0 fun i j => .int (i - j)) := op_sub.imp fun _ _ _ _ => kI0_imp
theorem o_mul : OpR X (binaryOp .Mult) (kI CMul fun i j => .int (i * j)) := op_mul.imp fun _ _ _ _ => kI_imp
def CDivB (_i j : Int) : Prop := 0 < j ∧ j.natAbs.log2 < 9000
theorem o_fdiv : OpR X (binaryOp .FloorDiv) (kI CDivB fun i j => .int (i / j)) :=
  (opI (C := CDivB) (g := fun i j => i / j) fun i j _ _ _ _ _ hc q => by
    have h0 : 0 < j := hc.1
    rw [← Int.fdiv_eq_ediv_of_nonneg i (Int.le_of_lt h0)] at q
    exact floordiv_int (Int.ne_of_gt h0) q (.inl (PyProof.noPylong_of_log2 hc.2))).imp fun _ _ _ _ => kI_imp
theorem o_mod : OpR X (binaryOp .Mod) (kI (fun _ j => 0 < j) fun i j => .int (i % j)) := op_mod.imp fun _ _ _ _ => kI_imp
theorem o_pow : OpR X (binaryOp .Pow) (kI CPow fun i j => .int (i ^ j.toNat)) := op_pow.imp fun _ _ _ _ => kI_imp
theorem o_lt : OpR X (compareOp .Lt) (kI0 fun i j => .bl (decide (i < j))) := op_lt.imp fun _ _ _ _ => kI0_imp
theorem o_le : OpR X (compareOp .LtE) (kI0 fun i j => .bl (decide (i ≤ j))) := op_le.imp fun _ _ _ _ => kI0_imp
theorem o_gt : OpR X (compareOp .Gt) (kI0 fun i j => .bl (decide (j < i))) := op_gt.imp fun _ _ _ _ => kI0_imp
theorem o_ge : OpR X (compareOp .GtE) (kI0 fun i j => .bl (decide (j ≤ i))) := op_ge.imp fun _ _ _ _ => kI0_imp
theorem dec_V {a b : V} {p : Prop} [Decidable p] (h : a = b ↔ p) : decide (a = b) = decide p := by
  by_cases e : p
  · rw [decide_eq_true e, decide_eq_true (h.mpr e)]
  · rw [decide_eq_false e, decide_eq_false (fun q => e (h.mp q))]
theorem o_eqI : OpR X (compareOp .Eq) (kI0 fun i j => .bl (decide (i = j))) := op_eq.imp fun x y H Q q => by
  obtain ⟨i, j, rfl, rfl, q⟩ := kI0_imp q
  exact ⟨rfl, by rw [dec_V (p := i = j) ⟨fun e => V.int.inj e, fun e => by rw [e]⟩]; exact q⟩
theorem o_neI : OpR X (compareOp .NotEq) (kI0 fun i j => .bl (!decide (i = j))) := op_ne.imp fun x y H Q q => by
  obtain ⟨i, j, rfl, rfl, q⟩ := kI0_imp q
  exact ⟨rfl, by rw [dec_V (p := i = j) ⟨fun e => V.int.inj e, fun e => by rw [e]⟩]; exact q⟩
/-  == of two texts -/
def kS0 (g : Str → Str → V) : R2 := fun x y H Q => match x with
  | .str i => (match y with
    | .str j => Q (g i j) H
    | _ => False)
  | _ => False
theorem kS0_imp {g : Str → Str → V} {x y : V} {H : Hp} {Q : VK} (q : kS0 g x y H Q) : ∃ i j, x = .str i ∧ y = .str j ∧ Q (g i j) H := by
  cases x with
  | str i =>
    cases y with
    | str j => exact ⟨i, j, rfl, rfl, q⟩
    | _ => exact False.elim q
  | _ => exact False.elim q
theorem o_eqS : OpR X (compareOp .Eq) (kS0 fun i j => .bl (decide (i = j))) := op_eq.imp fun x y H Q q => by
  obtain ⟨i, j, rfl, rfl, q⟩ := kS0_imp q
  exact ⟨rfl, by rw [dec_V (p := i = j) ⟨fun e => V.str.inj e, fun e => by rw [e]⟩]; exact q⟩
def kU (g : Int → V) : V → Hp → VK → Prop := fun x H Q => match x with
  | .int i => Q (g i) H
  | _ => False
theorem o_neg : UnR X (unaryOp .USub) (kU fun i => .int (-i)) := un_neg.imp fun x H Q q => by
  cases x with
  | int i => exact ⟨i, rfl, q⟩
  | _ => exact False.elim q

/-! tests, branches: two functions, one a way -/
def boolK (Q : Bool → Hp → Prop) : VK := fun x H1 => match x with
  | .bl k => Q k H1
  | _ => False
theorem boolK_of {Q : Bool → Hp → Prop} {x : V} {H1 : Hp} (q : boolK Q x H1) : ∃ k, x = .bl k ∧ Q k H1 := by
  cases x with
  | bl k => exact ⟨k, rfl, q⟩
  | _ => exact False.elim q
def cB (t : TE) : TT := fun σ H Q => t σ H (boolK Q)
variable {a b c : Expr} {ta tb tc : TE} {tA tB' : TT} {pos : Pos} {rest : List Expr}
theorem ct_cmp {op : CmpOp} {r : R2} (ho : OpR X (compareOp op) r) (ha : PE X a ta) (hb : PE X b tb) (hm : behindInMarks op b = false := by exact nomark _) : PT X (.Compare a [op] [b] pos) (cB (tOp r ta tb)) := by
  intro pins s σ H Q I h
  refine wpAny_isTrue_Compare1 (thn (ha pins s σ H _ I h) fun v s1 ⟨x, H1, I1, r1, q1⟩ => thn (hb pins s1 σ H1 _ I1 q1) fun u s2 ⟨y, H2, I2, r2, q2⟩ =>
    thn (ho pins s2 σ H2 x y v u _ I2 r1 r2 q2) fun c s3 ⟨z, H3, I3, r3, q3⟩ => ?_) hm
  obtain ⟨k, rfl, q⟩ := boolK_of q3
  cases r3
  exact wpAny_truthy_bool ⟨H3, I3, q⟩
theorem ce_cmp {op : CmpOp} {r : R2} (ho : OpR X (compareOp op) r) (ha : PE X a ta) (hb : PE X b tb) (hm : behindInMarks op b = false := by exact nomark _) : PE X (.Compare a [op] [b] pos) (tOp r ta tb) := pe_cmpR ho ha hb hm
theorem ct_val {e : Expr} {t : TE} (h : PE X e t) (he : ∀ whole, isTrue e X.env whole = (do let v ← whole; standAt e.pos; holding [v] (truthy v)) := by intro _; rfl) : PT X e (cB t) := by
  intro pins s σ H Q I hw
  refine isTrue_plain (thn (h pins s σ H _ I hw) fun v s1 hh44 => ?_) (he _)
  obtain ⟨x, H1, I1, r1, q1⟩ := hh44
  obtain ⟨d, rfl, q⟩ := boolK_of q1
  cases r1
  exact wpAny_truthy_bool ⟨H1, I1, q⟩
def cAnd (t u : TT) : TT := fun σ H Q => t σ H fun c H1 => (c = true → u σ H1 Q) ∧ (c = false → Q false H1)
def cOr (t u : TT) : TT := fun σ H Q => t σ H fun c H1 => (c = true → Q true H1) ∧ (c = false → u σ H1 Q)
theorem cw_and (ha : PT X a tA) (hb : PW X (.BoolOp .And (b :: rest) pos) tB') : PW X (.BoolOp .And (a :: b :: rest) pos) (cAnd tA tB') := by
  intro wh pins s σ H Q I h
  refine isTrue_and (thn (ha pins s σ H _ I h) fun c s1 hh45 => ?_)
  obtain ⟨H1, I1, q1⟩ := hh45
  cases c with
  | true => exact hb wh pins s1 σ H1 Q I1 (q1.1 rfl)
  | false => exact ⟨H1, I1, q1.2 rfl⟩
theorem cw_or (ha : PT X a tA) (hb : PW X (.BoolOp .Or (b :: rest) pos) tB') : PW X (.BoolOp .Or (a :: b :: rest) pos) (cOr tA tB') := by
  intro wh pins s σ H Q I h
  refine isTrue_or (thn (ha pins s σ H _ I h) fun c s1 hh46 => ?_)
  obtain ⟨H1, I1, q1⟩ := hh46
  cases c with
  | true => exact ⟨H1, I1, q1.1 rfl⟩
  | false => exact hb wh pins s1 σ H1 Q I1 (q1.2 rfl)
/-  and, or as values (bools) -/
def cAndV (ta tb : TE) : TE := fun σ H Q => ta σ H (boolK fun c H1 => (c = true → tb σ H1 Q) ∧ (c = false → Q (.bl false) H1))
def cNotV (ta : TE) : TE := fun σ H Q => ta σ H (boolK fun c H1 => Q (.bl (!c)) H1)
theorem ce_and (ha : PE X a ta) (hb : PE X (.BoolOp .And (b :: rest) pos) tb) : PE X (.BoolOp .And (a :: b :: rest) pos) (cAndV ta tb) := by
  intro pins s σ H Q I h
  refine BoolOp_and (thn (ha pins s σ H _ I h) fun v s1 hh47 => ?_)
  obtain ⟨x, H1, I1, r1, q1⟩ := hh47
  obtain ⟨c, rfl, q1⟩ := boolK_of q1
  cases r1
  refine wpAny_truthy_bool ?_
  cases c with
  | true => exact hb pins s1 σ H1 Q I1 (q1.1 rfl)
  | false => exact ⟨.bl false, H1, I1, rfl, q1.2 rfl⟩
theorem ce_not (ha : PE X a ta) : PE X (.UnaryOp .Not a pos) (cNotV ta) := by
  intro pins s σ H Q I h
  refine UnaryOp_ (thn (ha pins s σ H _ I h) fun v s1 hh48 => ?_)
  obtain ⟨x, H1, I1, r1, q1⟩ := hh48
  obtain ⟨c, rfl, q1⟩ := boolK_of q1
  cases r1
  exact not_of (wpAny_truthy_bool ⟨.bl (!c), H1, I1, rfl, q1⟩)
def cIfS (c : TT) (t u : TS) : TS := fun D σ H => c σ H fun b H1 => (b = true → t D σ H1) ∧ (b = false → u D σ H1)
theorem cs_if {c : Expr} {p q : List Stmt} {tc : TT} {t u : TS} (hc : PT X c tc) (ha : PSs X p t) (hb : PSs X q u) : PS X (.If c p q pos) (cIfS tc t u) := by
  intro pins s σ H D I h
  refine wpAny_If (thn (hc pins s σ H _ I h) fun d s1 hh49 => ?_)
  obtain ⟨H1, I1, q1⟩ := hh49
  cases d with
  | true => exact ha pins s1 σ H1 D I1 (q1.1 rfl)
  | false => exact hb pins s1 σ H1 D I1 (q1.2 rfl)
/-  a op1 b op2 c -/
/-  loops; opened by their forms alone -/
@[irreducible] def WhileAt (c : TT) (tb : TS) (D : Ends) (σ : St) (H : Hp) : Prop := ∃ W : Nat → St → Hp → Prop, (∃ m, W m σ H) ∧ ∀ m σ H, W m σ H →
  c σ H fun b H1 => (b = true → ∃ N : St → Hp → Prop, (∀ σ' H', N σ' H' → ∃ m', m' < m ∧ W m' σ' H') ∧ tb { D with nx := N, ct := N, bk := D.nx } σ H1) ∧ (b = false → D.nx σ H1)
def cWhile (c : TT) (tb : TS) : TS := fun D σ H => WhileAt c tb D σ H
@[irreducible] def ForAt (J : It) (g : TG) (tb : TS) (D : Ends) (σ : St) (H1 : Hp) : Prop := ∃ W : Nat → Nat → St → Hp → Prop, (∃ m, W 0 m σ H1) ∧ ∀ i m σ H, W i m σ H →
  (J.stop i H ∧ D.nx σ H) ∨ (J.go i H ∧ ∃ N : St → Hp → Prop, (∀ σ' H', N σ' H' → ∃ m', m' < m ∧ W (i + 1) m' σ' H') ∧ ∀ x H', J.yld i H x H' → g x σ H' fun σ2 H2 => tb { D with nx := N, ct := N, bk := D.nx } σ2 H2)
def cFor (wi : TI) (g : TG) (tb : TS) : TS := fun D σ H => wi σ H fun J H1 => ForAt J g tb D σ H1
theorem cFor_eq (wi : TI) (g : TG) (tb : TS) : cFor wi g tb = tFor wi g tb := by
  funext D σ H
  unfold cFor tFor
  congr 1
  funext J H1
  unfold ForAt
  rfl
theorem cs_for {tg iter : Expr} {body : List Stmt} {wi : TI} {g : TG} {tb : TS} {pos : Pos} (hp : PassesOwn (model X.prog X.w) X.A X.env X.xe) (hc : X.calm = true) (hi : PI X tg iter wi) (hg : PG X tg g) (hb : PSs X body tb)
    (hs : ∀ x, foldedSetIterable iter X.env x = pure x := by intro _; rfl) : PS X (.For tg iter body [] pos) (cFor wi g tb) := by
  rw [cFor_eq]
  exact ps_for hp hc hi hg hb hs
/-  a word behind a statement: its two ways are joined -/
def tCut (t : TS) : TS := fun D σ H => ∃ M : L2.St → Hp → Prop, t { D with nx := M } σ H ∧ ∀ σ' H', M σ' H' → D.nx σ' H'
theorem cs_cut {st : Stmt} {t : TS} (h : PS X st t) : PS X st (tCut t) := by
  intro pins s σ H D I q
  obtain ⟨M, q1, q2⟩ := q
  refine thn (h pins s σ H _ I q1) fun f s' z => ?_
  cases f with
  | next => obtain ⟨σ', H', I', m⟩ := z; exact ⟨σ', H', I', q2 σ' H' m⟩
  | brk => exact z
  | cont => exact z
  | ret v => exact z
/-  name = value, the value a letter from here on -/
end
end L2

/-! A LIST COMPREHENSION of one clause, with or without a test; its block runs in a context of its own. -/
namespace L2
open PySem PySem.Spec PyProof.Rows

/-  the cells that a block draws from around it -/
def clOf (cells : List (Str × Addr)) : List (Str × NameKind) → List (Str × Addr) → List (Str × Addr)
  | [], cs => cs
  | (n, k) :: r, cs => clOf cells r (if k == .free then (n, (cells.lookup n).getD 0) :: cs else cs)
theorem closure_is {scope : Scope} {env : Env} (h : ∀ y ∈ scope.names, y.2 = .free → ∃ c, env.cells.lookup y.1 = some c) : closureFor scope env = pure (clOf env.cells scope.names []) := by
  have all : ∀ (l : List (Str × NameKind)) (cs : List (Str × Addr)), (∀ y ∈ l, y.2 = .free → ∃ c, env.cells.lookup y.1 = some c) →
      (forIn l cs fun x r => match x with
        | (name, kind) => if (kind == NameKind.free) = true then do let a ← cellOf env name; pure (ForInStep.yield ((name, a) :: r)) else pure (ForInStep.yield r) : Sem (List (Str × Addr))) = pure (clOf env.cells l cs) := by
    intro l
    induction l with
    | nil => intro cs _; rfl
    | cons y r ih =>
      intro cs hl
      obtain ⟨n, k⟩ := y
      rw [List.forIn_cons]
      by_cases hk : k = .free
      · subst hk
        obtain ⟨c, hc⟩ := hl (n, .free) List.mem_cons_self rfl
        have e : cellOf env n = pure c := by unfold cellOf; rw [hc]
        simp only [beq_self_eq_true, if_true, e, pure_bind]
        rw [ih _ fun z hz => hl z (List.mem_cons_of_mem _ hz)]
        simp [clOf, hc]
      · have hb : (k == NameKind.free) = false := by simpa using hk
        simp only [hb, Bool.false_eq_true, if_false, pure_bind]
        rw [ih _ fun z hz => hl z (List.mem_cons_of_mem _ hz)]
        simp [clOf, hb]
  unfold closureFor
  have := all scope.names [] h
  simp only [bind_pure] at this ⊢
  exact this
theorem clOf_sub {cells : List (Str × Addr)} : ∀ {l : List (Str × NameKind)} {cs : List (Str × Addr)} {x : Str} {c : Addr}, (∀ y ∈ l, y.2 = .free → ∃ c, cells.lookup y.1 = some c) → (clOf cells l cs).lookup x = some c →
    cs.lookup x = some c ∨ cells.lookup x = some c
  | [], cs, x, c, _, h => .inl h
  | (n, k) :: r, cs, x, c, hl, h => by
    unfold clOf at h
    rcases clOf_sub (fun z hz => hl z (List.mem_cons_of_mem _ hz)) h with q | q
    · split at q
      · rename_i hk
        rw [List.lookup_cons] at q
        split at q
        · rename_i hx
          obtain ⟨c', hc⟩ := hl (n, k) List.mem_cons_self (by simpa using hk)
          have e : x = n := by simpa using hx
          subst e
          rw [hc] at q
          right
          rw [hc]
          simpa using q
        · exact .inl q
      · exact .inl q
    · exact .inr q
theorem clOf_mem {cells : List (Str × Addr)} : ∀ {l : List (Str × NameKind)} {cs : List (Str × Addr)} {x : Str}, (x, NameKind.free) ∈ l ∨ (∃ c, cs.lookup x = some c) → ∃ c, (clOf cells l cs).lookup x = some c
  | [], cs, x, h => by
    rcases h with h | h
    · simp at h
    · exact h
  | (n, k) :: r, cs, x, h => by
    unfold clOf
    refine clOf_mem ?_
    rcases h with h | ⟨c, h⟩
    · rcases List.mem_cons.mp h with h | h
      · cases h
        right
        simp
      · exact .inl h
    · right
      split
      · rw [List.lookup_cons]
        split
        · exact ⟨_, rfl⟩
        · exact ⟨c, h⟩
      · exact ⟨c, h⟩

/-  the block's context -/
def Cx.blk (X : Cx) (scope : Scope) (C : Addr) (Nc : List Str) (s₂ : Shared) (H₂ : Hp) (fp : List Addr) : Cx :=
  { X with N := Nc, s₀ := s₂, H₀ := H₂, env := compEnvC scope (clOf X.env.cells scope.names []) C X.env, outer := X.stack, stack := X.stack, ex := fp, fn := fun _ => false, pn := [], xe := fun _ _ => False, cp := fun _ => false }

/-  the slots of the frame that a block sees -/
def CapOk (X : Cx) (scope : Scope) : List Nat → List Str → Prop
  | [], [] => True
  | j :: js, y :: ys => (X.N[j]? = some y ∧ scope.names.lookup y = some .free ∧ (X.env.kindOf y = some .cell ∨ X.env.kindOf y = some .free)) ∧ CapOk X scope js ys
  | _, _ => False
def capV (σ : St) (cap : List Nat) : St := cap.map fun j => (σ[j]?).getD none
structure BlkOk (X : Cx) (scope : Scope) (x : Str) (cap : List Nat) (ys : List Str) : Prop where
  kind : scope.kind = .function
  nocell : ∀ y ∈ scope.names, y.2 ≠ .cell
  locs : ∀ y ∈ scope.names, y.2 = .local → scope.names.lookup y.1 = some .local
  lx : scope.names.lookup x = some .local
  fr : ∀ y ∈ scope.names, y.2 = .free → X.env.kindOf y.1 = some .cell ∨ X.env.kindOf y.1 = some .free
  cap : CapOk X scope cap ys
  nd : (x :: ys).Nodup
theorem blk_mk {X : Cx} {scope : Scope} {x : Str} {cap : List Nat} {ys : List Str} (kind : scope.kind = .function) (h1 : (scope.names.all fun y => !(y.2 == .cell)) = true) (h2 : (scope.names.all fun y => !(y.2 == .local) || scope.names.lookup y.1 == some .local) = true)
    (hx : scope.names.lookup x = some .local) (h3 : (scope.names.all fun y => !(y.2 == .free) || (X.env.kindOf y.1 == some .cell || X.env.kindOf y.1 == some .free)) = true) (hcap : CapOk X scope cap ys) (hnd : (x :: ys).Nodup) : BlkOk X scope x cap ys := by
  refine ⟨kind, fun y hy e => ?_, fun y hy e => ?_, hx, fun y hy e => ?_, hcap, hnd⟩
  · have := List.all_eq_true.mp h1 y hy
    rw [e] at this; exact absurd this (by decide)
  · have := List.all_eq_true.mp h2 y hy
    rw [e] at this
    simpa using this
  · have := List.all_eq_true.mp h3 y hy
    rw [e] at this
    simpa using this
theorem capOk_get {X : Cx} {scope : Scope} {σ : St} : ∀ {cap : List Nat} {ys : List Str} {i : Nat} {y : Str} {v : V}, CapOk X scope cap ys → ys[i]? = some y → (capV σ cap)[i]? = some (some v) →
    ∃ j : Nat, X.N[j]? = some y ∧ σ[j]? = some (some v) ∧ scope.names.lookup y = some .free ∧ (X.env.kindOf y = some .cell ∨ X.env.kindOf y = some .free)
  | [], [], i, y, v, _, h, _ => by simp at h
  | j :: js, z :: zs, 0, y, v, ⟨⟨h1, h2, h3⟩, _⟩, e1, e2 => by
    simp at e1; subst e1
    refine ⟨j, h1, ?_, h2, h3⟩
    simp only [capV, List.map_cons, List.getElem?_cons_zero, Option.some.injEq] at e2
    cases q : σ[j]? with
    | none => rw [q] at e2; cases e2
    | some w => rw [q] at e2; simp at e2; rw [e2]
  | j :: js, z :: zs, i + 1, y, v, ⟨_, h⟩, e1, e2 => capOk_get (i := i) h (by simpa using e1) (by simpa [capV] using e2)
  | [], _ :: _, _, _, _, h, _, _ => h.elim
  | _ :: _, [], _, _, _, h, _, _ => h.elim
theorem capOk_len {X : Cx} {scope : Scope} : ∀ {cap : List Nat} {ys : List Str}, CapOk X scope cap ys → cap.length = ys.length
  | [], [], _ => rfl
  | _ :: _, _ :: _, ⟨_, h⟩ => by simp [capOk_len h]
  | [], _ :: _, h => h.elim
  | _ :: _, [], h => h.elim

theorem lookup_mem_names {l : List (Str × NameKind)} {y : Str} {k : NameKind} (h : l.lookup y = some k) : (y, k) ∈ l := PySem.mem_of_lookup h

/-  the relabelled scope: a free name stays free or becomes the frame's cell -/
theorem relabel_free {env : Env} : ∀ {names : List (Str × NameKind)} {x : Str}, names.lookup x = some .free →
    (names.map fun (n, k) => if (k == NameKind.free && env.scope.kind == .function && env.kindOf n == some .cell) then (n, NameKind.cell) else (n, k)).lookup x = some .cell ∨
    (names.map fun (n, k) => if (k == NameKind.free && env.scope.kind == .function && env.kindOf n == some .cell) then (n, NameKind.cell) else (n, k)).lookup x = some .free
  | [], _, h => by simp at h
  | (n, k) :: r, x, h => by
    have ih := @relabel_free env r x
    rw [List.map_cons]
    rw [List.lookup_cons] at h
    cases hx : x == n with
    | true =>
      rw [hx] at h
      simp only [Option.some.injEq] at h
      subst h
      dsimp only
      split
      · left; rw [List.lookup_cons, hx]
      · right; rw [List.lookup_cons, hx]
    | false =>
      rw [hx] at h
      dsimp only
      split
      · rw [List.lookup_cons, hx]; exact ih h
      · rw [List.lookup_cons, hx]; exact ih h
theorem relabel_of {env : Env} : ∀ {names : List (Str × NameKind)} {x : Str} {k : NameKind},
    (names.map fun (n, k) => if (k == NameKind.free && env.scope.kind == .function && env.kindOf n == some .cell) then (n, NameKind.cell) else (n, k)).lookup x = some k → (k = .cell ∨ k = .free) → (∀ y ∈ names, y.2 ≠ .cell) → (x, NameKind.free) ∈ names
  | [], _, _, h, _, _ => by simp at h
  | (n, k') :: r, x, k, h, hk, hc => by
    rw [List.map_cons] at h
    have hc' : ∀ y ∈ r, y.2 ≠ .cell := fun y hy => hc y (List.mem_cons_of_mem _ hy)
    have nk : k' ≠ .cell := hc (n, k') List.mem_cons_self
    dsimp only at h
    split at h
    · rename_i q
      rw [List.lookup_cons] at h
      split at h
      · rename_i hx
        have e : x = n := by simpa using hx
        have e2 : k' = .free := by
          simp only [Bool.and_eq_true, beq_iff_eq] at q
          exact q.1.1
        rw [e, e2]; exact List.mem_cons_self
      · exact List.mem_cons_of_mem _ (relabel_of h hk hc')
    · rw [List.lookup_cons] at h
      split at h
      · rename_i hx
        have e : x = n := by simpa using hx
        have e3 : k' = k := by simpa using h
        rcases hk with q | q
        · exact absurd (e3.trans q) nk
        · rw [e, e3, q]; exact List.mem_cons_self
      · exact List.mem_cons_of_mem _ (relabel_of h hk hc')

section
variable {X : Cx} {scope : Scope} {x : Str} {cap : List Nat} {ys : List Str}
theorem BlkOk.clos (B : BlkOk X scope x cap ys) (ok : X.Ok) : ∀ y ∈ scope.names, y.2 = .free → ∃ c, X.env.cells.lookup y.1 = some c := fun y hy e => ok.has y.1 (B.fr y hy e)
theorem BlkOk.sub (B : BlkOk X scope x cap ys) (ok : X.Ok) {z : Str} {c : Addr} (h : (clOf X.env.cells scope.names []).lookup z = some c) : X.env.cells.lookup z = some c := by
  rcases clOf_sub (B.clos ok) h with q | q
  · simp at q
  · exact q
/-  the block's first state -/
theorem BlkOk.start {pins : List (Addr × Obj)} {σ : St} {H₂ : Hp} {s₂ : Shared} {fp : List Addr} {h₁ : Heap} {tk : Nat} {C D : Addr} (B : BlkOk X scope x cap ys) (I : Inv X pins σ H₂ s₂)
    (hf : ∀ b ∈ fp, FpOk X pins H₂ b) (hD : s₂.heap.objs.size ≤ D) (hC : s₂.heap.objs.size ≤ C) (hDC : D ≠ C) (hk : ∀ b o, s₂.heap.get? b = some o → h₁.get? b = some o)
    (hns : ∃ m, h₁.Ns C m) (hl : h₁.get? D = some { cls := .type "list", data := .seq ([] : List Value).toArray }) (hfp : ∀ b ∈ fp, b < s₂.heap.objs.size) :
    Inv (X.blk scope C (x :: ys) s₂ H₂ fp) [] (none :: capV σ cap) (upd H₂ D (.lst [])) { s₂ with heap := h₁, toks := tk } := by
  have ok := I.ok
  have freshC : H₂ C = none := I.hok.fresh hC
  have freshD : H₂ D = none := I.hok.fresh hD
  have lt : ∀ b o, s₂.heap.get? b = some o → b < s₂.heap.objs.size := fun b o e => Heap.lt_size e
  refine ⟨⟨ok.mod, B.kind, ok.glob, ok.blt, hC, fun y z c h1 h2 => ok.inj y z c (B.sub ok h1) (B.sub ok h2), fun y hy => ?_, fun y c h => (Bool.false_ne_true h).elim, ok.hd, ok.frames, .inl rfl, fun b hb => ⟨?_, fun y c h e => ?_⟩, I.bs, Nat.le_trans ok.bsz I.sz, fun b o e hb => ?_, fun b hb hs => ?_, I.stack, I.stkFree, fun y c h => (Bool.false_ne_true h).elim, fun b hb => I.hok.fresh hb⟩,
    rfl, I.bare, Un.laid hk hD freshD, ?_, fun y c h => ?_, ?_, fun y c h => ?_, fun p hp => ?_, ?_, ?_⟩
  · have hy' : (relabel scope X.env).names.lookup y = some .cell ∨ (relabel scope X.env).names.lookup y = some .free := hy
    have m : (y, NameKind.free) ∈ scope.names := by
      rcases hy' with q | q
      · exact relabel_of q (.inl rfl) B.nocell
      · exact relabel_of q (.inr rfl) B.nocell
    exact clOf_mem (.inl m)
  · exact Nat.ne_of_lt (Nat.lt_of_lt_of_le (hfp b hb) hC)
  · exact (hf b hb).2.2.2.2.1 y c (B.sub ok h) e
  · rcases (hf b hb).2.2.2.1 with q | q
    · exact ok.noex b o e q
    · exact absurd (Nat.lt_of_lt_of_le (Heap.lt_size (ok.bs b o e).1) q) (Nat.lt_irrefl _)
  · rcases List.mem_cons.mp (I.stkSub b hs) with q | q
    · exact (hf b hb).2.1 q
    · exact (hf b hb).2.2.1 q
  · obtain ⟨m, hm⟩ := hns
    refine ⟨m, hm, fun i y v e1 e2 e3 => ?_⟩
    cases i with
    | zero => simp at e2
    | succ i =>
      obtain ⟨j, n1, n2, n3, n4⟩ := capOk_get (i := i) B.cap (by simpa [Cx.blk] using e1) (by simpa using e2)
      obtain ⟨m0, hn0, hl0⟩ := I.loc
      have vis : Vis X.env.scope y := by
        rcases n4 with q | q
        · exact .inr (.inl q)
        · exact .inr (.inr q)
      obtain ⟨u, ru, l⟩ := hl0 j y v n1 n2 vis
      refine ⟨u, ru, .inr ⟨relabel_free n3, ?_⟩⟩
      rcases l with ⟨k, _⟩ | ⟨_, c, ec, z⟩
      · rw [k] at n4
        rcases n4 with q | q <;> cases q
      · obtain ⟨c', ec'⟩ := clOf_mem (cells := X.env.cells) (cs := []) (.inl (lookup_mem_names n3))
        have := B.sub ok ec'
        rw [ec] at this; cases this
        obtain ⟨o, ho, hd⟩ := z
        exact ⟨c, ec', o, hk c o ho, hd⟩
  · obtain ⟨v, o, ho, hd⟩ := I.cell y c (B.sub ok h)
    exact ⟨v, o, hk c o ho, hd⟩
  · show upd H₂ D _ C = none
    rw [upd_ne (Ne.symm hDC)]; exact freshC
  · obtain ⟨v, o, ho, hd⟩ := I.cell y c (B.sub ok h)
    rw [upd_ne (Nat.ne_of_lt (Nat.lt_of_lt_of_le (lt c o ho) hD))]
    refine (I.freeC y c (B.sub ok h)).imp id fun hh50 => ?_
    obtain ⟨_, o', ho', hno⟩ := hh50
    refine ⟨rfl, o', ho', fun z i v e1 k e2 => ?_⟩
    cases i with
    | zero => simp at e2
    | succ i =>
      obtain ⟨j, n1, n2, n3, n4⟩ := capOk_get (i := i) B.cap (by simpa [Cx.blk] using e1) (by simpa using e2)
      exact hno z j v n1 n4 n2
  · exact absurd (show p ∈ ([] : List (Addr × Obj)) from hp) (by simp)
  · exact I.hok.laid hk hD ⟨Nat.zero_le _, [], 0, .nil, hl⟩
  · simp [Cx.blk, capV, capOk_len B.cap]
/-  the frame around it, behind the block -/
theorem BlkOk.back {pins : List (Addr × Obj)} {σ : St} {H₂ H' : Hp} {s₂ s' : Shared} {fp : List Addr} {C : Addr} {pl : List (Addr × Obj)} {σ' : St} (B : BlkOk X scope x cap ys) (I : Inv X pins σ H₂ s₂)
    (hf : ∀ b ∈ fp, FpOk X pins H₂ b) (J : Inv (X.blk scope C (x :: ys) s₂ H₂ fp) pl σ' H' s') : Inv X pins σ H' s' :=
  I.call' (ch := fp) J.os J.base J.hok J.bare fun b hb => by
    obtain ⟨f0, f1, f2, f3, f4, f5⟩ := hf b hb
    refine ⟨?_, f1, f4, f5⟩
    rcases f3 with q | q
    · exact .inl q
    · exact .inr q
theorem BlkOk.far {pins : List (Addr × Obj)} {σ : St} {H₂ H' : Hp} {s₂ s' : Shared} {fp : List Addr} {C : Addr} {pl : List (Addr × Obj)} {σ' : St} (I : Inv X pins σ H₂ s₂)
    (hC : s₂.heap.objs.size ≤ C) (J : Inv (X.blk scope C (x :: ys) s₂ H₂ fp) pl σ' H' s') :
    H' C = none ∧ C ≠ X.env.locals ∧ X.s₀.heap.objs.size ≤ C ∧ (∀ z c, X.env.cells.lookup z = some c → c ≠ C) ∧ ∀ p ∈ X.pn ++ pins, p.1 ≠ C := by
  refine ⟨J.free, Nat.ne_of_gt (Nat.lt_of_lt_of_le I.lt hC), Nat.le_trans I.sz hC, fun z c e q => ?_, fun p hp q => ?_⟩
  · obtain ⟨v, w⟩ := I.cell z c e
    exact absurd (Nat.lt_of_lt_of_le w.lt (by rw [q]; exact hC)) (Nat.lt_irrefl _)
  · exact absurd (Nat.lt_of_lt_of_le (Heap.lt_size (I.pin p hp).1) (by rw [q]; exact hC)) (Nat.lt_irrefl _)
end

/-  the turns of a clause, the step ahead of the store kept -/
theorem comp_turns {prog : Program} {w : World} {A : Around} {R : Result → Shared → Prop} {s : Shared} {elt tg iter : Expr} {ifs : List Expr} {scope : Scope} {pos : Pos} {it acc : Value} {env : Env} (J : Nat → Shared → Prop)
    (go : ∀ n s, J n s → wpAny (model prog w) A (pyNext it) (fun r s1 => match r with
      | none => R (.ok .next) s1
      | some v => wpAny (model prog w) A (letOwnedTupleGo tg it v) (fun _ s2 => wpAny (model prog w) A (assign tg env v) (fun _ s3 =>
          wpAny (model prog w) A (forIn ifs true fun c r => if r = true then do let ok ← isTrue c env (eval c env); pure (ForInStep.yield ok) else pure (ForInStep.yield r)) (fun ok s4 =>
            if ok = true then wpAny (model prog w) A (eval elt env) (fun y s5 => wpAny (model prog w) A (call (.builtin "list.append") [acc, y]) (fun _ s6 => ∃ m, m < n ∧ J m s6) (fun _ _ => False) s5) (fun _ _ => False) s4
            else ∃ m, m < n ∧ J m s4) (fun _ _ => False) s3) (fun _ _ => False) s2) (fun _ _ => False) s1) (fun _ _ => False) s)
    (n : Nat) (h : J n s) : codeAny (model prog w) A (.compLoop (.ListComp elt [⟨tg, iter, ifs, 0⟩] scope pos) 0 it acc env) R s := by
  refine codeAny_loop rfl J (fun n s hJ => ?_) n h
  show wpAny _ A ((compTurn (.ListComp elt [⟨tg, iter, ifs, 0⟩] scope pos) 0 it acc env).onRaise (fun x => do noteFrame x env; theTreesLotGoes x)) _ _ s
  refine wpAny_noted ?_
  rw [compTurn_list]
  refine wpAny_bind (wpAny_standAt (wpAny_bind (wpAny_mono (go n s hJ) (fun r s1 h1 => ?_) fun _ _ z => z.elim)))
  cases r with
  | none => exact wpAny_pure h1
  | some v =>
    refine wpAny_bind (wpAny_mono h1 (fun _ s2 h2 => wpAny_bind (wpAny_mono h2 (fun _ s3 h3 => wpAny_bind (wpAny_mono h3 (fun ok s4 h4 => ?_) fun _ _ z => z.elim)) fun _ _ z => z.elim)) fun _ _ z => z.elim)
    cases ok with
    | false => exact wpAny_pure ⟨rfl, h4⟩
    | true =>
      exact wpAny_bind (wpAny_bind (wpAny_mono h4 (fun y s5 h5 => wpAny_bind (wpAny_mono h5 (fun _ s6 h6 => wpAny_pure (wpAny_pure ⟨rfl, h6⟩)) fun _ _ z => z.elim)) fun _ _ z => z.elim))
/-  the tests of a clause: none, or one -/
def CTs (Xc : Cx) (ifs : List Expr) (t : TT) : Prop :=
  ∀ (pins : List (Addr × Obj)) (s : Shared) (σ : St) (H : Hp) (Q : Bool → Hp → Prop), Inv Xc pins σ H s → t σ H Q →
    wpAny (model Xc.prog Xc.w) Xc.A (forIn ifs true fun c r => if r = true then do let ok ← isTrue c Xc.env (eval c Xc.env); pure (ForInStep.yield ok) else pure (ForInStep.yield r)) (TP Xc pins σ Q) Xc.xe s
def tAll : TT := fun _ H Q => Q true H
theorem cts_nil {Xc : Cx} : CTs Xc [] tAll := fun _ _ _ H _ I q => wpAny_tests_nil ⟨H, I, q⟩
/-  the invariant of a comprehension: turn, measure, the list so far, the heap -/
abbrev CW := Nat → Nat → List V → Hp → Prop
/-  what a comprehension asks, from its iterator on; opened by CompAt.mk alone -/
@[irreducible] def CompAt (J : It) (caps : St) (tt : TT) (te : TE) (Q : VK) (H2 : Hp) : Prop := ∀ D, H2 D = none → ∃ W : CW, (∃ m, W 0 m [] (upd H2 D (.lst []))) ∧
  ∀ i m acc H3, W i m acc H3 → H3 D = some (.lst acc) ∧ ((J.stop i H3 ∧ Q (.ref D) H3) ∨ (J.go i H3 ∧ acc.length < sizeLine ∧ ∀ v H4, J.yld i H3 v H4 → tt (some v :: caps) H4 fun b H5 =>
    (b = true → te (some v :: caps) H5 fun u H6 => H6 D = some (.lst acc) ∧ ∃ m', m' < m ∧ W (i + 1) m' (acc ++ [u]) (upd H6 D (.lst (acc ++ [u])))) ∧ (b = false → ∃ m', m' < m ∧ W (i + 1) m' acc H5)))
/-  [e for x in it if c] -/
def tComp (cap : List Nat) (wi : TI) (tt : TT) (te : TE) : TE := fun σ H Q => wi σ H fun J H2 => CompAt J (capV σ cap) tt te Q H2
section
variable {X : Cx} {scope : Scope} {x : Str} {cap : List Nat} {ys : List Str} {elt iter : Expr} {ifs : List Expr} {px pos : Pos} {wi : TI} {tt : TT} {te : TE}
/-  the block itself: from the iterator on -/
theorem comp_block (B : BlkOk X scope x cap ys) (hc : X.calm = true) (he : ∀ C s H fp, PE (X.blk scope C (x :: ys) s H fp) elt te) (ht : ∀ C s H fp, CTs (X.blk scope C (x :: ys) s H fp) ifs tt)
    {pins : List (Addr × Obj)} {σ : St} {s₂ : Shared} {Q : VK} {RR : Value → Addr → Result → Shared → Prop} {itv : Value} {E : Value → Shared → Prop}
    (hp : PIE X pins σ (.Name x px) (fun J H2 => CompAt J (capV σ cap) tt te Q H2) itv s₂)
    (hR : ∀ (D C : Addr) (H' : Hp) (s' : Shared), Inv X pins σ H' s' → (∃ m, s'.heap.Ns C m) → H' C = none → C ≠ X.env.locals → X.s₀.heap.objs.size ≤ C → (∀ z c, X.env.cells.lookup z = some c → c ≠ C) → (∀ p ∈ X.pn ++ pins, p.1 ≠ C) → Q (.ref D) H' → RR (.ref D) C (.ok .next) s') :
    wpAny (model X.prog X.w) X.A (newList []) (fun acc s₃ => wpAny (model X.prog X.w) X.A (newFunctionEnv scope X.env.globals (clOf X.env.cells scope.names []) [] X.env.qual none .none (some X.env)) (fun cenv s₄ =>
      codeAny (model X.prog X.w) X.A (.compStart (.ListComp elt [⟨.Name x px, iter, ifs, 0⟩] scope pos) 0 itv acc { cenv with scope := relabel scope X.env }) (RR acc cenv.locals) s₄) E s₃) E s₂ := by
  obtain ⟨it, fp, tn, J, H2, e, I2, T, st2, f2, hw⟩ := hp
  subst e
  unfold CompAt at hw
  refine wpAny_newObj_type (wpAny_newFunctionEnv B.nocell (by intro y hy; simp at hy) (fun h₁ hns₁ hsb₁ => ?_) B.kind)
  dsimp only at hns₁ hsb₁ ⊢
  generalize hG : s₂.heap.push { cls := .type "list", dict := none, data := .seq ([] : List Value).toArray } = G at hns₁ hsb₁ ⊢
  have hsz : G.objs.size = s₂.heap.objs.size + 1 := by rw [← hG, Heap.size_push]
  have hCle : s₂.heap.objs.size ≤ G.objs.size := by (first | lia | omega)
  have hDC : s₂.heap.objs.size ≠ G.objs.size := by (first | lia | omega)
  have old : ∀ b o, s₂.heap.get? b = some o → h₁.get? b = some o := fun b o q => by
    have lt := Heap.lt_size q
    refine hsb₁.extBut b o (Nat.ne_of_lt (Nat.lt_of_lt_of_le lt hCle)) (Heap.get?_push_of_some _ ?_)
    rw [← hG]; exact Heap.get?_push_of_some _ q
  have accAt : h₁.get? s₂.heap.objs.size = some { cls := .type "list", data := .seq ([] : List Value).toArray } := by
    refine hsb₁.extBut _ _ hDC (Heap.get?_push_of_some _ ?_)
    rw [← hG]; exact Heap.get?_push_size _ rfl
  have hfp : ∀ b ∈ fp, b < s₂.heap.objs.size := fun b hb => by
    obtain ⟨o, ho, _⟩ := T.obj _ _ st2 b hb
    exact Heap.lt_size ho
  obtain ⟨W, ⟨m0, w0⟩, turn⟩ := hw s₂.heap.objs.size (I2.hok.fresh (Nat.le_refl _))
  generalize htk : s₂.toks + ([] : List (Str × Value)).length = tk
  have I0 := B.start (tk := tk) (C := G.objs.size) I2 f2 (Nat.le_refl _) hCle hDC old ⟨_, hns₁⟩ accAt hfp
  have st0 : tn 0 h₁ := T.keep _ _ _ st2 fun b hb o q => old b o q
  -- what stays true of the iterator's objects
  have f3 : ∀ {H' : Hp}, (∀ b ∈ fp, H' b = none) → ∀ b ∈ fp, FpOk (X.blk scope G.objs.size (x :: ys) s₂ H2 fp) [] H' b := fun hn b hb => by
    obtain ⟨f0, f1, f2', f3', f4, f5⟩ := f2 b hb
    refine ⟨hn b hb, Nat.ne_of_lt (Nat.lt_of_lt_of_le (hfp b hb) hCle), fun hs => ?_, .inl hb, fun z c q => f4 z c (B.sub I2.ok q), fun p hp => absurd (show p ∈ ([] : List (Addr × Obj)) from hp) (by simp)⟩
    rcases List.mem_cons.mp (I2.stkSub b hs) with q | q
    · exact f1 q
    · exact f2' q
  have n0 : ∀ b ∈ fp, upd H2 s₂.heap.objs.size (.lst []) b = none := fun b hb => by
    rw [upd_ne (Nat.ne_of_lt (hfp b hb))]; exact (f2 b hb).1
  have loop : ∀ sx : Shared, sx = { s₂ with heap := h₁, toks := tk } →
      codeAny (model X.prog X.w) X.A (.compLoop (.ListComp elt [⟨.Name x px, iter, ifs, 0⟩] scope pos) 0 (.ref it) (.ref s₂.heap.objs.size) (compEnvC scope (clOf X.env.cells scope.names []) G.objs.size X.env)) (RR (.ref s₂.heap.objs.size) G.objs.size) sx := by
    rintro sx rfl
    refine comp_turns (fun n s' => ∃ i acc H', Inv (X.blk scope G.objs.size (x :: ys) s₂ H2 fp) [] (none :: capV σ cap) H' s' ∧ tn i s'.heap ∧ (∀ b ∈ fp, H' b = none) ∧ W i n acc H') ?_ m0 ⟨0, [], _, I0, st0, n0, w0⟩
    rintro n s3 ⟨i, acc, H3, I3, st3, fr3, w3⟩
    obtain ⟨hD3, alt⟩ := turn i n acc H3 w3
    rcases alt with ⟨stop, q⟩ | ⟨go, hlen, step⟩
    · refine wpAny_mono (T.done (X.blk scope G.objs.size (x :: ys) s₂ H2 fp) rfl rfl rfl hc i [] s3 _ H3 (fun _ _ => False) I3 (f3 fr3) st3 stop) (fun r s4 hh51 => ?_) fun _ _ z => z.elim
      obtain ⟨hr, I4⟩ := hh51
      subst hr
      obtain ⟨g1, g2, g3, g4, g5⟩ := BlkOk.far I2 hCle I4
      obtain ⟨m4, hm4, _⟩ := I4.loc
      exact hR _ _ H3 s4 (B.back I2 f2 I4) ⟨m4, hm4⟩ g1 g2 g3 g4 g5 q
    · refine wpAny_mono (T.item (X.blk scope G.objs.size (x :: ys) s₂ H2 fp) rfl rfl rfl hc i [] s3 _ H3 (fun _ _ => False) I3 (f3 fr3) st3 go) (fun r s4 hh52 => ?_) fun _ _ z => z.elim
      obtain ⟨u, hr, h4⟩ := hh52
      subst hr
      refine wpAny_mono h4 (fun _ s4 hh53 => ?_) fun _ _ z => z.elim
      obtain ⟨v, H4, I4, rv, y4, st4, fr4⟩ := hh53
      have I4' := I4.pinned (f3 fr4) (T.obj _ _ st4)
      refine wpAny_assign_Name (store_ok (X := X.blk scope G.objs.size (x :: ys) s₂ H2 fp) (i := 0) I4' B.nd rfl (.inl (lookup_relabel_local B.lx)) rv (fun s5 I5 => ?_) (.inr (lookup_relabel_local B.lx)))
      have I5' : Inv (X.blk scope G.objs.size (x :: ys) s₂ H2 fp) ([] ++ pinsAt fp s4.heap) (some v :: capV σ cap) H4 s5 := I5
      refine wpAny_mono (ht _ _ _ _ _ s5 _ H4 _ I5' (step v H4 y4)) (fun ok s6 hh54 => ?_) fun _ _ z => z.elim
      obtain ⟨H6, I6, q6⟩ := hh54
      have pinned : ∀ {σ7 : St} {H7 : Hp} {s7 : Shared}, Inv (X.blk scope G.objs.size (x :: ys) s₂ H2 fp) ([] ++ pinsAt fp s4.heap) σ7 H7 s7 → tn (i + 1) s7.heap ∧ ∀ b ∈ fp, H7 b = none := fun {σ7 H7 s7} I7 => by
        refine ⟨T.keep _ _ _ st4 fun b hb o e => (I7.pin (b, o) (List.mem_append_right _ (List.mem_append_right _ (mem_pinsAt hb e)))).1, fun b hb => ?_⟩
        obtain ⟨o, e, d⟩ := T.obj _ _ st4 b hb
        exact (I7.pin (b, o) (List.mem_append_right _ (List.mem_append_right _ (mem_pinsAt hb e)))).2.1
      have weak : ∀ {H7 : Hp} {s7 : Shared}, Inv (X.blk scope G.objs.size (x :: ys) s₂ H2 fp) ([] ++ pinsAt fp s4.heap) (some v :: capV σ cap) H7 s7 → Inv (X.blk scope G.objs.size (x :: ys) s₂ H2 fp) [] (none :: capV σ cap) H7 s7 := fun I7 =>
        (I7.unpinned (pins := [])).weak rfl fun j z e => by
          cases j with
          | zero => simp at e
          | succ j => simpa using e
      cases ok with
      | false =>
        rw [if_neg Bool.false_ne_true]
        obtain ⟨m', hm', w'⟩ := q6.2 rfl
        exact ⟨m', hm', i + 1, acc, H6, weak I6, (pinned I6).1, (pinned I6).2, w'⟩
      | true =>
        rw [if_pos rfl]
        refine wpAny_mono (he _ _ _ _ _ s6 _ H6 _ I6 (q6.1 rfl)) (fun y s7 hh55 => ?_) fun _ _ z => z.elim
        obtain ⟨z, H7, I7, rz, hD7, m', hm', w'⟩ := hh55
        refine wpAny_mono (mt_append (X := X.blk scope G.objs.size (x :: ys) s₂ H2 fp) _ s7 _ H7 (.ref s₂.heap.objs.size) [z] (.ref s₂.heap.objs.size) [y] (fun _ H8 => H8 = upd H7 s₂.heap.objs.size (.lst (acc ++ [z]))) I7 rfl (.cons rz .nil) ⟨_, acc, z, rfl, rfl, hD7, hlen, rfl⟩) (fun _ s8 hh56 => ?_) fun _ _ z => z.elim
        obtain ⟨_, H8, I8, _, e8⟩ := hh56
        subst e8
        exact ⟨m', hm', i + 1, _, _, weak I8, (pinned I8).1, (pinned I8).2, w'⟩
  exact codeAny_compStart_list (loop _ rfl) (T.self _ 0 _ _ _ st0 (loop _ rfl))
theorem pe_comp (B : BlkOk X scope x cap ys) (hc : X.calm = true) (hi : PI X (.Name x px) iter wi) (he : ∀ C s H fp, PE (X.blk scope C (x :: ys) s H fp) elt te) (ht : ∀ C s H fp, CTs (X.blk scope C (x :: ys) s H fp) ifs tt)
    (hs : ∀ x, foldedSetIterable iter X.env x = pure x := by intro _; rfl) : PE X (.ListComp elt [⟨.Name x px, iter, ifs, 0⟩] scope pos) (tComp cap wi tt te) := by
  intro pins s σ H Q I h
  rw [eval_ListComp]
  refine wpAny_comprehension_free (use := none) rfl hs (closure_is (B.clos I.ok)) B.kind B.locs ?_
  refine thn (hi pins s σ H _ I h) fun v s1 h1 => thn h1 fun itv s2 h2 => ?_
  refine comp_block (Q := Q) (RR := fun acc C => compPost (model X.prog X.w) X.A X.xe none (EP X pins σ Q) acc C) B hc he ht h2 ?_
  rintro D C H' s' J ⟨m, hm⟩ g1 g2 g3 g4 g5 q
  exact ⟨m, hm, fun h' sb => ⟨.ref D, H', J.turned (t' := s'.toks) (fun b o hb e => (sb.2 b hb).trans e) g1 g2 (.inr g3) g4 g5, rfl, q⟩⟩
/-  name = [e for x in it if c], stored ahead of the block's end -/
theorem ps_setComp {i : Nat} {y : Str} {pos' spos : Pos} (B : BlkOk X scope x cap ys) (hc : X.calm = true) (hN : X.N.Nodup) (hi : X.N[i]? = some y) (hy : X.env.scope.names.lookup y = some .local) (hit : PI X (.Name x px) iter wi)
    (he : ∀ C s H fp, PE (X.blk scope C (x :: ys) s H fp) elt te) (ht : ∀ C s H fp, CTs (X.blk scope C (x :: ys) s H fp) ifs tt)
    (hsw : swapsWith (.ListComp elt [⟨.Name x px, iter, ifs, 0⟩] scope pos) (some (.Name y pos')) spos.line X.env = pure true := by rfl)
    (hs : ∀ x, foldedSetIterable iter X.env x = pure x := by intro _; rfl) :
    PS X (.Assign [.Name y pos'] (.ListComp elt [⟨.Name x px, iter, ifs, 0⟩] scope pos) spos) (tAsg (tComp cap wi tt te) (gName i)) := by
  intro pins s σ H D I h
  rw [exec_Assign_Name_used _ _ _ _ hsw]
  refine wpAny_bind (wpAny_standAt (wpAny_bind ?_))
  show wpAny _ X.A (do let _ ← comprehension (.ListComp elt [⟨.Name x px, iter, ifs, 0⟩] scope pos) scope X.env _ (newList []) false (eval iter X.env) (some (assign (.Name y pos') X.env))) _ _ s
  refine wpAny_bind (wpAny_mono (wpAny_comprehension_free (use := some (assign (.Name y pos') X.env)) (Q := fun _ s' => SP X pins D .next s') rfl hs (closure_is (B.clos I.ok)) B.kind B.locs
    (thn (hit pins s σ H _ I h) fun v s1 h1 => thn h1 fun itv s2 h2 => ?_)) (fun _ s' hq => wpAny_pure (wpAny_pure hq)) fun _ _ e => e)
  refine comp_block (Q := fun v H1 => gName i v σ H1 D.nx) (RR := fun acc C => compPost (model X.prog X.w) X.A X.xe (some (assign (.Name y pos') X.env)) (fun _ s' => SP X pins D .next s') acc C) B hc he ht h2 ?_
  rintro Da C H' s' J ⟨m, hm⟩ g1 g2 g3 g4 g5 q
  show wpAny _ X.A (assign (.Name y pos') X.env (.ref Da)) _ _ s'
  refine (wpAny_assign_Name (store_ok2 (v := .ref Da) J hN hi (.inl hy) rfl (fun s4 J4 hh57 => ?_) (.inr hy)))
  obtain ⟨a, sb, ha⟩ := hh57
  have hCa : C ≠ a := by
    rcases ha with z | z
    · rw [z]; exact g2
    · exact fun w => g4 y a z w.symm
  refine ⟨m, hm.sameBut sb hCa, fun h' sb' => ?_⟩
  exact ⟨_, H', J4.turned (t' := s4.toks) (fun b o hb e => (sb'.2 b hb).trans e) g1 g2 (.inr g3) g4 g5, q⟩
end
end L2

/-! RANGES of any ints and steps; list(range(..)); isinstance; a base's method by its class. -/
namespace L2
open PySem PySem.Spec PyProof.Rows

/-  lo, lo + st, .. (n of them) -/
def Its (lo st : Int) (n : Nat) : It := ⟨fun i _ => i < n, fun i H x H' => H' = H ∧ x = .int (lo + i * st), fun i _ => n ≤ i⟩
theorem turn_steps {P : Program} {w : World} {K : PySem.W.Frag} {tg : Expr} (it : Addr) (lo st : Int) (n : Nat) : Turn P w K tg (Its lo st n) [it] it (fun i h => IsRangeIter h it (lo + (i : Nat) * st) ((n : Int) - (i : Nat)) st) where
  mem := by simp
  obj := fun i h q b hb => by
    have e : b = it := by simpa using hb
    subst e
    exact ⟨_, q, fun v z => by
      have z' : Data.fields _ = Data.cell v := z
      cases z'⟩
  keep := fun i h h' q k => k it (by simp) _ q
  item := by
    intro X hP hw hK hc i pins s σ H E I hf q hg
    subst hP hw hK
    obtain ⟨f0, f1, f2, f3, f4, f5⟩ := hf it (by simp)
    refine (Walks.range (prog := X.prog) (w := X.w) (I.ok.hd hc) it lo st n).item i s _ _ hg q fun v h' tk hv q' kk => ?_
    obtain ⟨t, rfl⟩ := hv
    have I1 : Inv X pins σ H { s with heap := h', toks := tk } := I.turned (fun b o hb e => kk b o (by simpa using hb) e) f0 f1 f3 f4 f5
    exact ⟨_, rfl, go_of (s := { s with heap := h', toks := tk }) (n := "range_iterator") q' rfl rfl (by decide) ⟨.int (lo + i * st), H, I1, ⟨t, rfl⟩, ⟨rfl, rfl⟩, q', fun b hb => (hf b hb).1⟩⟩
  done := by
    intro X hP hw hK hc i pins s σ H E I hf q hg
    subst hP hw hK
    obtain ⟨f0, f1, f2, f3, f4, f5⟩ := hf it (by simp)
    exact wpAny_pyNext_range_end (I.ok.hd hc) q (by have : n ≤ i := hg; (first | lia | omega)) fun h' eb => ⟨rfl, I.turned (t' := s.toks) (fun b o hb e => eb b o hb e) f0 f1 f3 f4 f5⟩
  self := fun _ _ _ _ _ q h => wpAny_pyIter_rangeiter q h
theorem turn_long {P : Program} {w : World} {K : PySem.W.Frag} {tg : Expr} (it : Addr) (lo st : Int) (n : Nat) : Turn P w K tg (Its lo st n) [it] it (fun i h => IsLongIter h it (lo + (i : Nat) * st) ((n : Int) - (i : Nat)) st) where
  mem := by simp
  obj := fun i h q b hb => by
    have e : b = it := by simpa using hb
    subst e
    exact ⟨_, q, fun v z => by
      have z' : Data.fields _ = Data.cell v := z
      cases z'⟩
  keep := fun i h h' q k => k it (by simp) _ q
  item := by
    intro X hP hw hK hc i pins s σ H E I hf q hg
    subst hP hw hK
    obtain ⟨f0, f1, f2, f3, f4, f5⟩ := hf it (by simp)
    refine (Walks.longrange (prog := X.prog) (w := X.w) (I.ok.hd hc) it lo st n).item i s _ _ hg q fun v h' tk hv q' kk => ?_
    obtain ⟨t, rfl⟩ := hv
    have I1 : Inv X pins σ H { s with heap := h', toks := tk } := I.turned (fun b o hb e => kk b o (by simpa using hb) e) f0 f1 f3 f4 f5
    exact ⟨_, rfl, go_of (s := { s with heap := h', toks := tk }) (n := "longrange_iterator") q' rfl rfl (by decide) ⟨.int (lo + i * st), H, I1, ⟨t, rfl⟩, ⟨rfl, rfl⟩, q', fun b hb => (hf b hb).1⟩⟩
  done := by
    intro X hP hw hK hc i pins s σ H E I hf q hg
    subst hP hw hK
    obtain ⟨f0, f1, f2, f3, f4, f5⟩ := hf it (by simp)
    exact wpAny_pyNext_long_end (I.ok.hd hc) q (by have : n ≤ i := hg; (first | lia | omega)) fun h' eb => ⟨rfl, I.turned (t' := s.toks) (fun b o hb e => eb b o hb e) f0 f1 f3 f4 f5⟩
  self := fun _ _ _ _ _ q h => wpAny_pyIter_longiter q h

/-  how many a range has -/
def rngN (a b c : Int) : Nat := (Builtin.Range.rangeSize a b c).toNat
theorem rangeSize_nn (a b c : Int) : 0 ≤ Builtin.Range.rangeSize a b c := by
  unfold Builtin.Range.rangeSize
  split
  · split
    · have := Int.ediv_nonneg (a := b - a - 1) (b := c) (by (first | lia | omega)) (by (first | lia | omega)); (first | lia | omega)
    · (first | lia | omega)
  · split
    · have := Int.ediv_nonneg (a := a - b - 1) (b := -c) (by (first | lia | omega)) (by (first | lia | omega)); (first | lia | omega)
    · (first | lia | omega)
theorem rngN_cast (a b c : Int) : ((rngN a b c : Nat) : Int) = Builtin.Range.rangeSize a b c := Int.toNat_of_nonneg (rangeSize_nn a b c)
theorem rngN_one (a b : Int) : rngN a b 1 = (b - a).toNat := by
  unfold rngN Builtin.Range.rangeSize
  simp only [show (1 : Int) > 0 by decide, if_true]
  split <;> simp <;> (first | lia | omega)

section
variable {X : Cx} {tg : Expr}
/-  a range object, walked -/
theorem rng_it {pins : List (Addr × Obj)} {σ : St} {H : Hp} {s : Shared} {R : It → Hp → Prop} {E : Value → Shared → Prop} {a b c : Int} {t u v : Tok} {r : Addr} (I : Inv X pins σ H s) (hr : IsRange s.heap r a b c t u v)
    (q : R (Its a c (rngN a b c)) H) : wpAny (model X.prog X.w) X.A (pyIter (.ref r)) (PIE X pins σ tg R) E s := by
  have e2 : Builtin.Range.rangeSize a b c = ((rngN a b c : Nat) : Int) - ((0 : Nat) : Int) := by rw [rngN_cast]; simp
  have e1 : a = a + ((0 : Nat) : Int) * c := by simp
  have fp : ∀ b' ∈ [s.heap.objs.size], FpOk X pins H b' := fun b' hb => by
    have e : b' = s.heap.objs.size := by simpa using hb
    subst e
    exact I.fpOk (Nat.le_refl _) (I.hok.fresh (Nat.le_refl _))
  cases hsm : Builtin.Range.small a b c with
  | true =>
    refine wpAny_pyIter_range hr hsm ⟨s.heap.objs.size, [s.heap.objs.size], _, _, H, rfl, I.kept (t' := s.toks) fun b o e => Heap.get?_push_of_some _ e, turn_steps _ a c (rngN a b c), ?_, fp, q⟩
    show IsRangeIter _ _ (a + ((0 : Nat) : Int) * c) (((rngN a b c : Nat) : Int) - ((0 : Nat) : Int)) c
    rw [← e1, ← e2]
    exact Heap.get?_push_size _ rfl
  | false =>
    refine wpAny_pyIter_longrange hr hsm ⟨s.heap.objs.size, [s.heap.objs.size], _, _, H, rfl, I.kept (t' := s.toks) fun b o e => Heap.get?_push_of_some _ e, turn_long _ a c (rngN a b c), ?_, fp, q⟩
    show IsLongIter _ _ (a + ((0 : Nat) : Int) * c) (((rngN a b c : Nat) : Int) - ((0 : Nat) : Int)) c
    rw [← e1, ← e2]
    exact Heap.get?_push_size _ rfl
def argI (k : Int → Hp → Prop) : List V → Hp → Prop := fun vs H => match vs with
  | [.int j] => k j H
  | _ => False
def argI2 (k : Int → Int → Hp → Prop) : List V → Hp → Prop := fun vs H => match vs with
  | [.int i, .int j] => k i j H
  | _ => False
theorem argI_of {k : Int → Hp → Prop} {vs : List V} {H : Hp} (h : argI k vs H) : ∃ j, vs = [.int j] ∧ k j H := by
  unfold argI at h
  split at h
  · exact ⟨_, rfl, h⟩
  · exact h.elim
theorem argI2_of {k : Int → Int → Hp → Prop} {vs : List V} {H : Hp} (h : argI2 k vs H) : ∃ i j, vs = [.int i, .int j] ∧ k i j H := by
  unfold argI2 at h
  split at h
  · exact ⟨_, _, rfl, h⟩
  · exact h.elim
theorem vals_i1 {us : List Value} {i : Int} (r : Vals [.int i] us) : ∃ t, us = [.int i t] := by
  obtain ⟨u, rfl, t, rfl⟩ := Vals.one r
  exact ⟨t, rfl⟩
theorem vals_i2 {us : List Value} {i j : Int} (r : Vals [.int i, .int j] us) : ∃ t t', us = [.int i t, .int j t'] := by
  obtain ⟨u, v, rfl, ⟨t, rfl⟩, ⟨t', rfl⟩⟩ := Vals.two r
  exact ⟨t, t', rfl⟩
/-  the length of the step: no division by a huge number -/
def cRng1 (ta : TA) : TI := fun σ H R => ta σ H (argI fun j H1 => R (Its 0 1 (rngN 0 j 1)) H1)
def cRng2 (ta : TA) : TI := fun σ H R => ta σ H (argI2 fun i j H1 => R (Its i 1 (rngN i j 1)) H1)
theorem ci_range1 {a : Expr} {ta : TA} {p pos : Pos} (hg : Gl X "range") (hm : X.mg "range" = none) (ha : PA X [a] ta) (hs : starEach [a] X.env = [(false, eval a X.env)] := by rfl) : PI X tg (.Call (.Name "range" p) [a] [] pos) (cRng1 ta) := by
  intro pins s σ H R I h
  refine Call_ (ld_blt I hg hm boot_range (PyProof.Rows.callWith_type1 (thn (ha pos pins s σ H _ I h) fun us s1 hh58 => ?_) hs rfl))
  obtain ⟨vs, H1, I1, r1, q1⟩ := hh58
  obtain ⟨j, rfl, q⟩ := argI_of q1
  obtain ⟨t, rfl⟩ := vals_i1 r1
  refine call_range_1 (rng_it (I1.kept (t' := _) fun b o e => Heap.get?_push_of_some _ e) (IsRange.new ..) q)
theorem ci_range2 {a b : Expr} {ta : TA} {p pos : Pos} (hg : Gl X "range") (hm : X.mg "range" = none) (ha : PA X [a, b] ta) (hs : starEach [a, b] X.env = [(false, eval a X.env), (false, eval b X.env)] := by rfl) (hs2 : starEach [b] X.env = [(false, eval b X.env)] := by rfl) :
    PI X tg (.Call (.Name "range" p) [a, b] [] pos) (cRng2 ta) := by
  intro pins s σ H R I h
  refine Call_ (ld_blt I hg hm boot_range (PyProof.Rows.callWith_type1 (thn (ha pos pins s σ H _ I h) fun us s1 hh59 => ?_) (by rw [hs, hs2]) (by rw [hs2]; rfl)))
  obtain ⟨vs, H1, I1, r1, q1⟩ := hh59
  obtain ⟨i, j, rfl, q⟩ := argI2_of q1
  obtain ⟨t, t', rfl⟩ := vals_i2 r1
  exact call_range_2 (rng_it (I1.kept (t' := _) fun b o e => Heap.get?_push_of_some _ e) (IsRange.new ..) q)
/-  a range as a value -/
def cRngV (ta : TA) : TE := fun σ H Q => ta σ H (argI2 fun i j H1 => ∀ p, H1 p = none → Q (.ref p) (upd H1 p (.rng i j)))
theorem ce_range2 {a b : Expr} {ta : TA} {p pos : Pos} (hg : Gl X "range") (hm : X.mg "range" = none) (ha : PA X [a, b] ta) (hs : starEach [a, b] X.env = [(false, eval a X.env), (false, eval b X.env)] := by rfl) (hs2 : starEach [b] X.env = [(false, eval b X.env)] := by rfl) :
    PE X (.Call (.Name "range" p) [a, b] [] pos) (cRngV ta) := by
  intro pins s σ H Q I h
  refine Call_ (ld_blt I hg hm boot_range (PyProof.Rows.callWith_type1 (thn (ha pos pins s σ H _ I h) fun us s1 hh60 => ?_) (by rw [hs, hs2]) (by rw [hs2]; rfl)))
  obtain ⟨vs, H1, I1, r1, q1⟩ := hh60
  obtain ⟨i, j, rfl, q⟩ := argI2_of q1
  obtain ⟨t, t', rfl⟩ := vals_i2 r1
  refine call_range_2 ⟨.ref s1.heap.objs.size, upd H1 s1.heap.objs.size (.rng i j), I1.laid (fun b o e => Heap.get?_push_of_some _ e) (Nat.le_refl _) ⟨_, _, _, Heap.get?_push_size _ rfl⟩, rfl, q _ (I1.hok.fresh (Nat.le_refl _))⟩
end
end L2

namespace PySem
open Sem (wp)
/-! list(range(..)) over ints of any size: the long iterator's way -/
section
variable {prog : Program} {w : World} {A : Around} {E : Value → Shared → Prop} {s : Shared}
theorem lng_extend {R : Result → Shared → Prop} {r : Addr} {a b c : Int} {t u v : Tok} {k : Nat} (hnd : A.handled = none) (hr : IsRange s.heap r a b c t u v) (hbig : Builtin.Range.small a b c = false)
    (hk : Builtin.Range.rangeSize a b c = k) (hle : k ≤ 2 ^ 24) (D : Addr) (z : Value) (m₀ : Nat) (hD : s.heap.get? D = some { cls := .type "list", data := .seq #[] m₀ })
    (hR : ∀ g tk xs m, (∀ b o, b ≠ D → s.heap.get? b = some o → g.get? b = some o) → g.get? D = some { cls := .type "list", dict := none, data := .seq xs m, slots := #[] } →
      ItemsOf (fun i v => ∃ t, v = .int (a + i * c) t) xs k → R (.ok (.ret z)) { s with heap := g, toks := tk }) :
    wpAny (model prog w) A.in1 (Builtin.List.listExtendWith (.ref D) (.ref r) z)
      (fun fin s' => match fin with | .done f => R (.ok f) s' | .again d => d.quiet = true ∧ codeAny (model prog w) A d R s') (fun e s' => R (.error e) s') s := by
  have nDr : D ≠ r := fun e => by rw [e, hr] at hD; simp at hD
  have nDI : D ≠ s.heap.objs.size := Nat.ne_of_lt (Heap.lt_size hD)
  have nDf : D ∉ [s.heap.objs.size] := fun q => nDI (List.mem_singleton.mp q)
  have Wk := (Walks.longrange (prog := prog) (w := w) (A := A.in1) hnd s.heap.objs.size a c k).toS
  have fin : ∀ (g : Heap) (m₁ tk : Nat), IsLongIter g s.heap.objs.size (a + ((0 : Nat) : Int) * c) ((k : Int) - ((0 : Nat) : Int)) c → (∀ b o, b ≠ D → s.heap.get? b = some o → g.get? b = some o) →
      g.get? D = some { cls := .type "list", data := .seq #[] m₁ } → codeAny (model prog w) A (.builtin "list.extend.loop" ⟨[.ref D, .ref s.heap.objs.size, z], []⟩) R { s with heap := g, toks := tk } := by
    intro g m₁ tk q1 q2 q3
    refine codeAny_extend_loopS Wk (by rw [sizeLine_eq]; omega) D nDf z k 0 _ #[] m₁ rfl (Nat.zero_le _) q1 q3 (ItemsOf.nil _) fun s' xs m hm hD' hx => ?_
    rw [Moved.eq_with hm]
    refine hR s'.heap s'.toks xs m (fun b o hb e => hm.heap b o (fun hq => ?_) (q2 b o hb e)) hD' hx
    rcases List.mem_cons.mp hq with e' | hq
    · exact hb e'
    · exact absurd (Heap.lt_size e) (by rw [List.mem_singleton.mp hq]; exact Nat.lt_irrefl _)
  unfold Builtin.List.listExtendWith
  refine wpAny_bind (wpAny_typeOf (T := "range") ⟨_, hr, rfl⟩ ?_)
  have x1 : Builtin.List.listSameRef (.ref D) (.ref r) = false := by simp [Builtin.List.listSameRef, nDr]
  have x2 : (Value.type "range" == Value.type "list") = false := by decide
  have x3 : (Value.type "range" == Value.type "tuple") = false := by decide
  simp only [x1, x2, x3, Bool.or_false, Bool.false_eq_true, if_false]
  refine wpAny_bind (wpAny_pyIter_longrange hr hbig ?_)
  refine wpAny_bind (wpAny_holding (wpAny_hint_range (n := k) (Heap.get?_push_of_some _ hr) hk hle ?_))
  generalize hG : s.heap.push { cls := .type "longrange_iterator", data := .fields #[rawInt a, rawInt (Builtin.Range.rangeSize a b c), rawInt c] } = G
  have i1 : IsLongIter G s.heap.objs.size (a + ((0 : Nat) : Int) * c) ((k : Int) - ((0 : Nat) : Int)) c := by
    have q : G.get? s.heap.objs.size = some { cls := .type "longrange_iterator", data := .fields #[rawInt a, rawInt (Builtin.Range.rangeSize a b c), rawInt c] } := by rw [← hG]; exact Heap.get?_push_size _ rfl
    rw [hk] at q
    show G.get? _ = _
    rw [q]; simp
  have old : ∀ b o, s.heap.get? b = some o → G.get? b = some o := fun b o e => by rw [← hG]; exact Heap.get?_push_of_some _ e
  have d1 := old D _ hD
  refine wpAny_ite_split (fun _ => ?_) (fun _ => wpAny_pure ⟨plainId_quiet F.plain_extend_loop _, fin _ m₀ _ i1 (fun b o _ e => old b o e) d1⟩)
  refine wpAny_bind (wpAny_rule ?_)
  refine wpAny_bind ?_
  show wpAny _ _ (updateSeq D (·.push .none) >>= fun _ => updateSeq D (·.pop)) _ _ _
  refine wpAny_bind (wpAny_updateSeq d1 rfl ?_)
  have d2 := Heap.get?_update_self (Obj.mapSeq (·.push Value.none)) d1 rfl
  refine wpAny_updateSeq (hz := by seq_fits) d2 rfl ?_
  have d3 := Heap.get?_update_self (Obj.mapSeq (·.pop)) d2 rfl
  refine wpAny_pure ⟨plainId_quiet F.plain_extend_loop _, fin _ _ _ ?_ (fun b o hb e => ?_) d3⟩
  · exact (Heap.get?_update_other _ _ nDI).trans ((Heap.get?_update_other _ _ nDI).trans i1)
  · exact (Heap.get?_update_other _ _ (Ne.symm hb)).trans ((Heap.get?_update_other _ _ (Ne.symm hb)).trans (old b o e))
theorem any_extend {R : Result → Shared → Prop} {r : Addr} {a b c : Int} {t u v : Tok} {k : Nat} (hnd : A.handled = none) (hr : IsRange s.heap r a b c t u v)
    (hk : Builtin.Range.rangeSize a b c = k) (hle : k ≤ 2 ^ 24) (D : Addr) (z : Value) (m₀ : Nat) (hD : s.heap.get? D = some { cls := .type "list", data := .seq #[] m₀ })
    (hR : ∀ g tk xs m, (∀ b o, b ≠ D → s.heap.get? b = some o → g.get? b = some o) → g.get? D = some { cls := .type "list", dict := none, data := .seq xs m, slots := #[] } →
      ItemsOf (fun i v => ∃ t, v = .int (a + i * c) t) xs k → R (.ok (.ret z)) { s with heap := g, toks := tk }) :
    wpAny (model prog w) A.in1 (Builtin.List.listExtendWith (.ref D) (.ref r) z)
      (fun fin s' => match fin with | .done f => R (.ok f) s' | .again d => d.quiet = true ∧ codeAny (model prog w) A d R s') (fun e s' => R (.error e) s') s := by
  cases hs : Builtin.Range.small a b c with
  | true => exact wpAny_extend_range hnd hr hs hk hle D z m₀ hD hR
  | false => exact lng_extend hnd hr hs hk hle D z m₀ hD hR
theorem any_list_range {Q : Value → Shared → Prop} {r : Addr} {a b c : Int} {t u v : Tok} {k : Nat} (hnd : A.handled = none) (hr : IsRange s.heap r a b c t u v)
    (hk : Builtin.Range.rangeSize a b c = k) (hle : k ≤ 2 ^ 24)
    (hQ : ∀ g tk xs m, (∀ b o, s.heap.get? b = some o → g.get? b = some o) →
      g.get? s.heap.objs.size = some { cls := .type "list", dict := none, data := .seq xs m, slots := #[] } → ItemsOf (fun i v => ∃ t, v = .int (a + i * c) t) xs k → Q (.ref s.heap.objs.size) { s with heap := g, toks := tk }) :
    wpAny (model prog w) A (call (.type "list") [.ref r]) Q E s := by
  refine callType_codes (Q₁ := fun obj s₁ => obj = .ref s.heap.objs.size ∧ s₁ = { s with heap := s.heap.push { cls := .type "list", data := .seq #[] } }) F.called_list (F.typeCall_list_1 _) F.entry_list_init
    (code_list_new _ ⟨rfl, rfl⟩) fun obj s₁ q₁ => ?_
  obtain ⟨rfl, rfl⟩ := q₁
  generalize hG : s.heap.push { cls := .type "list", data := .seq #[] } = G
  have old : ∀ b o, s.heap.get? b = some o → G.get? b = some o := fun b o e => by rw [← hG]; exact Heap.get?_push_of_some _ e
  have hD : G.get? s.heap.objs.size = some { cls := .type "list", data := .seq #[] } := by rw [← hG]; exact Heap.get?_push_size _ rfl
  have nDr : s.heap.objs.size ≠ r := fun e => absurd (Heap.lt_size hr) (by rw [← e]; exact Nat.lt_irrefl _)
  refine ⟨⟨_, hD, rfl⟩, F.args_list_init_2 _ _, ?_⟩
  show wpAny _ _ (do let old ← Builtin.List.listItems (.ref s.heap.objs.size); Builtin.List.listUpdate (.ref s.heap.objs.size) (fun _ => #[]); letGo old.toList.reverse; Builtin.List.listExtendWith (.ref s.heap.objs.size) (.ref r) .none) _ _ _
  refine wpAny_bind ?_
  unfold Builtin.List.listItems
  refine wpAny_bind (wpAny_seqItems hD rfl (wpAny_pure ?_))
  show wpAny _ _ (updateSeq s.heap.objs.size (fun _ => #[]) >>= fun _ => letGo (#[] : Array Value).toList.reverse >>= fun _ => Builtin.List.listExtendWith (.ref s.heap.objs.size) (.ref r) .none) _ _ _
  refine wpAny_bind (wpAny_updateSeq hD rfl ?_)
  have d2 := Heap.get?_update_self (Obj.mapSeq (fun _ => (#[] : Array Value))) hD rfl
  have oth : ∀ b o, b ≠ s.heap.objs.size → G.get? b = some o → (G.update s.heap.objs.size (Obj.mapSeq (fun _ => (#[] : Array Value)))).get? b = some o :=
    fun b o hb e => (Heap.get?_update_other _ _ (Ne.symm hb)).trans e
  refine wpAny_bind (wpAny_letGo ?_)
  refine any_extend (A := A.in1) hnd (oth r _ (Ne.symm nDr) (old r _ hr)) hk hle s.heap.objs.size .none _ d2 fun g tk xs m q1 q2 q3 => ⟨rfl, ?_⟩
  exact hQ g tk xs m (fun b o e => q1 b o (Nat.ne_of_lt (Heap.lt_size e)) (oth b o (Nat.ne_of_lt (Heap.lt_size e)) (old b o e))) q2 q3
end
end PySem
namespace L2
open PySem PySem.Spec PyProof.Rows
/-  the ints of a range by ones -/
def rngV (lo : Int) (n : Nat) : List V := (List.range n).map fun (i : Nat) => V.int (lo + (i : Int))
theorem rngV_length (lo : Int) (n : Nat) : (rngV lo n).length = n := by simp [rngV]
theorem vals_of_get : ∀ {xs : List V} {us : List Value}, xs.length = us.length → (∀ (j : Nat) (x : V) (u : Value), xs[j]? = some x → us[j]? = some u → RelV x u) → Vals xs us
  | [], [], _, _ => .nil
  | [], _ :: _, h, _ => by simp at h
  | _ :: _, [], h, _ => by simp at h
  | x :: xs, u :: us, h, k => .cons (k 0 x u rfl rfl) (vals_of_get (by simpa using h) fun j y v e1 e2 => k (j + 1) y v (by simpa using e1) (by simpa using e2))
theorem items_vals {lo : Int} {n : Nat} {xs : Array Value} (h : ItemsOf (fun i v => ∃ t, v = .int (lo + (i : Int) * 1) t) xs n) : Vals (rngV lo n) xs.toList := by
  obtain ⟨hl, hv⟩ := h
  refine vals_of_get (by rw [rngV_length]; simp [hl]) fun j x u e1 e2 => ?_
  obtain ⟨t, rfl⟩ := hv j u (by simpa using e2)
  unfold rngV at e1
  rw [List.getElem?_map] at e1
  cases q : (List.range n)[j]? with
  | none => rw [q] at e1; cases e1
  | some i =>
    rw [q] at e1
    have e3 : i = j := by
      obtain ⟨h1, h2⟩ := List.getElem?_eq_some_iff.mp q
      rw [List.getElem_range] at h2; exact h2.symm
    subst e3
    cases e1
    exact ⟨t, by rw [Int.mul_one]⟩
section
variable {X : Cx}
theorem call_list_rng (hc : X.calm = true) : CallR X (.type "list") (fun xs H Q => ∃ p lo hi, xs = [.ref p] ∧ H p = some (.rng lo hi) ∧ rngN lo hi 1 ≤ 2 ^ 24 ∧ ∀ l, H l = none → Q (.ref l) (upd H l (.lst (rngV lo (rngN lo hi 1))))) := by
  intro pins s σ H xs us Q I r h
  obtain ⟨p, lo, hi, rfl, hp, hz, q⟩ := h
  obtain ⟨u, rfl, ru⟩ := Vals.one r
  cases ru
  obtain ⟨t, u, v, hr⟩ := I.hok p _ hp
  refine any_list_range (I.ok.hd hc) hr (rngN_cast lo hi 1).symm hz fun g tk xs m k1 k2 k3 => ?_
  have fr : H s.heap.objs.size = none := I.hok.fresh (Nat.le_refl _)
  refine ⟨.ref s.heap.objs.size, upd H s.heap.objs.size (.lst (rngV lo (rngN lo hi 1))), I.laid (h' := g) (t' := tk) k1 (Nat.le_refl _) ⟨?_, xs.toList, m, items_vals k3, by simpa using k2⟩, rfl, q _ fr⟩
  rw [rngV_length, sizeLine_eq]
  omega
end
end L2

/-! DATA: what a value is worth, lists and tuples within one another; == and != of them; isinstance; a base's method. -/
namespace L2
open PySem PySem.Spec PyProof.Rows
mutual
inductive Rp (K : PySem.W.Frag) (H : Hp) : V → PyData → Prop
  | non : Rp K H .non .none
  | bl (b : Bool) : Rp K H (.bl b) (.bool b)
  | int (i : Int) : Rp K H (.int i) (.int i)
  | str (x : Str) : Rp K H (.str x) (.str x)
  | lst {a : Addr} {xs : List V} {ds : List PyData} : SqL K H a xs → Rps K H xs ds → Rp K H (.ref a) (.list ds)
  | tup {a : Addr} {xs : List V} {ds : List PyData} : SqT K H a xs → Rps K H xs ds → Rp K H (.ref a) (.tuple ds)
inductive Rps (K : PySem.W.Frag) (H : Hp) : List V → List PyData → Prop
  | nil : Rps K H [] []
  | cons {x : V} {d : PyData} {xs : List V} {ds : List PyData} : Rp K H x d → Rps K H xs ds → Rps K H (x :: xs) (d :: ds)
end
theorem Same.seqT {K : PySem.W.Frag} {H H' : Hp} {a : Addr} {xs : List V} (e : Same H H') (h : SqT K H a xs) : SqT K H' a xs := by
  rcases h with (h | ⟨o, h⟩) | h
  · exact .inl (.inl (e _ _ h))
  · exact .inl (.inr ⟨o, e _ _ h⟩)
  · exact .inr h
section
variable {X : Cx} {pins : List (Addr × Obj)} {σ : St} {H : Hp} {s : Shared}
mutual
theorem Rp.reads (I : Inv X pins σ H s) : ∀ {v : V} {d : PyData} {u : Value}, Rp X.K H v d → RelV v u → ∃ as, Reads s.heap u d as
  | _, _, u, .non, r => by cases (show u = Value.none from r); exact ⟨_, .none⟩
  | _, _, u, .bl b, r => by cases (show u = Value.bool b from r); exact ⟨_, .bool b⟩
  | _, _, u, .int i, r => by obtain ⟨t, e⟩ := (show ∃ t, u = Value.int i t from r); subst e; exact ⟨_, .int i t⟩
  | _, _, u, .str x, r => by obtain ⟨t, e⟩ := (show ∃ t, u = Value.str x t from r); subst e; exact ⟨_, .str x t⟩
  | _, _, u, .lst (a := a) q rr, r => by
    cases (show u = Value.ref a from r)
    obtain ⟨its, rv, p, hz⟩ := I.list q
    obtain ⟨as, ra⟩ := Rps.reads I rr rv
    obtain ⟨o, ho, hc, n, hd⟩ := p.isList
    exact ⟨_, .list ho hc hd (by simpa using ra)⟩
  | _, _, u, .tup (a := a) q rr, r => by
    cases (show u = Value.ref a from r)
    obtain ⟨its, rv, p, hz⟩ := I.tuple q
    obtain ⟨as, ra⟩ := Rps.reads I rr rv
    obtain ⟨o, ho, hc, n, hd⟩ := p
    exact ⟨_, .tuple ho hc hd (by simpa using ra)⟩
theorem Rps.reads (I : Inv X pins σ H s) : ∀ {v : List V} {d : List PyData} {u : List Value}, Rps X.K H v d → Vals v u → ∃ as, ReadsAll s.heap u d as
  | _, _, _, .nil, .nil => ⟨_, .nil⟩
  | _, _, _, .cons q rr, .cons r t => by
    obtain ⟨as, h1⟩ := Rp.reads I q r
    obtain ⟨bs, h2⟩ := Rps.reads I rr t
    exact ⟨_, .cons h1 h2⟩
end
end
/-  == and != by data -/
def rDeq (K : PySem.W.Frag) (f : Bool → Bool) : R2 := fun x y H Q => ∃ da db, Rp K H x da ∧ Rp K H y db ∧ SeqAt.shaped da = true ∧ SeqAt.shaped db = true ∧ Q (.bl (f (PyData.eqv da db))) H
section
variable {X : Cx}
theorem o_deq (hu : X.A.units + 64 < cLine) : OpR X (compareOp .Eq) (rDeq X.K fun b => b) := by
  intro pins s σ H x y v u Q I rx ry q
  obtain ⟨da, db, hx, hy, sa, sb, q⟩ := q
  obtain ⟨as, ra⟩ := hx.reads I rx
  obtain ⟨bs, rb⟩ := hy.reads I ry
  exact eq_dataH ra rb sa sb hu ⟨.bl (PyData.eqv da db), H, I, rfl, q⟩
theorem o_dne (hu : X.A.units + 64 < cLine) : OpR X (compareOp .NotEq) (rDeq X.K fun b => !b) := by
  intro pins s σ H x y v u Q I rx ry q
  obtain ⟨da, db, hx, hy, sa, sb, q⟩ := q
  obtain ⟨as, ra⟩ := hx.reads I rx
  obtain ⟨bs, rb⟩ := hy.reads I ry
  exact ne_dataH ra rb sa sb hu ⟨.bl (!PyData.eqv da db), H, I, rfl, q⟩
/-  lists of ints -/
/-  isinstance(x, C): C a built-in type or a class of the text -/
def clsV : V → Option Value
  | .ty n => some (.type n)
  | .ref a => some (.ref a)
  | _ => none
theorem clsV_rel {c : V} {cv v : Value} (h : clsV c = some cv) (r : RelV c v) : v = cv := by
  cases c with
  | ref a => cases h; exact r
  | ty n => cases h; exact r
  | _ => cases h
def rIsi (K : PySem.W.Frag) : List V → Hp → VK → Prop := fun xs H Q => ∃ x c t cv b, xs = [x, c] ∧ clsV c = some cv ∧ TyOf K H x t ∧ PySem.W.kitOne K t cv = some b ∧ Q (.bl b) H
theorem call_isi : CallR X (.builtin "isinstance") (rIsi X.K) := by
  intro pins s σ H xs us Q I r h
  obtain ⟨x, c, t, cv, b, rfl, rc, ty, e, q⟩ := h
  obtain ⟨u, v, rfl, ru, rv⟩ := Vals.two r
  have e2 := clsV_rel rc rv
  subst e2
  exact isinst_ok I ru ty e fun tk => ⟨.bl b, H, I.tok _, rfl, q⟩
/-  C.m(e, ..), C a class of the text, m a def of it -/
structure ClsM (K : PySem.W.Frag) (C : Addr) (m : Str) (f : Addr) : Prop where
  sp : PySem.W.specialIn K (.ref C) "__getattribute__" = some (some (.builtin "type.__getattribute__"))
  rd : PySem.W.readsIn K C (.type "type") = true
  fd : PySem.W.findCls K (.ref C) (.type "type") m = some (.val (.ref f))
  kp : PySem.W.keepIn K (.ref f) = true
theorem pe_base {x m : Str} {C f : Addr} {fd : FuncData} {ps : List Str} {sp : Sp} {dvs : List V} {ds : List Value} {E : XK} {CX : CXT} {k : Nat} {p apos pos : Pos} {e : Expr} {es : List Expr} {t : TA} {pl : Sem Bool}
    (hg : Gl X x) (hm : X.mg x = some (.ref C)) (M : ClsM X.K C m f) (F : FnOk X.prog X.w X.K X.mg X.base CX k f fd ps sp) (hr : Room k X.A) (hb : Binds X.K fd ps ds) (hd : Vals dvs ds) (hx : Passes CX X E) (ha : PA X (e :: es) t)
    (hst : starEach (e :: es) X.env = (false, eval e X.env) :: starEach es X.env := by rfl) (hpl : (backTo pos (starEach es X.env)).any (·.1) = false := by rfl) (hdb : (x == ("__debug__" : Str)) = false := by decide)
    (ht : eval (.Call (.Attribute (.Name x p) m apos) (e :: es) [] pos) X.env = (do
      let ov ← eval (.Name x p) X.env
      standAt apos.atName
      let (f, first) ← holding [ov] (getMethod ov m pl)
      callWith pos f first (backTo pos (starEach (e :: es) X.env)) (backToKw pos (keywordEach [] X.env))) := by rfl) :
    PE X (.Call (.Attribute (.Name x p) m apos) (e :: es) [] pos) (tCall sp dvs E t) := by
  intro pins s σ H Q I h
  refine PySem.W.methodCall_KW (pl := pl) (ld_glob I hg hm ?_ hdb) ht
  refine PySem.W.method_cls I.kIn M.sp (PySem.W.cls_value I.kIn M.rd M.fd rfl ?_)
  have I1 := I.tok (s.toks + 1)
  refine PySem.W.callWith_K (first := []) (h₀ := X.base) I.ok.mod.kin M.kp (thn (ha pos pins _ σ H _ I1 h) fun us s2 hh61 => ?_) hst hpl
  obtain ⟨vs, H2, I2, r, q2⟩ := hh61
  refine ⟨I2.kIn, ?_⟩
  exact run_fn F hr hb hd hx I2 r q2
end
end L2

namespace L2
open PySem PySem.Spec PyProof.Rows
/-! the built-in names -/
theorem bt_len : bootBuiltins "len" = some (.builtin "len") := by decide +kernel
theorem bt_max : bootBuiltins "max" = some (.builtin "max") := by decide +kernel
theorem bt_min : bootBuiltins "min" = some (.builtin "min") := by decide +kernel
theorem bt_abs : bootBuiltins "abs" = some (.builtin "abs") := by decide +kernel
theorem bt_isinstance : bootBuiltins "isinstance" = some (.builtin "isinstance") := by decide +kernel
theorem bt_all : bootBuiltins "all" = some (.builtin "all") := by decide +kernel
theorem bt_list : bootBuiltins "list" = some (.type "list") := by decide +kernel
theorem bt_tuple : bootBuiltins "tuple" = some (.type "tuple") := by decide +kernel
theorem bt_int : bootBuiltins "int" = some (.type "int") := by decide +kernel
theorem bt_bool : bootBuiltins "bool" = some (.type "bool") := by decide +kernel
theorem bt_enumerate : bootBuiltins "enumerate" = some (.type "enumerate") := by decide +kernel
/-  few attributes -/
theorem few_put {f : Str} {v : V} {fs : List (Str × V)} {n : Nat} (h : fs.length < n) : (putF f v fs).length < n + 1 := Nat.lt_of_le_of_lt (length_putF f v fs) (by (first | lia | omega))
section
variable {X : Cx} {a b c : Expr} {ta tb : TE} {pos : Pos}
/-! max, min of two ints -/
theorem c_max2 (hc : X.calm = true) : CallR X (.builtin "max") (fun xs H Q => argI2 (fun i j H1 => Q (.int (max i j)) H1) xs H) := (call_max2 hc).imp fun xs H Q q => by
  obtain ⟨i, j, rfl, q⟩ := argI2_of q
  refine ⟨i, j, rfl, ?_⟩
  have e : (if j > i then j else i) = max i j := by split <;> (first | lia | omega)
  rw [e]; exact q
theorem c_min2 (hc : X.calm = true) : CallR X (.builtin "min") (fun xs H Q => argI2 (fun i j H1 => Q (.int (min i j)) H1) xs H) := (call_min2 hc).imp fun xs H Q q => by
  obtain ⟨i, j, rfl, q⟩ := argI2_of q
  refine ⟨i, j, rfl, ?_⟩
  have e : (if j < i then j else i) = min i j := by split <;> (first | lia | omega)
  rw [e]; exact q
theorem c_abs : CallR X (.builtin "abs") (fun xs H Q => argI (fun i H1 => Q (.int (i.natAbs : Int)) H1) xs H) := call_abs.imp fun xs H Q q => by
  obtain ⟨i, rfl, q⟩ := argI_of q
  refine ⟨i, rfl, ?_⟩
  have e : (if i < 0 then -i else i) = (i.natAbs : Int) := by split <;> omega
  rw [e]; exact q
/-! is None -/
def isN : V → Bool
  | .non => true
  | _ => false
theorem isN_dec (x : V) : decide (x = .non) = isN x := by cases x <;> simp [isN]
def cIsN (ta : TE) : TE := fun σ H Q => ta σ H fun x H1 => Q (.bl (isN x)) H1
theorem ce_isN {j pos'} (ha : PE X a ta) : PE X (.Compare a [.Is] [.Constant .none j pos'] pos) (cIsN ta) := (pe_cmp (pc_isN ha)).imp fun σ H Q q => by
  show ta σ H _
  have e : (fun x H1 => Q (.bl (decide (x = V.non))) H1) = fun x H1 => Q (.bl (isN x)) H1 := by funext x H1; rw [isN_dec]
  rw [e]; exact q
def cTIsN (ta : TE) : TT := fun σ H Q => ta σ H fun x H1 => Q (isN x) H1
def cTNotN (ta : TE) : TT := fun σ H Q => ta σ H fun x H1 => Q (!isN x) H1
theorem ct_isN {j pos'} (ha : PE X a ta) : PT X (.Compare a [.Is] [.Constant .none j pos'] pos) (cTIsN ta) := (pt_cmp (pc_isN ha)).imp fun σ H Q q => by
  show ta σ H _
  have e : (fun x H1 => ∃ c, V.bl (decide (x = V.non)) = .bl c ∧ Q c H1) = fun x H1 => Q (isN x) H1 := by
    funext x H1; rw [isN_dec]; apply propext; exact ⟨fun ⟨c, e, q⟩ => by cases e; exact q, fun q => ⟨_, rfl, q⟩⟩
  rw [e]; exact q
theorem ct_notN {j pos'} (ha : PE X a ta) : PT X (.Compare a [.IsNot] [.Constant .none j pos'] pos) (cTNotN ta) := (pt_cmp (pc_notN ha)).imp fun σ H Q q => by
  show ta σ H _
  have e : (fun x H1 => ∃ c, V.bl (!decide (x = V.non)) = .bl c ∧ Q c H1) = fun x H1 => Q (!isN x) H1 := by
    funext x H1; rw [isN_dec]; apply propext; exact ⟨fun ⟨c, e, q⟩ => by cases e; exact q, fun q => ⟨_, rfl, q⟩⟩
  rw [e]; exact q
/-  == of two bools -/
/-  while -/
theorem cs_while {body : List Stmt} {tc : TT} {tb : TS} (hp : PassesOwn (model X.prog X.w) X.A X.env X.xe) (hc : PT X c tc) (hb : PSs X body tb) : PS X (.While c body [] pos) (cWhile tc tb) := by
  intro pins s σ H D I h
  unfold cWhile WhileAt at h
  obtain ⟨W, ⟨m0, w0⟩, turn⟩ := h
  refine wpAny_While (codeAny_whileLoop (fun n s' => ∃ σ' H', Inv X pins σ' H' s' ∧ W n σ' H') ?_ m0 ⟨σ, H, I, w0⟩)
  rintro n s1 ⟨σ1, H1, I1, w1⟩
  refine wpAny_passesOwn hp (thn (hc pins s1 σ1 H1 _ I1 (turn n σ1 H1 w1)) fun b s2 hh62 => ?_)
  obtain ⟨H2, I2, q2⟩ := hh62
  cases b with
  | true =>
    obtain ⟨N, hN, q2⟩ := q2.1 rfl
    rw [if_pos rfl]
    refine wpAny_passesOwn hp (thn (hb pins s2 σ1 H2 _ I2 q2) fun f s3 q3 => ?_)
    cases f with
    | next =>
      obtain ⟨σ3, H3, I3, n3⟩ := q3
      obtain ⟨m', hm, w3⟩ := hN σ3 H3 n3
      exact ⟨m', hm, σ3, H3, I3, w3⟩
    | cont =>
      obtain ⟨σ3, H3, I3, n3⟩ := q3
      obtain ⟨m', hm, w3⟩ := hN σ3 H3 n3
      exact ⟨m', hm, σ3, H3, I3, w3⟩
    | brk => exact q3
    | ret v => exact q3
  | false =>
    rw [if_neg Bool.false_ne_true]
    exact wpAny_execs_nil ⟨σ1, H2, I2, q2.2 rfl⟩
end
/-! the forms one uses -/
theorem forAt_its {lo st : Int} {n : Nat} {g : TG} {tb : TS} {D : Ends} {σ : St} {H : Hp} (Pv : Nat → St → Hp → Prop) (h0 : Pv 0 σ H)
    (hs : ∀ (i : Nat) σ H, i < n → Pv i σ H → g (.int (lo + i * st)) σ H fun σ2 H2 => tb { D with nx := Pv (i + 1), ct := Pv (i + 1), bk := D.nx } σ2 H2) (hd : ∀ σ H, Pv n σ H → D.nx σ H) : ForAt (Its lo st n) g tb D σ H := by
  unfold ForAt
  refine ⟨fun i m σ H => m = n - i ∧ i ≤ n ∧ Pv i σ H, ⟨n, by simp, Nat.zero_le _, h0⟩, ?_⟩
  rintro i m σ H ⟨rfl, hi, p⟩
  by_cases hlt : i < n
  · refine .inr ⟨hlt, Pv (i + 1), fun σ' H' p' => ⟨n - (i + 1), by (first | lia | omega), rfl, hlt, p'⟩, fun x H' y => ?_⟩
    obtain ⟨e, y⟩ := y
    subst e y
    exact hs i σ _ hlt p
  · have e : i = n := by (first | lia | omega)
    subst e
    exact .inl ⟨Nat.le_refl _, hd σ H p⟩
theorem forAt_list {K : PySem.W.Frag} {l : Addr} {xs : List V} {g : TG} {tb : TS} {D : Ends} {σ : St} {H : Hp} (Pv : Nat → St → Hp → Prop) (h0 : Pv 0 σ H) (hl : ∀ i σ H, i ≤ xs.length → Pv i σ H → SqL K H l xs)
    (hs : ∀ i x σ H, xs[i]? = some x → Pv i σ H → g x σ H fun σ2 H2 => tb { D with nx := Pv (i + 1), ct := Pv (i + 1), bk := D.nx } σ2 H2) (hd : ∀ σ H, Pv xs.length σ H → D.nx σ H) : ForAt (Itl K l) g tb D σ H := by
  unfold ForAt
  exact for_list Pv h0 hl hs hd
theorem forAt_tup {K : PySem.W.Frag} {l : Addr} {xs : List V} {g : TG} {tb : TS} {D : Ends} {σ : St} {H : Hp} (Pv : Nat → St → Hp → Prop) (h0 : Pv 0 σ H) (hl : ∀ i σ H, i ≤ xs.length → Pv i σ H → SqT K H l xs)
    (hs : ∀ i x σ H, xs[i]? = some x → Pv i σ H → g x σ H fun σ2 H2 => tb { D with nx := Pv (i + 1), ct := Pv (i + 1), bk := D.nx } σ2 H2) (hd : ∀ σ H, Pv xs.length σ H → D.nx σ H) : ForAt (Itt K l) g tb D σ H := by
  unfold ForAt
  exact for_tup Pv h0 hl hs hd
/-! heaps that grow -/
theorem Same.new {H : Hp} {p : Addr} {o : HO} (h : H p = none) : Same H (upd H p o) := fun b u e => by rw [upd_ne (ne_of_none e h)]; exact e
/-  a place that was free may be written -/
theorem Same.put {H H' : Hp} {p : Addr} {o : HO} (e : Same H H') (h : H p = none) : Same H (upd H' p o) := fun b u q => by rw [upd_ne (ne_of_none q h)]; exact e b u q
theorem Same.at {H H' : Hp} {p : Addr} {o : HO} (e : Same H H') (h : H p = some o) : H' p = some o := e p o h
/-  [f(x) for x in range(..)], f's values known -/
end L2
namespace L2
open PySem PySem.Spec PyProof.Rows
theorem Same.of_eq {H H' : Hp} {p : Addr} {o : HO} (h : H p = none) (e : upd H p o = H') : Same H H' := by rw [← e]; exact Same.new h
theorem at_of_eq {H H' : Hp} {p : Addr} {o : HO} (e : upd H p o = H') : H' p = some o := by rw [← e]; exact upd_same
theorem Same.back {H H' : Hp} {p : Addr} (e : Same H H') (h : H' p = none) : H p = none := Same.free e h
/-  a list that was made behind H0 is written: what H0 had stays -/
theorem Same.wr {H0 H H' : Hp} {p : Addr} {o : HO} (s : Same H0 H) (f : H0 p = none) (e : upd H p o = H') : Same H0 H' := by rw [← e]; exact s.put f
end L2

namespace L2
open PySem PySem.Spec PyProof.Rows

/-! ### calling a function that was made inside a def -/
/-  its names: parameters, the names it closes over, its own -/
section
variable {CX : CXT} {P : Program} {w : World} {K : PySem.W.Frag} {mg : Str → Option Value} {base : Heap} {N ps fns : List Str} {nm qual : Str} {params : Arguments} {scope : Scope} {f : Addr} {cd : Value} {clos : List (Str × Addr)} {A : Around} {outer : List Env} {s : Shared} {H : Hp} {E : XK} {us : List Value} {vs : List V} {fv : List (Str × V)} {k : Nat}
/-  the promise of a function that was made inside a def: at the values it closes over -/
end

section
variable {X : Cx} {CX : CXT} {k : Nat} {nm qual x : Str} {params : Arguments} {body : FuncBody} {scope : Scope} {ps : List Str} {sp : List (Str × V) → Sp} {p pos : Pos} {e : Expr} {es : List Expr} {t : TA} {E : XK} {i : Nat}
/-  f(e, ..) where the name f (slot i) holds a function that was made inside a def -/
end

/-! ### a def that makes functions: the names they close over (cap) are stored once -/
section
variable {X : Cx} {c P : Addr} {qs : List (Pos × Str)} {name q : Str} {params : Arguments} {scope : Scope} {pos : Pos} {fns : List Str}
end
/-  a code table of the written part -/
end L2
namespace L2
open PySem PySem.Spec PyProof.Rows
theorem ct_pc {X : Cx} {a b : Expr} {pos : Pos} {op : CmpOp} {t : TE} (h : PC X op a b t) (h1 : behindInMarks op b = false) : PT X (.Compare a [op] [b] pos) (cB t) := by
  intro pins s σ H Q I hw
  refine wpAny_isTrue_Compare1 (thn (h pins s σ H _ I hw) fun v s1 h1 => thn h1 fun u s2 h2 => thn h2 fun c s3 hh63 => ?_) h1
  obtain ⟨x, H1, I1, r1, q1⟩ := hh63
  obtain ⟨d, rfl, q⟩ := boolK_of q1
  cases r1
  exact wpAny_truthy_bool ⟨H1, I1, q⟩
end L2
namespace L2
open PySem PySem.Spec PyProof.Rows
/-  [f(x) for x in a list], f's values known -/
end L2

/-! dead statements; all, any of a list of bools; sum of a list of ints; xs.insert(i, y); len of what is a list or a tuple -/
namespace L2
open PySem PySem.Spec PyProof.Rows
section
variable {X : Cx}
theorem vals_bools : ∀ {bs : List Bool} {us : List Value}, Vals (bs.map V.bl) us → us = bs.map Value.bool
  | [], [], _ => rfl
  | [], _ :: _, h => by cases h
  | _ :: _, [], h => by cases h
  | b :: bs, u :: us, h => by
    cases h with
    | cons h1 h2 =>
      rw [vals_bools h2]
      cases h1
      rfl
theorem range_all (bs : List Bool) (d : Bool) : (List.range bs.length).all (fun i => bs.getD i d) = bs.all id := by
  rw [Bool.eq_iff_iff, List.all_eq_true, List.all_eq_true]
  constructor
  · intro h x hx
    obtain ⟨i, hi, rfl⟩ := List.mem_iff_getElem.mp hx
    have := h i (by simpa using hi)
    simpa [hi] using this
  · intro h i hi
    have hi' : i < bs.length := by simpa using hi
    have := h bs[i] (List.getElem_mem hi')
    simpa [hi'] using this
def rAllB (K : PySem.W.Frag) (f : List Bool → Bool) : List V → Hp → VK → Prop := fun xs H Q => ∃ p bs, xs = [.ref p] ∧ SqL K H p (bs.map V.bl) ∧ Q (.bl (f bs)) H
theorem truth_bools {prog : Program} {w : World} {A : Around} (bs : List Bool) : TruthOf prog w A (fun i v => (bs.map Value.bool).toArray[i]? = some v) (fun i => bs.getD i true) := by
  intro i v s Q E hP hQ
  have e : v = .bool (bs.getD i true) := by
    simp only [List.getElem?_toArray, List.getElem?_map] at hP
    cases q : bs[i]? with
    | none => rw [q] at hP; cases hP
    | some b => rw [q] at hP; simp at hP; rw [← hP]; simp [List.getD, q]
  rw [e]
  exact wpAny_truthy_bool hQ
theorem call_allB (hc : X.calm = true) : CallR X (.builtin "all") (rAllB X.K fun bs => bs.all id) := by
  intro pins s σ H xs us Q I r h
  obtain ⟨p, bs, rfl, hq, q⟩ := h
  obtain ⟨u, rfl, rx⟩ := vals1 r
  cases rx
  obtain ⟨its, r', pl, hz⟩ := I.list hq
  have e := vals_bools r'
  subst e
  have hL := pl.isList
  have hlt : p < s.heap.objs.size := by obtain ⟨_, e, _⟩ := hL; exact Heap.lt_size e
  refine call_all_walk (wpAny_pyIter_list hL ⟨_, _, _, _, _, _, fun i => bs.getD i true, rfl, Walks.list (A := X.A.in1) (I.ok.hd hc) _ p (Nat.ne_of_lt hlt) (bs.map Value.bool).toArray, ⟨⟨_, Heap.get?_push_size _ rfl, rfl, rfl⟩, hL.push _⟩, truth_bools bs, fun h' tk hk => ?_⟩)
  refine ⟨.bl (bs.all id), H, I.kept (t' := tk) (fun b o e => hk b o (fun hb => ?_) (Heap.get?_push_of_some _ e)), ?_, q⟩
  · exact absurd (Heap.lt_size e) (by rw [List.mem_singleton.mp hb]; exact Nat.lt_irrefl _)
  · have e := range_all bs true
    simp only [List.size_toArray, List.length_map]
    rw [e]; rfl
/-  sum of a list of ints -/
/-  xs.insert(i, y), i among the places -/
end
end L2

/-! enumerate(a list), and a list comprehension whose clause has two names: for i, x in .. -/
namespace L2
open PySem PySem.Spec PyProof.Rows
section
variable {X : Cx} {pins : List (Addr × Obj)} {σ : St} {H : Hp} {s : Shared} {h' : Heap}
/-  untracked records of ours (iterators) have turned, and an object was laid -/
theorem Inv.turnLaid {t' : Nat} {ch : List Addr} {a : Addr} {o : HO} (I : Inv X pins σ H s) (k : ∀ b u, b ∉ ch → s.heap.get? b = some u → h'.get? b = some u) (hp : s.heap.objs.size ≤ a) (new : ObjOk X.prog X.w (upd H a o) h' a o)
    (hn : ∀ b ∈ ch, H b = none) (hl : ∀ b ∈ ch, b < s.heap.objs.size) (hch : ∀ b ∈ ch, (b ∈ X.ex ∨ X.s₀.heap.objs.size ≤ b) ∧ b ≠ X.env.locals ∧ (∀ x c, X.env.cells.lookup x = some c → c ≠ b) ∧ ∀ p ∈ X.pn ++ pins, p.1 ≠ b) :
    Inv X pins σ (upd H a o) { s with heap := h', toks := t' } := by
  have nit : ∀ b u, H b = some u → b ∉ ch := fun b u e z => by rw [hn b z] at e; cases e
  have fr := I.hok.fresh hp
  refine I.call' (s' := { s with heap := h', toks := t' }) (ch := ch) rfl ⟨fun b o q _ _ hx => k b o hx q, fun b o q _ _ hx => ⟨o.slots, k b o hx q⟩, fun b o q n _ => ?_, fun b o q hx => ⟨o, k b o hx q⟩, fun b u q _ => ?_⟩ (fun b u e => ?_) I.bare hch
  · rw [upd_ne (Nat.ne_of_lt (Nat.lt_of_lt_of_le (Heap.lt_size q) hp))]; exact n
  · rw [upd_ne (ne_of_none q fr)]; exact q
  · by_cases hb : b = a
    · subst hb; rw [upd_same] at e; cases e; exact new
    · rw [upd_ne hb] at e
      refine (I.hok b u e).stay (fun c v hc q => k c v ?_ q) (fun c q => by rw [upd_ne (ne_of_none q fr)]; exact q) fun c xs q _ => by rw [upd_ne (ne_of_none q fr)]; exact q
      rcases hc with z | z
      · rw [z]; exact nit b u e
      · exact nit c _ z
end
/-  enumerate of the list at a: at each turn a new tuple -/
def Ite (K : PySem.W.Frag) (a : Addr) : It :=
  ⟨fun i H => ∃ xs x, SqL K H a xs ∧ xs[i]? = some x, fun i H v H' => ∃ T x, v = .ref T ∧ H T = none ∧ H' = upd H T (.tup [.int i, x]) ∧ ∀ xs, SqL K H a xs → xs[i]? = some x, fun i H => ∃ xs, SqL K H a xs ∧ xs.length ≤ i⟩
theorem turn_enum {P : Program} {w : World} {K : PySem.W.Frag} {es : List Expr} {k : Nat} {pos : Pos} (a e it : Addr) (hne : e ≠ it) : Turn P w K (.Tuple es k pos) (Ite K a) [e, it] e (fun i h => (∃ old, IsEnum h e it (i : Nat) old) ∧ h.IsListIter it a i) where
  mem := by simp
  obj := fun i h st b hb => by
    obtain ⟨⟨old, he⟩, ⟨o, e1, c, d⟩⟩ := st
    rcases List.mem_cons.mp hb with z | z
    · subst z
      exact ⟨_, he, fun v z => by cases z⟩
    · rw [List.mem_singleton.mp z]
      exact ⟨o, e1, fun v z => by rw [d] at z; cases z⟩
  keep := fun i h h' st kk => by
    obtain ⟨⟨old, he⟩, hit⟩ := st
    exact ⟨⟨old, kk e (by simp) _ he⟩, hit.at fun o x => kk it (by simp) o x⟩
  item := by
    intro X hP hw hK hc i pins s σ H E I hf st hg
    subst hP hw hK
    obtain ⟨xs, x, hq, hx⟩ := hg
    obtain ⟨its, rv, p, hz⟩ := I.list hq
    obtain ⟨u, hu, ru⟩ := rv.get hx
    obtain ⟨⟨old, he⟩, hit⟩ := st
    have he' := Heap.lt_size he
    have hi' : it < s.heap.objs.size := by obtain ⟨o, q, _⟩ := hit; exact Heap.lt_size q
    refine wpAny_pyNext_enum_item he hit p.isList (x := u) (by simpa using hu) hne fun h' heo hit' hT hsz hk => ?_
    refine ⟨_, rfl, wpAny_letOwnedTupleGo_enum (s := { s with heap := h', toks := s.toks + 1 }) heo fun h2 he2 hs2 => ?_⟩
    have hT2 : h2.get? s.heap.objs.size = some { cls := .type "tuple", data := .seq #[.int i s.toks, u] } := (hs2.2 _ (Nat.ne_of_gt he')).trans hT
    have I2 : Inv X pins σ (upd H s.heap.objs.size (.tup [.int i, x])) { s with heap := h2, toks := s.toks + 1 } := by
      refine I.turnLaid (ch := [e, it]) (fun b o hb q => ?_) (Nat.le_refl _) ⟨by simp [sizeLine_eq], [.int i s.toks, u], .cons ⟨_, rfl⟩ (.cons ru .nil), ⟨_, hT2, rfl, _, rfl⟩⟩ (fun b hb => (hf b hb).1) (fun b hb => ?_) fun b hb => ?_
      · have b1 : b ≠ e := fun z => hb (by simp [z])
        have b2 : b ≠ it := fun z => hb (by simp [z])
        exact (hs2.2 b b1).trans (hk b o b1 b2 q)
      · rcases List.mem_cons.mp hb with z | z
        · rw [z]; exact he'
        · rw [List.mem_singleton.mp z]; exact hi'
      · obtain ⟨f0, f1, f2, f3, f4, f5⟩ := hf b hb
        exact ⟨f3, f1, f4, f5⟩
    refine ⟨.ref s.heap.objs.size, _, I2, rfl, ⟨_, x, rfl, I.hok.fresh (Nat.le_refl _), rfl, fun ys hy => by rw [I.list_inj hy hq]; exact hx⟩, ⟨⟨u, by simpa using he2⟩, hit'.extBut hs2.extBut (Ne.symm hne)⟩, fun b hb => ?_⟩
    have hb' : b ≠ s.heap.objs.size := by
      rcases List.mem_cons.mp hb with z | z
      · rw [z]; exact Nat.ne_of_lt he'
      · rw [List.mem_singleton.mp z]; exact Nat.ne_of_lt hi'
    rw [upd_ne hb']
    exact (hf b hb).1
  done := by
    intro X hP hw hK hc i pins s σ H E I hf st hg
    subst hP hw hK
    obtain ⟨xs, hq, hx⟩ := hg
    obtain ⟨its, rv, p, hz⟩ := I.list hq
    obtain ⟨⟨old, he⟩, hit⟩ := st
    obtain ⟨f0, f1, f2, f3, f4, f5⟩ := hf it (by simp)
    have hl := rv.length
    exact wpAny_pyNext_enum_end (I.ok.hd hc) he hit p.isList (by simp; (first | lia | omega)) fun h' eb => ⟨rfl, I.turned (t' := s.toks) (fun b o hb e => eb b o hb e) f0 f1 f3 f4 f5⟩
  self := fun _ _ _ _ _ st h => by
    obtain ⟨⟨old, he⟩, _⟩ := st
    exact wpAny_pyIter_enum he h
section
variable {X : Cx} {es : List Expr} {k : Nat} {tp : Pos}
def iEnum (K : PySem.W.Frag) (ta : TA) : TI := fun σ H R => ta σ H fun vs H1 => ∃ a, vs = [.ref a] ∧ (∃ xs, SqL K H1 a xs) ∧ R (Ite K a) H1
theorem pi_enum {l : Expr} {ta : TA} {p pos : Pos} (hg : Gl X "enumerate") (hm : X.mg "enumerate" = none) (ha : PA X [l] ta) (hs : starEach [l] X.env = [(false, eval l X.env)] := by rfl) : PI X (.Tuple es k tp) (.Call (.Name "enumerate" p) [l] [] pos) (iEnum X.K ta) := by
  intro pins s σ H R I h
  refine Call_ (ld_blt I hg hm bt_enumerate (PyProof.Rows.callWith_type1 (thn (ha pos pins s σ H _ I h) fun us s1 hh64 => ?_) hs rfl))
  obtain ⟨vs, H1, I1, r1, q1⟩ := hh64
  obtain ⟨a, e, ⟨xs, hq⟩, q⟩ := q1
  subst e
  obtain ⟨u, rfl, ru⟩ := Vals.one r1
  cases ru
  obtain ⟨its, rv, pl, hz⟩ := I1.list hq
  refine call_enumerate_list pl.isList fun h' he hi hsz hk => wpAny_pyIter_enum (s := { s1 with heap := h' }) he ?_
  refine ⟨s1.heap.objs.size + 1, [s1.heap.objs.size + 1, s1.heap.objs.size], _, _, H1, rfl, I1.kept (t' := s1.toks) hk, turn_enum a _ _ (Nat.succ_ne_self _), ⟨⟨.none, by simpa using he⟩, hi⟩, fun b hb => ?_, q⟩
  rcases List.mem_cons.mp hb with z | z
  · rw [z]; exact I1.fpOk (Nat.le_succ _) (I1.hok.fresh (Nat.le_succ _))
  · rw [List.mem_singleton.mp z]; exact I1.fpOk (Nat.le_refl _) (I1.hok.fresh (Nat.le_refl _))
end
section
variable {X : Cx} {scope : Scope} {x1 x2 : Str} {cap : List Nat} {ys : List Str}
/-  the block's first state -/
/-  the frame around it, behind the block -/
end

/-  what a comprehension asks, from its iterator on; opened by CompAt2.mk alone -/
@[irreducible] def CompAt2 (K : PySem.W.Frag) (J : It) (caps : St) (tt : TT) (te : TE) (Q : VK) (H2 : Hp) : Prop := ∀ D, H2 D = none → ∃ W : CW, (∃ m, W 0 m [] (upd H2 D (.lst []))) ∧
  ∀ i m acc H3, W i m acc H3 → H3 D = some (.lst acc) ∧ ((J.stop i H3 ∧ Q (.ref D) H3) ∨ (J.go i H3 ∧ acc.length < sizeLine ∧ ∀ v H4, J.yld i H3 v H4 → ∃ T v1 v2, v = .ref T ∧ SqT K H4 T [v1, v2] ∧ tt (some v1 :: some v2 :: caps) H4 fun b H5 =>
    (b = true → te (some v1 :: some v2 :: caps) H5 fun u H6 => H6 D = some (.lst acc) ∧ ∃ m', m' < m ∧ W (i + 1) m' (acc ++ [u]) (upd H6 D (.lst (acc ++ [u])))) ∧ (b = false → ∃ m', m' < m ∧ W (i + 1) m' acc H5)))
/-  [e for x in it if c] -/
section
variable {X : Cx} {scope : Scope} {x1 x2 : Str} {cap : List Nat} {ys : List Str} {elt iter : Expr} {ifs : List Expr} {px1 px2 px pos : Pos} {kx : Nat} {wi : TI} {tt : TT} {te : TE}
/-  the block itself: from the iterator on -/
/-  name = [e for x in it if c], stored ahead of the block's end -/
end
end L2

/-! comprehensions by an invariant of what was made; with a test; over enumerate; the same data on both sides of == -/
namespace L2
open PySem PySem.Spec PyProof.Rows
/-  the heap without D -/
def del (H : Hp) (D : Addr) : Hp := fun b => if b = D then none else H b
theorem del_self {H : Hp} {D : Addr} : del H D D = none := by unfold del; rw [if_pos rfl]
theorem del_ne {H : Hp} {D b : Addr} (h : b ≠ D) : del H D b = H b := by unfold del; rw [if_neg h]
theorem del_same {H : Hp} {D : Addr} : Same (del H D) H := fun b u e => by
  by_cases h : b = D
  · rw [h, del_self] at e; cases e
  · rw [del_ne h] at e; exact e
theorem del_upd {H : Hp} {D : Addr} {o : HO} : del (upd H D o) D = del H D := by
  funext b
  by_cases h : b = D
  · rw [h, del_self, del_self]
  · rw [del_ne h, del_ne h, upd_ne h]
theorem del_none {H : Hp} {D : Addr} (h : H D = none) : del H D = H := by
  funext b
  by_cases e : b = D
  · rw [e, del_self, h]
  · rw [del_ne e]
theorem same_del {H H' : Hp} {D : Addr} (s : Same H H') : Same (del H D) (del H' D) := fun b u e => by
  by_cases h : b = D
  · rw [h, del_self] at e; cases e
  · rw [del_ne h] at e ⊢; exact s b u e
/-  [e for x in range(..)]: an invariant of what was made -/
theorem comp_itsP {lo st : Int} {n : Nat} {te : TE} {caps : L2.St} {Q : VK} {H2 : Hp} (Pv : Nat → List V → Hp → Prop) (hn : n ≤ sizeLine) (h0 : Pv 0 [] H2)
    (hs : ∀ (i : Nat) acc H3 H3', i < n → Same H2 H3 → Same H3 H3' → Pv i acc H3 → ∀ R : VK, (∀ u H6', Same H3' H6' → (∀ H6, Same H3 H6 → (∀ p o, (H3' p = none ∨ ∀ ys, o ≠ HO.lst ys) → H6' p = some o → H6 p = some o) → Pv (i + 1) (acc ++ [u]) H6) → R u H6') → te (some (.int (lo + i * st)) :: caps) H3' R)
    (hd : ∀ D acc H H', H2 D = none → H D = none → Same H2 H → Same H H' → Pv n acc H → acc.length = n → H' D = some (.lst acc) → Q (.ref D) H') : CompAt (Its lo st n) caps tAll te Q H2 := by
  unfold CompAt
  intro D hD
  refine ⟨fun i m acc H3 => m = n - i ∧ i ≤ n ∧ acc.length = i ∧ H3 D = some (.lst acc) ∧ Same H2 (del H3 D) ∧ Pv i acc (del H3 D), ⟨n, by simp, Nat.zero_le _, rfl, upd_same, ?_, ?_⟩, ?_⟩
  · rw [del_upd, del_none hD]; exact Same.refl _
  · rw [del_upd, del_none hD]; exact h0
  rintro i m acc H3 ⟨rfl, hi, hacc, hD3, s3, p3⟩
  refine ⟨hD3, ?_⟩
  by_cases hlt : i < n
  · refine .inr ⟨hlt, by (first | lia | omega), fun v H4 y => ?_⟩
    obtain ⟨e, y⟩ := y
    subst e y
    refine ⟨fun _ => ?_, fun z => by cases z⟩
    refine hs i acc _ _ hlt s3 del_same p3 _ fun u H6' s6 k => ⟨s6.at hD3, n - (i + 1), by (first | lia | omega), rfl, hlt, by simp [hacc], upd_same, ?_, ?_⟩
    · rw [del_upd]; exact s3.trans (same_del s6)
    · rw [del_upd]
      refine k _ (same_del s6) fun p o q1 q2 => ?_
      rw [del_ne (fun z => by
        rcases q1 with q1 | q1
        · rw [z, hD3] at q1; cases q1
        · rw [z, s6.at hD3] at q2; cases q2; exact q1 _ rfl)]
      exact q2
  · have e : i = n := by (first | lia | omega)
    subst e
    exact .inl ⟨Nat.le_refl _, hd D acc _ H3 hD del_self s3 del_same p3 hacc hD3⟩
theorem comp_tupP {K : PySem.W.Frag} {l : Addr} {xs : List V} {te : TE} {caps : L2.St} {Q : VK} {H2 : Hp} (Pv : Nat → List V → Hp → Prop) (hl : SqT K H2 l xs) (hn : xs.length ≤ sizeLine) (h0 : Pv 0 [] H2)
    (hs : ∀ (i : Nat) x acc H3 H3', xs[i]? = some x → Same H2 H3 → Same H3 H3' → Pv i acc H3 → ∀ R : VK, (∀ u H6', Same H3' H6' → (∀ H6, Same H3 H6 → (∀ p o, (H3' p = none ∨ ∀ ys, o ≠ HO.lst ys) → H6' p = some o → H6 p = some o) → Pv (i + 1) (acc ++ [u]) H6) → R u H6') → te (some x :: caps) H3' R)
    (hd : ∀ D acc H H', H2 D = none → H D = none → Same H2 H → Same H H' → Pv xs.length acc H → acc.length = xs.length → H' D = some (.lst acc) → Q (.ref D) H') : CompAt (Itt K l) caps tAll te Q H2 := by
  unfold CompAt
  intro D hD
  refine ⟨fun i m acc H3 => m = xs.length - i ∧ i ≤ xs.length ∧ acc.length = i ∧ H3 D = some (.lst acc) ∧ Same H2 (del H3 D) ∧ Pv i acc (del H3 D), ⟨xs.length, by simp, Nat.zero_le _, rfl, upd_same, ?_, ?_⟩, ?_⟩
  · rw [del_upd, del_none hD]; exact Same.refl _
  · rw [del_upd, del_none hD]; exact h0
  rintro i m acc H3 ⟨rfl, hi, hacc, hD3, s3, p3⟩
  refine ⟨hD3, ?_⟩
  have q := (s3.trans del_same).seqT hl
  by_cases hlt : i < xs.length
  · have hx : xs[i]? = some xs[i] := List.getElem?_eq_getElem hlt
    refine .inr ⟨⟨xs, xs[i], q, hx⟩, by (first | lia | omega), fun v H4 y => ?_⟩
    obtain ⟨e, y⟩ := y
    have ev := y xs q
    rw [hx] at ev
    cases ev
    subst e
    refine ⟨fun _ => ?_, fun z => by cases z⟩
    refine hs i _ acc _ _ hx s3 del_same p3 _ fun u H6' s6 k => ⟨s6.at hD3, xs.length - (i + 1), by (first | lia | omega), rfl, hlt, by simp [hacc], upd_same, ?_, ?_⟩
    · rw [del_upd]; exact s3.trans (same_del s6)
    · rw [del_upd]
      refine k _ (same_del s6) fun p o q1 q2 => ?_
      rw [del_ne (fun z => by
        rcases q1 with q1 | q1
        · rw [z, hD3] at q1; cases q1
        · rw [z, s6.at hD3] at q2; cases q2; exact q1 _ rfl)]
      exact q2
  · have e : i = xs.length := by (first | lia | omega)
    subst e
    exact .inl ⟨⟨xs, q, Nat.le_refl _⟩, hd D acc _ H3 hD del_self s3 del_same p3 hacc hD3⟩
/-  [x for x in xs if p(x)] -/
/-  [i for i, x in enumerate(xs) if p(i, x)] -/
/-  == of what has the same data -/
theorem deq_same {K : PySem.W.Frag} {f : Bool → Bool} {x y : V} {H : Hp} {Q : VK} {d : PyData} (hx : Rp K H x d) (hy : Rp K H y d) (hd : SeqAt.shaped d = true) (q : Q (.bl (f true)) H) : rDeq K f x y H Q :=
  ⟨d, d, hx, hy, hd, hd, by rw [PySem.SeqAt.eqv_refl d (SeqAt.canLay_of_shaped hd)]; exact q⟩
end L2
namespace L2
open PySem PySem.Spec PyProof.Rows
section
variable {X : Cx} {K : PySem.W.Frag}
/-! the same rules in a block, with the fragment by its name -/
theorem ix_listK (e : X.K = K) : IxR X (rIxL K) := e ▸ ix_list
theorem ix_tupK (e : X.K = K) : IxR X (rIxT K) := e ▸ ix_tup
theorem sl_listK (e : X.K = K) : SlR X (rSlL K) := e ▸ sl_list
theorem isiK (e : X.K = K) : CallR X (.builtin "isinstance") (rIsi K) := e ▸ call_isi
theorem deqK (e : X.K = K) (hu : X.A.units + 64 < cLine) : OpR X (compareOp .Eq) (rDeq K fun b => b) := e ▸ o_deq hu
theorem dneK (e : X.K = K) (hu : X.A.units + 64 < cLine) : OpR X (compareOp .NotEq) (rDeq K fun b => !b) := e ▸ o_dne hu
end
end L2
namespace L2
open PySem PySem.Spec PyProof.Rows
end L2
namespace L2
open PySem PySem.Spec PyProof.Rows
end L2

/-! a walk over what is a list or a tuple; xs.insert(i, y); pairs and permutations; places of lambdas -/
namespace L2
open PySem PySem.Spec PyProof.Rows
section
variable {X : Cx}
def rInsertI : V → List V → Hp → VK → Prop := fun x vs H Q => ∃ (l : Addr) (xs : List V) (y : V) (k : Int), x = .ref l ∧ vs = [.int k, y] ∧ H l = some (.lst xs) ∧ xs.length < sizeLine ∧ 0 ≤ k ∧ k ≤ xs.length ∧ Q .non (upd H l (.lst (xs.take k.toNat ++ y :: xs.drop k.toNat)))
theorem mt_insertN : MtM X "list.insert" rInsertI := by
  intro pins s σ H x vs v us Q I rx rv h
  obtain ⟨l, xs, y, k, rfl, rfl, hH, hz, hk0, hk, q⟩ := h
  cases rx
  obtain ⟨u0, u, rfl, ⟨t, rfl⟩, ru⟩ := rv.two
  obtain ⟨z, its, n, r, hl, e⟩ := I.lstM hH
  have hlen := r.length
  have hfit : ¬ (!Builtin.List.listFitsIndex k) = true := by
    have : k ≤ 2 ^ 62 := by
      rw [sizeLine_eq] at hz; (first | lia | omega)
    simp [Builtin.List.listFitsIndex]
    (first | lia | omega)
  have hsz : its.toArray.size ≤ sizeLine := by rw [List.size_toArray]; (first | lia | omega)
  have M := AutoListH.list_insert_list_int_val_1 l its.toArray n k t u hfit hsz
  refine call_meets F.slot_list_insert ⟨_, e, rfl⟩ F.entry_list_insert (F.args_list_insert_3 _ _ _) M ⟨e, ?_⟩
  refine ⟨.non, _, I.lset (its' := its.take k.toNat ++ u :: its.drop k.toNat) hH e ?_ ((r.take _).append (.cons ru (r.drop _))) ?_, rfl, q⟩
  · have hneg : ¬ (k < 0) := by (first | lia | omega)
    have hmin : min k.toNat its.length = k.toNat := by (first | lia | omega)
    simp only [hneg, if_false, List.size_toArray, hmin]
    apply Array.ext'
    simp [List.extract_eq_drop_take]
    rw [List.take_of_length_le (by simp)]
  · rw [List.length_append, List.length_cons, List.length_take, List.length_drop]; (first | lia | omega)
end
/-! the way to a lambda in a text -/
end L2

/-! list(reversed(xs)); min, max of a list of ints; xs.index(i); len(set(xs)) of ints -/
namespace PySem
open Sem (wp)
open PyProof.Rows
namespace F
end F
section
variable {prog : Program} {w : World} {A : Around} {E : Value → Shared → Prop} {s : Shared}
end
end PySem
namespace L2
open PySem PySem.Spec PyProof.Rows
section
variable {X : Cx}
/-  list(reversed(e)) -/
/-  min, max of a list of ints -/
/-  xs.index(i) of ints, i among them -/
/-  set(a list of ints without doubles), and its len -/
end
end L2
namespace L2
open PySem PySem.Spec PyProof.Rows
section
variable {X : Cx} {K : PySem.W.Frag}
end
end L2
namespace L2
open PySem PySem.Spec PyProof.Rows
/-  a loop by an invariant with a measure -/
theorem whileAt_inv {c : TT} {tb : TS} {D : Ends} {σ : St} {H : Hp} (Pv : Nat → St → Hp → Prop) {m : Nat} (h0 : Pv m σ H)
    (hs : ∀ m σ H, Pv m σ H → c σ H fun b H1 => (b = true → ∃ N : St → Hp → Prop, (∀ σ' H', N σ' H' → ∃ m', m' < m ∧ Pv m' σ' H') ∧ tb { D with nx := N, ct := N, bk := D.nx } σ H1) ∧ (b = false → D.nx σ H1)) : WhileAt c tb D σ H := by
  unfold WhileAt
  exact ⟨Pv, ⟨m, h0⟩, hs⟩
/-  [x for x in range(..) if p(x)] -/
end L2

/-! exceptions of own classes: raise C(..), how one leaves a def, try / except -/
namespace L2
open PySem PySem.Spec PyProof.Rows

/-  what is known of an address that an exception (or its traceback) has: untracked, new since the entry, no pin -/
def Nu (X : Cx) (H : Hp) (b : Addr) : Prop := H b = none ∧ X.s₀.heap.get? b = none ∧ ∀ p ∈ X.pn, p.1 ≠ b
/-  an exception without a traceback -/
def Fly0 (X : Cx) (H : Hp) (h : Heap) (a : Addr) (cls : Value) (dx : Option Addr) : Prop :=
  ∃ oe vs a0, h.get? a = some oe ∧ oe.cls = cls ∧ oe.dict = dx ∧ oe.data = .fields vs ∧ vs[0]? = some a0 ∧ vs[1]? = some .none ∧ Nu X H a
/-  an exception whose newest entry bears the flight mark fl -/
def FlyT (X : Cx) (fl : Value) (H : Hp) (h : Heap) (a : Addr) (cls : Value) (dx : Option Addr) : Prop :=
  ∃ oe vs a0 T oT ts, h.get? a = some oe ∧ oe.cls = cls ∧ oe.dict = dx ∧ oe.data = .fields vs ∧ vs[0]? = some a0 ∧ vs[1]? = some (.ref T) ∧ T ≠ a ∧ h.get? T = some oT ∧ oT.data = .fields ts ∧ ts[3]? = some fl ∧ Nu X H a ∧ Nu X H T
def Fly (X : Cx) (H : Hp) (h : Heap) (a : Addr) (cls : Value) (dx : Option Addr) : Prop :=
  Fly0 X H h a cls dx ∨ FlyT X .none H h a cls dx ∨ FlyT X (rawInt X.env.locals) H h a cls dx
/-  a def's own frame, no walked iterators of others -/
structure Own (X : Cx) : Prop where
  ex : X.ex = []
  st : X.stack = X.env :: X.outer
  fr : X.env.frame = some X.env.locals
abbrev EEs := St → XK
/-  what is wanted of an exception within X -/
def XE (X : Cx) (EE : EEs) : Value → Shared → Prop := fun e s' =>
  ∃ a cls dx σ H, e = .ref a ∧ Inv X [] σ H s' ∧ Fly X H s'.heap a cls dx ∧ EE σ cls dx H

section
variable {X : Cx} {pins : List (Addr × Obj)} {σ : St} {H : Hp} {s : Shared}
theorem Inv.nopins (I : Inv X pins σ H s) : Inv X [] σ H s := I.pins_of fun p hp => nomatch hp
theorem Own.mem (o : Own X) {b : Addr} : b ∈ frs X.stack ↔ b = X.env.locals ∨ b ∈ X.fs := by
  rw [o.st]; unfold frs; rw [List.filterMap_cons, o.fr]; exact List.mem_cons
/-  records that are new and untracked have changed, the frames up to slots -/
theorem Inv.flown {h' : Heap} (o : Own X) (I : Inv X [] σ H s) (ch : Addr → Prop)
    (keep : ∀ b u, ¬ ch b → b ∉ frs X.stack → s.heap.get? b = some u → h'.get? b = some u)
    (slot : ∀ b u, ¬ ch b → b ∈ frs X.stack → s.heap.get? b = some u → ∃ sl, h'.get? b = some { u with slots := sl })
    (new : ∀ b, ch b → Nu X H b ∧ ∀ u, s.heap.get? b = some u → ∃ vs, u.data = .fields vs) : Inv X [] σ H { s with heap := h' } := by
  have any : ∀ b u, ¬ ch b → s.heap.get? b = some u → ∃ sl, h'.get? b = some { u with slots := sl } := fun b u n e => by
    by_cases hb : b ∈ frs X.stack
    · exact slot b u n hb e
    · exact ⟨u.slots, keep b u n hb e⟩
  have old : ∀ b u, X.s₀.heap.get? b = some u → ¬ ch b := fun b u e z => by
    have := (new b z).1.2.1
    rw [e] at this; cases this
  have neL : ∀ b u, X.s₀.heap.get? b = some u → b ≠ X.env.locals := fun b u e => Nat.ne_of_lt (Nat.lt_of_lt_of_le (Heap.lt_size e) I.ok.above)
  have cel : ∀ c v, s.heap.IsCell c v → h'.IsCell c v := fun c v ⟨u, e, d⟩ => by
    obtain ⟨sl, q⟩ := any c u (fun z => by
      obtain ⟨vs, w⟩ := (new c z).2 u e
      rw [d] at w; cases w) e
    exact ⟨_, q, d⟩
  refine ⟨I.ok, I.os, I.bare, ⟨fun b u e n hb hx => ?_, fun b u e n hb hx => ?_, I.base.free, fun b u e hx => ?_, I.base.fix⟩, ?_, fun x c e => ?_, I.free, I.freeC, fun p hp => ?_, fun b u e => ?_, I.len⟩
  · exact keep b u (old b u e) (fun z => (o.mem.mp z).elim (neL b u e) hb) (I.base.keep b u e n hb hx)
  · obtain ⟨sl, e1⟩ := I.base.slot b u e n hb hx
    obtain ⟨sl', e2⟩ := slot b _ (old b u e) (o.mem.mpr (.inr hb)) e1
    exact ⟨sl', e2⟩
  · by_cases hb : b ∈ X.fs
    · obtain ⟨o', e1⟩ := I.base.there b u e hx
      obtain ⟨sl, e2⟩ := any b _ (old b u e) e1
      exact ⟨_, e2⟩
    · obtain ⟨o', e1⟩ := I.base.there b u e hx
      obtain ⟨sl, e2⟩ := any b _ (old b u e) e1
      exact ⟨_, e2⟩
  · obtain ⟨m, ⟨u, es, ep, e, d⟩, l⟩ := I.loc
    obtain ⟨sl, q⟩ := any _ u (fun z => by
      obtain ⟨vs, w⟩ := (new _ z).2 u e
      rw [d.1] at w; cases w) e
    refine ⟨m, ⟨_, es, ep, q, d⟩, fun i x v e1 e2 e3 => ?_⟩
    obtain ⟨y, r, z⟩ := l i x v e1 e2 e3
    refine ⟨y, r, z.imp id fun hh65 => ?_⟩
    obtain ⟨k, c, e, z⟩ := hh65
    exact ⟨k, c, e, cel c _ z⟩
  · obtain ⟨v, z⟩ := I.cell x c e
    exact ⟨v, cel c v z⟩
  · obtain ⟨e, n, ne, nf, d⟩ := I.pin p hp
    have hp' : p ∈ X.pn := by simpa using hp
    exact ⟨keep p.1 p.2 (fun z => (new _ z).1.2.2 p hp' rfl) (fun z => (o.mem.mp z).elim ne nf) e, n, ne, nf, d⟩
  · refine (I.hok b u e).stay (fun c v hc q => ?_) (fun _ q => q) fun _ _ q _ => q
    have tr : ∃ u, H c = some u := by
      rcases hc with rfl | hc
      · exact ⟨u, e⟩
      · exact ⟨_, hc⟩
    obtain ⟨u', tr⟩ := tr
    refine keep c v (fun z => ?_) (fun z => ?_) q
    · rw [(new c z).1.1] at tr; cases tr
    · rw [I.stkFree c z] at tr; cases tr

/-  a fresh entry is laid on the exception -/
theorem entry_laid {M : Model} {A' : Around} {E : Value → Shared → Prop} {Q : Unit → Shared → Prop} {a : Addr} {oe : Obj} {vs : Array Value} {a0 head : Value} {had : Bool} (o : Own X) (hfr : A'.frames = some X.stack) (I : Inv X [] σ H s)
    (he : s.heap.get? a = some oe) (hd : oe.data = .fields vs) (h0 : vs[0]? = some a0) (h1 : 1 < vs.size) (hn : Nu X H a)
    (h : ∀ s', Inv X [] σ H s' → FlyT X (rawInt X.env.locals) H s'.heap a oe.cls oe.dict → Q () s') :
    wpAny M A' (do let f ← frameOf X.env; let pl ← entryPlaceOf X.env.locals had; let b ← EntryCells.newEntry head f .none (rawInt X.env.locals) .none pl; setField (.ref a) 1 b) Q E s := by
  have hfs : s.heap.FunFrames X.base (X.env :: X.outer) := by have := I.stack; rwa [o.st] at this
  have hmem : ∀ b, b ∈ (X.env :: X.outer).filterMap (·.frame) ↔ b ∈ frs X.stack := fun b => by rw [o.st]; rfl
  have hna : a ∉ frs X.stack := fun z => by
    obtain ⟨_, u, hu, hnf⟩ := hfs.mem ((hmem a).mpr z)
    rw [he] at hu; injection hu with hu; subst hu; exact hnf vs hd
  refine wpAny_bind (wpAny_frameOf_fun (by rw [hfr, o.st]) hfs o.fr fun g1 so => ?_)
  refine wpAny_bind (wpAny_entryPlaceOf fun pl hpl => ?_)
  unfold EntryCells.newEntry newFields
  refine wpAny_bind (wpAny_newObj_type ?_ (hpl.sizeOk5 _ _ _ _ _))
  have g1a : g1.get? a = some oe := (so.2.1 a fun z => hna ((hmem a).mp z)).trans he
  generalize hT : ({ cls := .type "traceback", dict := none, data := .fields ([head, .ref X.env.locals, .none, rawInt X.env.locals, .none] ++ (if pl.isEmpty then List.replicate 6 Value.none else pl)).toArray } : Obj) = ot
  have g2a := Heap.get?_push_of_some (h := g1) ot g1a
  refine wpAny_setField g2a hd h1 ?_
  have neT : g1.objs.size ≠ a := Nat.ne_of_gt (Heap.lt_size g1a)
  have d3 := Obj.data_mapFields hd (·.setIfInBounds 1 (Value.ref g1.objs.size))
  have a3 := Heap.get?_update_self (Obj.mapFields (·.setIfInBounds 1 (Value.ref g1.objs.size))) g2a (Obj.isFreed_of_fields d3)
  have t3 : ((g1.push ot).update a (Obj.mapFields (·.setIfInBounds 1 (Value.ref g1.objs.size)))).get? g1.objs.size = some ot := (Heap.get?_update_other _ _ (Ne.symm neT)).trans (Heap.get?_push_size g1 (by rw [← hT]; rfl))
  have kp : ∀ b u, b ≠ a → g1.get? b = some u → ((g1.push ot).update a (Obj.mapFields (·.setIfInBounds 1 (Value.ref g1.objs.size)))).get? b = some u := fun b u nb e =>
    (Heap.get?_update_other _ _ (Ne.symm nb)).trans (Heap.get?_push_of_some _ e)
  have old : ∀ b u, s.heap.get? b = some u → b ≠ g1.objs.size := fun b u e => Nat.ne_of_lt (by rw [so.1]; exact Heap.lt_size e)
  have nT : Nu X H g1.objs.size := by
    refine ⟨I.hok.fresh (by rw [so.1]; exact Nat.le_refl _), ?_, fun p hp z => old p.1 p.2 (I.pin p (by simpa using hp)).1 z⟩
    exact Heap.get?_none_of_le (by rw [so.1]; exact I.sz)
  have J : Inv X [] σ H { s with heap := (g1.push ot).update a (Obj.mapFields (·.setIfInBounds 1 (Value.ref g1.objs.size))) } := by
    refine I.flown o (fun b => b = a) (fun b u n nf e => kp b u n ((so.2.1 b fun z => nf ((hmem b).mp z)).trans e)) (fun b u n _ e => ?_) (fun b z => ?_)
    · obtain ⟨sl, e1⟩ := so.2.2 b u e
      exact ⟨sl, kp b _ n e1⟩
    · subst z
      exact ⟨hn, fun u e => ⟨vs, by rw [he] at e; cases e; exact hd⟩⟩
  refine h _ J ?_
  · refine ⟨_, _, a0, g1.objs.size, ot, _, a3, Obj.cls_mapFields _ _, ?_, d3, by rw [Array.getElem?_setIfInBounds_ne (by decide)]; exact h0, by simp [h1], neT, t3, by rw [← hT], by simp, hn, nT⟩
    obtain ⟨c, d, dt, sl⟩ := oe
    cases dt <;> rfl

/-  an exception is noted in this frame -/
theorem note_ok {M : Model} {A' : Around} {E : Value → Shared → Prop} {Q : Unit → Shared → Prop} {a : Addr} {cls : Value} {dx : Option Addr} (o : Own X) (hfr : A'.frames = some X.stack) (I : Inv X [] σ H s) (F : Fly X H s.heap a cls dx)
    (h : ∀ s', Inv X [] σ H s' → FlyT X (rawInt X.env.locals) H s'.heap a cls dx → Q () s') : wpAny M A' (noteFrame (.ref a) X.env) Q E s := by
  unfold noteFrame
  simp only [o.fr]
  rcases F with ⟨oe, vs, a0, he, rfl, rfl, hd, h0, h1, hn⟩ | ⟨oe, vs, a0, T, oT, ts, he, rfl, rfl, hd, h0, h1, nT, hT, hdT, h3, hn, hnT⟩ | F
  · refine wpAny_bind (wpAny_field he hd h1 ?_)
    rw [if_neg (by decide)]
    exact entry_laid o hfr I he hd h0 (Array.getElem?_eq_some_iff.mp h1).1 hn h
  · refine wpAny_bind (wpAny_field he hd h1 ?_)
    rw [if_pos (by simp : (Value.ref T != Value.none) = true)]
    refine wpAny_bind (wpAny_field hT hdT h3 ?_)
    rw [if_neg (by simp [rawInt] : ¬ ((Value.none == rawInt X.env.locals) = true))]
    refine wpAny_bind (wpAny_setField hT hdT (Array.getElem?_eq_some_iff.mp h3).1 ?_)
    have ot : ∀ b, b ≠ T → (s.heap.update T (Obj.mapFields (·.setIfInBounds 3 Value.none))).get? b = s.heap.get? b := fun b nb => Heap.get?_update_other _ _ (Ne.symm nb)
    have I' : Inv X [] σ H { s with heap := s.heap.update T (Obj.mapFields (·.setIfInBounds 3 Value.none)) } := by
      refine I.flown o (fun b => b = T) (fun b u n _ e => (ot b n).trans e) (fun b u n _ e => ⟨u.slots, (ot b n).trans e⟩) (fun b z => ?_)
      subst z
      exact ⟨hnT, fun u e => ⟨ts, by rw [hT] at e; cases e; exact hdT⟩⟩
    exact entry_laid o hfr I' ((ot a (Ne.symm nT)).trans he) hd h0 (Array.getElem?_eq_some_iff.mp h1).1 hn h
  · obtain ⟨oe, vs, a0, T, oT, ts, he, hc, hx, hd, h0, h1, nT, hT, hdT, h3, hn, hnT⟩ := id F
    refine wpAny_bind (wpAny_field he hd h1 ?_)
    rw [if_pos (by simp : (Value.ref T != Value.none) = true)]
    refine wpAny_bind (wpAny_field hT hdT h3 ?_)
    rw [if_pos (by simp : (rawInt X.env.locals == rawInt X.env.locals) = true)]
    exact wpAny_pure (h s I F)
/-  its flight mark is written -/
theorem flight_ok {M : Model} {A' : Around} {E : Value → Shared → Prop} {Q : Unit → Shared → Prop} {a : Addr} {cls fl : Value} {dx : Option Addr} {to : Option Addr} (o : Own X) (I : Inv X [] σ H s) (F : FlyT X fl H s.heap a cls dx)
    (h : ∀ s', Inv X [] σ H s' → FlyT X (to.elim .none fun f => rawInt f) H s'.heap a cls dx → Q () s') : wpAny M A' (setFlight (.ref a) to) Q E s := by
  obtain ⟨oe, vs, a0, T, oT, ts, he, rfl, rfl, hd, h0, h1, nT, hT, hdT, h3, hn, hnT⟩ := F
  unfold setFlight
  refine wpAny_bind (wpAny_field he hd h1 ?_)
  rw [if_pos (by simp : (Value.ref T != Value.none) = true)]
  have z3 := (Array.getElem?_eq_some_iff.mp h3).1
  have ot : ∀ b, b ≠ T → (s.heap.update T (Obj.mapFields (·.setIfInBounds 3 (to.elim Value.none fun f => rawInt f)))).get? b = s.heap.get? b := fun b nb => Heap.get?_update_other _ _ (Ne.symm nb)
  have d3 := Obj.data_mapFields hdT (·.setIfInBounds 3 (to.elim Value.none fun f => rawInt f))
  refine wpAny_setField hT hdT z3 (h _ (I.flown o (fun b => b = T) (fun b u n _ e => (ot b n).trans e) (fun b u n _ e => ⟨u.slots, (ot b n).trans e⟩) fun b z => ?_) ?_)
  · subst z
    exact ⟨hnT, fun u e => ⟨ts, by rw [hT] at e; cases e; exact hdT⟩⟩
  · exact ⟨oe, vs, a0, T, _, _, (ot a (Ne.symm nT)).trans he, rfl, rfl, hd, h0, h1, nT, Heap.get?_update_self _ hT (Obj.isFreed_of_fields d3), d3, by simp [z3], hn, hnT⟩
theorem leaving_ok {M : Model} {A' : Around} {E : Value → Shared → Prop} {Q : Unit → Shared → Prop} {a : Addr} {cls : Value} {dx : Option Addr} (o : Own X) (hfr : A'.frames = some X.stack) (I : Inv X [] σ H s) (F : Fly X H s.heap a cls dx)
    (h : ∀ s', Inv X [] σ H s' → FlyT X .none H s'.heap a cls dx → Q () s') : wpAny M A' (leaving X.env (.ref a)) Q E s := by
  unfold leaving
  exact wpAny_bind (note_ok o hfr I F fun s1 I1 F1 => flight_ok (to := none) o I1 F1 h)
/-  own activations (loops) pass it on -/
end

/-  how an exception lies behind a call -/
def CXE (P : Program) (w : World) : CXT := fun outer H s E e s' => ∃ a cls dx H' oe vs a0 T oT ts, e = .ref a ∧ s'.os = s.os ∧ AllBare s'.gens ∧ Un (frs outer) [] H H' s.heap s'.heap ∧ HOk P w H' s'.heap ∧
  s'.heap.get? a = some oe ∧ oe.cls = cls ∧ oe.dict = dx ∧ oe.data = .fields vs ∧ vs[0]? = some a0 ∧ vs[1]? = some (.ref T) ∧ T ≠ a ∧ s'.heap.get? T = some oT ∧ oT.data = .fields ts ∧ ts[3]? = some .none ∧
  H' a = none ∧ s.heap.get? a = none ∧ H' T = none ∧ s.heap.get? T = none ∧ E cls dx H'
theorem own_cxOf {CX : CXT} {P : Program} {w : World} {K : PySem.W.Frag} {mg : Str → Option Value} {base : Heap} {N : List Str} {qual : Str} {sc : Scope} {f : Addr} {cd : Value} {A : Around} {outer : List Env} {s : Shared} {H : Hp} {E : XK} :
    Own (cxOf CX P w K mg base N qual sc f cd A outer s H E) := ⟨rfl, rfl, rfl⟩
theorem PSs.wished {X : Cx} {E : Value → Shared → Prop} {st : List Stmt} {t : TS} (h : PSs (X.wish E) st t) (hE : ∀ e s, E e s → X.xe e s) : PSs X st t := fun pins s σ H D I hw =>
  wpAny_mono (h pins s σ H D (I.wish _) hw) (fun _ _ q => q.unwish) hE
/-  the context of a body that may raise -/
abbrev cxX (P : Program) (w : World) (K : PySem.W.Frag) (mg : Str → Option Value) (base : Heap) (N : List Str) (qual : Str) (sc : Scope) (f : Addr) (cd : Value) (A : Around) (outer : List Env) (s : Shared) (H : Hp) (E : XK) : Cx :=
  (cxOf (CXE P w) P w K mg base N qual sc f cd A outer s H E).wish (XE (cxOf (CXE P w) P w K mg base N qual sc f cd A outer s H E) fun _ => E)
section
variable {P : Program} {w : World} {K : PySem.W.Frag} {mg : Str → Option Value} {base : Heap}
/-  THE RULE for a def that may raise -/
theorem Fun.okX {x qual : Str} {st : Stmt} {f : Addr} {fd : FuncData} {N ps : List Str} {k : Nat} {sp : Sp} (F : Fun K x qual st f fd) (S : FnScope N ps (defScope st)) (len : ∀ vs H Q E, sp vs H Q E → vs.length = ps.length)
    (hbody : ∀ (cdv : Value) (A : Around) (outer : List Env) (s : Shared) (H : Hp) (vs : List V) (Q : VK) (E : XK), Room k (A.deeper (envOfC qual (defScope st) s.heap.objs.size f cdv)) → sp vs H Q E →
      ∃ t, PSs (cxX P w K mg base N qual (defScope st) f cdv A outer s H E) (defBody st) t ∧ t { nx := fun _ H' => Q .non H', rt := Q } (start N vs) H) : FnOk P w K mg base (CXE P w) (k + 1) f fd ps sp := by
  obtain ⟨oc, od, kV, doc, pm, an, cdv, ct, osl, rfl, lk, hcd⟩ := F.ex
  refine fn_of lk hcd S len fun A outer s H vs Q E hr hsp => ?_
  obtain ⟨t, h, q⟩ := hbody cdv A outer s H vs Q E hr hsp
  refine ⟨t, h.wished fun e s' hh66 => ?_, q⟩
  obtain ⟨a, cls, dx, σ, H', he, I, Fl, z⟩ := hh66
  subst he
  refine leaving_ok own_cxOf I.ok.frames I Fl fun s2 I2 F2 => ?_
  obtain ⟨oe, vs, a0, T, oT, ts, he, hc, hx, hd, h0, h1, nT, hT, hdT, h3, hn, hnT⟩ := F2
  exact ⟨a, cls, dx, H', oe, vs, a0, T, oT, ts, rfl, I2.os, I2.bare, I2.base, I2.hok, he, hc, hx, hd, h0, h1, nT, hT, hdT, h3, hn.1, hn.2.1, hnT.1, hnT.2.1, z⟩
end

section
variable {X : Cx} {EE : EEs}
/-  what comes out of a callee -/
theorem xe_of_call {pins : List (Addr × Obj)} {σ : St} {H : Hp} {s s' : Shared} {e : Value} (o : Own X) (I : Inv (X.wish (XE X EE)) pins σ H s) (h : CXE X.prog X.w X.stack H s (EE σ) e s') : XE X EE e s' := by
  obtain ⟨a, cls, dx, H', oe, vs, a0, T, oT, ts, rfl, os, bare, un, hok, he, hc, hx, hd, h0, h1, nT, hT, hdT, h3, n1, n2, n3, n4, q⟩ := h
  have I0 : Inv X pins σ H s := I.unwish
  have I1 : Inv X pins σ H' s' := I0.call' os un hok bare fun b z => absurd z (by simp)
  have nu : ∀ b, H' b = none → s.heap.get? b = none → Nu X H' b := fun b m1 m2 => by
    refine ⟨m1, ?_, fun p hp z => ?_⟩
    · cases q : X.s₀.heap.get? b with
      | none => rfl
      | some u =>
        obtain ⟨u', e⟩ := I0.base.there b u q (by rw [o.ex]; simp)
        rw [m2] at e; cases e
    · have := (I0.pin p (List.mem_append_left _ hp)).1
      rw [z, m2] at this; cases this
  exact ⟨a, cls, dx, σ, H', rfl, I1.nopins, .inr (.inl ⟨oe, vs, a0, T, oT, ts, he, hc, hx, hd, h0, h1, nT, hT, hdT, h3, nu a n1 n2, nu T n3 n4⟩), q⟩
variable {k : Nat} {f C : Addr} {fd : FuncData} {ps : List Str} {sp : Sp} {dvs : List V} {ds : List Value} {x m : Str} {p pos apos : Pos} {e ob : Expr} {es : List Expr} {ta : TE} {t : TA}
theorem run_fnX {pins : List (Addr × Obj)} {σ : St} {H : Hp} {s : Shared} {Q : VK} {us : List Value} {vs : List V} (o : Own X) (F : FnOk X.prog X.w X.K X.mg X.base (CXE X.prog X.w) k f fd ps sp) (hr : Room k X.A) (hb : Binds X.K fd ps ds) (hd : Vals dvs ds)
    (I : Inv (X.wish (XE X EE)) pins σ H s) (r : Vals vs us) (h : sp (vs ++ dvs) H Q (EE σ)) : wpAny (model X.prog X.w) X.A (call (.ref f) us) (EP (X.wish (XE X EE)) pins σ Q) (XE X EE) s := by
  have r2 : Vals (vs ++ dvs) (us ++ ds) := r.append hd
  have hl : (us ++ ds).length = ps.length := r2.length.symm.trans (F.len _ _ _ _ h)
  refine wpAny_call (codeAny_mono (F.run X.A X.stack s H ⟨us, []⟩ (us ++ ds) (vs ++ dvs) Q (EE σ) hr I.unwish.env0 (hb s us I.unwish.kIn hl) r2 h) fun z s' hq => ?_)
  match z, hq with
  | .error e, hq => exact xe_of_call o I hq
  | .ok (.ret u), hq => exact I.after hq
  | .ok .next, hq => exact hq.elim
  | .ok .brk, hq => exact hq.elim
  | .ok .cont, hq => exact hq.elim
def tCallX (sp : Sp) (dvs : List V) (EE : EEs) (t : TA) : TE := fun σ H Q => t σ H fun vs H1 => sp (vs ++ dvs) H1 Q (EE σ)
/-  f(e, ..), f a def that may raise -/
theorem pe_callX (o : Own X) (F : FnOk X.prog X.w X.K X.mg X.base (CXE X.prog X.w) k f fd ps sp) (hr : Room k X.A) (hg : Gl X x) (hm : X.mg x = some (.ref f)) (hk : PySem.W.keepIn X.K (.ref f) = true) (hb : Binds X.K fd ps ds) (hd : Vals dvs ds)
    (ha : PA (X.wish (XE X EE)) (e :: es) t) (hdb : (x == ("__debug__" : Str)) = false := by decide) (he : starEach (e :: es) X.env = (false, eval e X.env) :: starEach es X.env := by rfl) (hpl : (backTo pos (starEach es X.env)).any (·.1) = false := by rfl) :
    PE (X.wish (XE X EE)) (.Call (.Name x p) (e :: es) [] pos) (tCallX sp dvs EE t) := by
  intro pins s σ H Q I h
  refine wpAny_Call_Name_kw (ld_glob I hg hm ?_ hdb)
  refine PySem.W.callWith_K (h₀ := X.base) I.ok.mod.kin hk (thn (ha pos pins s σ H _ I h) fun us s1 hh67 => ?_) he hpl
  obtain ⟨vs, H1, I1, r, q⟩ := hh67
  exact ⟨I1.kIn, run_fnX o F hr hb hd I1 r q⟩
end
end L2

/-! raise C(..), try / except C, try / except C as e -/
namespace L2
open PySem PySem.Spec PyProof.Rows
def mroV : List Value := [.type "ValueError", .type "Exception", .type "BaseException", .type "object"]
/-  an own exception class below ValueError, without __init__ -/
def XCls (K : PySem.W.Frag) (C : Addr) : Prop := PySem.W.excIn K C mroV "ValueError.__new__" = true
theorem XCls.obj {K : PySem.W.Frag} {C : Addr} {h : Heap} (q : XCls K C) (X : K.In h) : ∃ bm N nm qn bs hdct sn sub ab col dd k0 k1 k2 k3 k5,
    h.get? C = some (excClassObj nm qn C N bs bm hdct sn sub ab col dd k0 k1 k2 k3 k5 "ValueError.__new__") ∧ h.Ns N (h.nsMap N) ∧ h.nsMap N "__init__" = none ∧ OwnTail h mroV bm := by
  unfold XCls PySem.W.excIn at q
  split at q
  · rename_i dd cd sl ho
    split at q
    · rename_i C' bm k0 k1 k2 k3 n k5 hm hs
      simp only [Bool.and_eq_true, beq_iff_eq, Bool.not_eq_true'] at q
      obtain ⟨⟨⟨⟨⟨rfl, rfl⟩, hdel⟩, ht⟩, hok⟩, hni⟩ := q
      obtain ⟨nm, bs, mro, ns, qn, hd, sn, sub, ab, col, del⟩ := cd
      obtain ⟨l⟩ := sl
      dsimp only at hm hdel hok hni hs
      subst hm hdel hs
      exact ⟨bm, ns, nm, qn, bs, hd, sn, sub, ab, col, dd, k0, k1, k2, k3, k5, X _ _ ho, .of_isNs (PySem.W.isNs_of_in X hok), PySem.W.nsMap_none_of_in X hok hni, PySem.W.tail_of_in X ht⟩
    · cases q
  · cases q
theorem ObjOk.here {P : Program} {w : World} {H : Hp} {h : Heap} {a : Addr} {o : HO} (x : ObjOk P w H h a o) : ∃ u, h.get? a = some u := by
  cases o with
  | lst xs => obtain ⟨_, _, _, _, e⟩ := x; exact ⟨_, e⟩
  | tup xs => obtain ⟨_, _, _, u, e, _⟩ := x; exact ⟨_, e⟩
  | dK kvs => obtain ⟨_, _, _, _, o, _, _, e, _⟩ := x; exact ⟨_, e⟩
  | dT kvs => obtain ⟨_, _, _, _, o, _, _, e, _⟩ := x; exact ⟨_, e⟩
  | set S n => obtain ⟨o, _, _, _, e, _⟩ := x; exact ⟨_, e⟩
  | ins C dx fs => obtain ⟨_, _, _, e, _⟩ := x; exact ⟨_, e⟩
  | own y => exact x
  | xd fs => obtain ⟨_, ⟨_, _, _, e, _⟩, _⟩ := x; exact ⟨_, e⟩
  | rng lo hi => obtain ⟨_, _, _, e⟩ := x; exact ⟨_, e⟩
  | frz ob u => obtain ⟨e, _⟩ := x; exact ⟨_, e⟩
  | tbl qs => obtain ⟨_, e, _⟩ := x; exact ⟨_, e⟩
  | cel v => obtain ⟨_, ⟨_, e, _⟩, _⟩ := x; exact ⟨_, e⟩
  | met f y => exact ⟨_, x⟩
  | ext φ => exact x.2.1
section
variable {X : Cx} {EE : EEs}
theorem nu_of {pins : List (Addr × Obj)} {σ : St} {H : Hp} {s : Shared} (o : Own X) (I : Inv X pins σ H s) {b : Addr} (m : s.heap.get? b = none) : Nu X H b := by
  refine ⟨?_, ?_, fun p hp z => ?_⟩
  · cases q : H b with
    | none => rfl
    | some u =>
      obtain ⟨v, e⟩ := (I.hok b u q).here
      rw [m] at e; cases e
  · cases q : X.s₀.heap.get? b with
    | none => rfl
    | some u =>
      obtain ⟨u', e⟩ := I.base.there b u q (by rw [o.ex]; simp)
      rw [m] at e; cases e
  · have := (I.pin p (List.mem_append_left _ hp)).1
    rw [z, m] at this; cases this
def tRaise (C : Addr) (EE : EEs) (t : TA) : TS := fun _ σ H => t σ H fun vs H1 => vs.length ≤ sizeLine ∧ EE σ (.ref C) none H1
theorem ps_raise {C : Addr} {x : Str} {np cpos pos : Pos} {e : Expr} {es : List Expr} {t : TA} (o : Own X) (hc : X.calm = true) (q : XCls X.K C) (hg : Gl X x) (hm : X.mg x = some (.ref C)) (ha : PA (X.wish (XE X EE)) (e :: es) t)
    (hdb : (x == ("__debug__" : Str)) = false := by decide) (he : starEach (e :: es) X.env = (false, eval e X.env) :: starEach es X.env := by rfl) (hpl : (backTo cpos (starEach (e :: es) X.env)).any (·.1) = false := by rfl) :
    PS (X.wish (XE X EE)) (.Raise (some (.Call (.Name x np) (e :: es) [] cpos)) none pos) (tRaise C EE t) := by
  intro pins s σ H D I h
  obtain ⟨bm, N, nm, qn, bs, hdct, sn, sub, ab, col, dd, k0, k1, k2, k3, k5, hC, hN, hni, TL⟩ := q.obj I.ok.mod.kin
  refine wpAny_Raise_call_subT (C := C) (N := N) (bm := bm) (nm := nm) (q := qn) (bs := bs) (hdct := hdct) (sn := sn) (sub := sub) (ab := ab) (col := col) (dd := dd) (k0 := k0) (k1 := k1) (k2 := k2) (k3 := k3) (k5 := k5) PySem.F.excBase_ValueError (TL.hasType PySem.F.excBase_ValueError.hasBase) (I.ok.hd hc) hpl hni (ld_glob I hg hm ⟨rfl, ?_⟩ hdb)
  have ha' := ha cpos pins s σ H _ I h
  rw [he] at ha'
  show wpAny (model X.prog X.w) X.A (evalArgs (.ref C) true (backTo cpos (starEach (e :: es) X.env)) []) _ _ s
  rw [he]
  refine PySem.evalArgs_kw (keywords := []) rfl ?_
  refine thn ha' fun us s1 hh68 => ?_
  obtain ⟨vs, H1, I1, r, z, y⟩ := hh68
  refine wpAny_pure ?_
  refine ⟨rfl, by rw [← r.length]; exact z, I1.bk _ _ hC, hN.keeps I1.bk, TL.keeps I1.bk, fun h' a mk => ?_⟩
  obtain ⟨t0, ea, _, _⟩ := mk.there
  have I2 : Inv X pins σ H1 { s1 with heap := h' } := I1.unwish.kept (t' := s1.toks) mk.keeps
  exact ⟨a, .ref C, none, σ, H1, rfl, I2.nopins, .inl ⟨_, _, .ref t0, ea, rfl, rfl, rfl, rfl, rfl, nu_of o I1.unwish mk.new⟩, y⟩

/-! the context of a try's body, of an except's suite -/
abbrev Cx.pnd (X : Cx) (ps : List (Addr × Obj)) : Cx := { X with pn := X.pn ++ ps }
abbrev Cx.held (X : Cx) (a : Addr) (ps : List (Addr × Obj)) : Cx := { X with A := X.A.mark (some (.ref a)), calm := false, xe := fun _ _ => False, pn := X.pn ++ ps }
theorem Cx.Ok.pnd {ps : List (Addr × Obj)} (ok : X.Ok) : (X.pnd ps).Ok :=
  ⟨ok.mod, ok.kind, ok.glob, ok.blt, ok.above, ok.inj, ok.has, ok.cab, ok.hd, ok.frames, ok.stk, ok.exf, ok.bs, ok.bsz, ok.noex, ok.exfs, ok.funs, ok.frf, ok.cab2, ok.hz⟩
theorem Cx.Ok.held {a : Addr} {ps : List (Addr × Obj)} (ok : X.Ok) : (X.held a ps).Ok :=
  ⟨ok.mod, ok.kind, ok.glob, ok.blt, ok.above, ok.inj, ok.has, ok.cab, (fun z => by cases z), ok.frames, ok.stk, ok.exf, ok.bs, ok.bsz, ok.noex, ok.exfs, ok.funs, ok.frf, ok.cab2, ok.hz⟩
theorem Own.pnd {ps : List (Addr × Obj)} (o : Own X) : Own (X.pnd ps) := ⟨o.ex, o.st, o.fr⟩
section
variable {pins ps : List (Addr × Obj)} {σ : St} {H : Hp} {s : Shared}
theorem Inv.pnd (I : Inv X pins σ H s) : Inv (X.pnd pins) [] σ H s :=
  ⟨I.ok.pnd, I.os, I.bare, I.base, I.loc, I.cell, I.free, I.freeC, fun p hp => I.pin p (by simpa using hp), I.hok, I.len⟩
theorem Inv.unpnd {qs : List (Addr × Obj)} (ok : X.Ok) (I : Inv (X.pnd pins) qs σ H s) : Inv X pins σ H s :=
  ⟨ok, I.os, I.bare, I.base, I.loc, I.cell, I.free, I.freeC, fun p hp => I.pin p (List.mem_append_left _ hp), I.hok, I.len⟩
theorem SP.unpnd {qs : List (Addr × Obj)} (ok : X.Ok) {D : Ends} {f : Flow} {s' : Shared} (h : SP (X.pnd pins) qs D f s') : SP X pins D f s' := by
  cases f with
  | next => obtain ⟨σ', H', I, q⟩ := h; exact ⟨σ', H', I.unpnd ok, q⟩
  | brk => obtain ⟨σ', H', I, q⟩ := h; exact ⟨σ', H', I.unpnd ok, q⟩
  | cont => obtain ⟨σ', H', I, q⟩ := h; exact ⟨σ', H', I.unpnd ok, q⟩
  | ret u => obtain ⟨v, σ', H', I, r, q⟩ := h; exact ⟨v, σ', H', I.unpnd ok, r, q⟩
theorem Inv.held {a : Addr} {oe : Obj} (I : Inv (X.pnd pins) [] σ H s) (ok : X.Ok) (he : s.heap.get? a = some oe) (hn : H a = none) {vs : Array Value} (hd : oe.data = .fields vs) : Inv (X.held a (pins ++ [(a, oe)])) [] σ H s := by
  refine ⟨ok.held, I.os, I.bare, I.base, I.loc, I.cell, I.free, I.freeC, fun p hp => ?_, I.hok, I.len⟩
  have hp' : p ∈ X.pn ++ pins ∨ p = (a, oe) := by
    have : p ∈ (X.pn ++ (pins ++ [(a, oe)])) ++ [] := hp
    rw [List.append_nil, ← List.append_assoc] at this
    rcases List.mem_append.mp this with z | z
    · exact .inl z
    · exact .inr (List.mem_singleton.mp z)
  rcases hp' with hp' | rfl
  · exact I.pin p (List.mem_append_left _ hp')
  · refine ⟨he, hn, fun z => ?_, fun z => ?_, fun v z => ?_⟩
    · obtain ⟨m, ⟨u, es, ep, e, d⟩, _⟩ := I.loc
      have z' : a = X.env.locals := z
      rw [z'] at he
      rw [show s.heap.get? X.env.locals = some u from e] at he
      cases he
      rw [d.1] at hd; cases hd
    · obtain ⟨_, u, hu, hnf⟩ := I.funs.mem z
      have hu' : s.heap.get? a = some u := hu
      rw [he] at hu'; cases hu'
      exact hnf vs hd
    · have z' : oe.data = .cell v := z
      rw [hd] at z'; cases z'
theorem Inv.unheld {a : Addr} {oe : Obj} {qs : List (Addr × Obj)} (ok : X.Ok) (I : Inv (X.held a (pins ++ [(a, oe)])) qs σ H s) : Inv X pins σ H s :=
  ⟨ok, I.os, I.bare, I.base, I.loc, I.cell, I.free, I.freeC, fun p hp => I.pin p (by
    show p ∈ (X.pn ++ (pins ++ [(a, oe)])) ++ qs
    rcases List.mem_append.mp hp with z | z
    · exact List.mem_append_left _ (List.mem_append_left _ z)
    · exact List.mem_append_left _ (List.mem_append_right _ (List.mem_append_left _ z))), I.hok, I.len⟩
theorem SP.unheld {a : Addr} {oe : Obj} {qs : List (Addr × Obj)} (ok : X.Ok) {D : Ends} {f : Flow} {s' : Shared} (h : SP (X.held a (pins ++ [(a, oe)])) qs D f s') : SP X pins D f s' := by
  cases f with
  | next => obtain ⟨σ', H', I, q⟩ := h; exact ⟨σ', H', I.unheld ok, q⟩
  | brk => obtain ⟨σ', H', I, q⟩ := h; exact ⟨σ', H', I.unheld ok, q⟩
  | cont => obtain ⟨σ', H', I, q⟩ := h; exact ⟨σ', H', I.unheld ok, q⟩
  | ret u => obtain ⟨v, σ', H', I, r, q⟩ := h; exact ⟨v, σ', H', I.unheld ok, r, q⟩
end
/-  a class that may stand behind except -/
structure XCat (K : PySem.W.Frag) (C' : Addr) : Prop where
  base : PySem.W.mroIn K C' (.type "BaseException") = some true
theorem matches_ok {M : Model} {A' : Around} {E : Value → Shared → Prop} {K : PySem.W.Frag} {s : Shared} {a C C' : Addr} {oe : Obj} {b : Bool} {Q : Bool → Shared → Prop} (KX : K.In s.heap) (he : s.heap.get? a = some oe) (hcls : oe.cls = .ref C)
    (hk : PySem.W.kitCls K (.ref C) (.ref C') = some b) (hb : XCat K C') (hq : Q b s) : wpAny M A' (excMatches (.ref a) (.ref C')) Q E s := by
  obtain ⟨l1, l2, l3⟩ := PySem.W.kit_cls (M := M) KX hk
  have l4 := PySem.W.looks_mroIn (M := M) KX hb.base
  have kk : ∀ b o, s.heap.get? b = some o → s.heap.get? b = some o := fun _ _ e => e
  unfold excMatches isInstance
  refine wpAny_bind (wpAny_bind (l1 _ _ _ s kk ?_))
  refine wpAny_of_eq tc_notTuple ?_
  simp only [Bool.false_eq_true, if_false]
  refine wpAny_bind (wpAny_pure ?_)
  simp only [List.forIn_cons, List.forIn_nil]
  unfold isExcClass
  refine wpAny_bind (wpAny_bind (wpAny_bind (wpAny_bind (l2 _ _ _ s kk ?_))))
  simp only [if_true]
  refine l4 _ _ _ s kk ?_
  simp only [Bool.not_true, Bool.false_eq_true, if_false]
  refine wpAny_pure (wpAny_pure ?_)
  have lt : wpAny M A' (typeOf (.ref a)) (fun v s' => v = oe.cls ∧ s' = s) E s := by
    unfold typeOf
    exact wpAny_bind (wpAny_loadPart he (wpAny_pure ⟨rfl, rfl⟩))
  refine wpAny_bind (wpAny_mono lt (fun v s' z => ?_) fun _ _ x => x)
  obtain ⟨rfl, rfl⟩ := z
  rw [hcls]
  refine wpAny_bind (wpAny_bind (wpAny_bind (l3 _ _ _ s' kk ?_)))
  cases b with
  | true => exact wpAny_pure (wpAny_pure (wpAny_pure hq))
  | false => exact wpAny_pure (wpAny_pure (wpAny_pure hq))
def EEtry (K : PySem.W.Frag) (C' : Addr) (ts : Addr → Value → TS) (D : Ends) : EEs := fun σ cls _ H => ∃ C, cls = .ref C ∧ PySem.W.kitCls K (.ref C) (.ref C') = some true ∧ ∀ a, H a = none → ts a cls D σ H
def tTry (K : PySem.W.Frag) (C' : Addr) (tb : EEs → TS) (ts : Addr → Value → TS) : TS := fun D σ H => tb (EEtry K C' ts D) D σ H
/-  try: .. except C': .. -/
theorem ps_try {C' : Addr} {y : Str} {np hp pos : Pos} {body suite : List Stmt} {b₀ : Stmt} {tb : EEs → TS} {ts : Addr → Value → TS} (o : Own X) (hb : XCat X.K C') (hg : Gl X y) (hm : X.mg y = some (.ref C'))
    (hbody : ∀ (EE : EEs) (ps : List (Addr × Obj)), PSs ((X.pnd ps).wish (XE (X.pnd ps) EE)) body (tb EE)) (hsuite : ∀ (ps : List (Addr × Obj)) (a : Addr) (cls : Value), PSs (X.held a ps) (b₀ :: suite) (ts a cls))
    (hdb : (y == ("__debug__" : Str)) = false := by decide) : PS X (.Try body [.ExceptHandler (some (.Name y np)) none (b₀ :: suite) hp] [] [] pos) (tTry X.K C' tb ts) := by
  intro pins s σ H D I h
  have ok := I.ok
  refine wpAny_Try_except (wpAny_mono (hbody (EEtry X.K C' ts D) pins [] s σ H D (I.pnd.wish _) h) (fun f s1 hq => ?_) fun e s1 hx => ?_)
  · have hq' : SP X pins D f s1 := (SP.unwish hq).unpnd ok
    cases f with
    | next => exact wpAny_execs_nil hq'
    | brk => exact hq'
    | cont => exact hq'
    | ret u => exact hq'
  · obtain ⟨a, cls, dx, σ1, H1, rfl, I1, F1, C, rfl, hk, q⟩ := hx
    refine note_ok (X := X.pnd pins) o.pnd ok.frames I1 F1 fun s2 I2 F2 => ?_
    refine flight_ok (X := X.pnd pins) (to := none) o.pnd I2 F2 fun s3 I3 F3 => ?_
    refine wpAny_handleBy_cons (codeAny_handlers_test ?_) (by intro z; cases z)
    obtain ⟨oe, vs, a0, T, oT, ts', he, hc, hx, hd, h0, h1, nT, hT, hdT, h3, hn, hnT⟩ := id F3
    have J3 := Inv.held I3 ok he hn.1 hd
    refine ld_glob J3 hg hm ?_ hdb
    refine matches_ok (K := X.K) I3.kIn he hc hk hb ?_
    refine codeAny_handlers_suite ?_
    refine flight_ok (X := X.pnd pins) (to := none) o.pnd I3 F3 fun s4 I4 F4 => ?_
    obtain ⟨oe', vs', a0', T', oT', ts'', he', hc', hx', hd', h0', h1', nT', hT', hdT', h3', hn', hnT'⟩ := id F4
    have J4 := Inv.held I4 ok he' hn'.1 hd'
    refine wpAny_mono (hsuite (pins ++ [(a, oe')]) a (.ref C) [] s4 σ1 H1 D J4 (q a hn'.1)) (fun f s5 hq => ?_) fun _ _ z => z.elim
    exact hq.unheld ok
/-  a try whose body never raises -/
end
theorem passF {P : Program} {w : World} {X : Cx} : Passes (CXE P w) X E0 := fun _ _ _ _ _ _ _ h => by
  obtain ⟨_, _, _, _, _, _, _, _, _, _, _, _, _, _, _, _, _, _, _, _, _, _, _, _, _, _, _, _, _, z⟩ := h
  exact z.elim
end L2

/-! enumerate(a tuple) -/
namespace L2
open PySem PySem.Spec PyProof.Rows
section
variable {prog : Program} {w : World} {A : Around} {E : Value → Shared → Prop} {s : Shared}
theorem nx_tup {j t : Addr} {i : Nat} {its : Array Value} {x : Value} {Q : Value → Shared → Prop} (hj : s.heap.IsTupleIter j t i) (ht : s.heap.IsTuple t its) (hx : its[i]? = some x)
    (q : ∀ h', h'.IsTupleIter j t (i + 1) → Heap.SameBut j s.heap h' → Q x { s with heap := h' }) : wpAny (model prog w) A (Builtin.SmallTypes.nextOf (.ref j)) Q E s := by
  obtain ⟨oj, ej, cj, dj⟩ := id hj
  obtain ⟨ot, et, _, nt, dt⟩ := ht
  unfold Builtin.SmallTypes.nextOf
  refine wpAny_bind (wpAny_callSpecial?_slot (name := Str.ofString "__next__") hj.typeIs F.slot_tuple_iterator_next (wpAny_call_entry F.slot_tuple_iterator_next hj.typeIs F.entry_tuple_iterator_next ?_ (F.args_tuple_iterator_next_1 _)))
  show wpAny _ _ (field (.ref j) 0 >>= _) _ _ s
  refine wpAny_bind (wpAny_field ej dj (x := .ref t) rfl ?_)
  show wpAny _ _ (if (Value.ref t == Value.none) = true then _ else _) _ _ s; rw [if_neg (show ¬ ((Value.ref t == Value.none) = true) from Bool.false_ne_true)]
  show wpAny _ _ (field (.ref j) 1 >>= _) _ _ s
  refine wpAny_bind (wpAny_field ej dj (x := .int i 0) rfl ?_)
  show wpAny _ _ (seqItems? (.ref t) >>= _) _ _ s; refine wpAny_bind (wpAny_seqItems et dt ?_)
  simp only [Int.toNat_natCast, hx]
  refine wpAny_bind (wpAny_setField ej dj (by simp) (wpAny_pure ⟨x, rfl, wpAny_pure (q _ ?_ (Heap.SameBut.update ..))⟩))
  exact ⟨_, Heap.get?_update_self _ ej (Obj.isFreed_of_fields (Obj.data_mapFields dj _)), (Obj.cls_mapFields ..).trans cj, by rw [Obj.data_mapFields dj]; simp [rawInt]⟩
theorem nx_tupEnd {j t : Addr} {i : Nat} {its : Array Value} {Q : Value → Shared → Prop} (hh : A.handled = none) (hj : s.heap.IsTupleIter j t i) (ht : s.heap.IsTuple t its) (hx : its[i]? = none)
    (q : ∀ h' e, Heap.ExtBut j s.heap h' → (∃ o, h'.get? e = some o ∧ o.cls = .type "StopIteration") → E (.ref e) { s with heap := h' }) : wpAny (model prog w) A (Builtin.SmallTypes.nextOf (.ref j)) Q E s := by
  obtain ⟨oj, ej, cj, dj⟩ := id hj
  obtain ⟨ot, et, _, nt, dt⟩ := ht
  unfold Builtin.SmallTypes.nextOf
  refine wpAny_bind (wpAny_callSpecial?_slot (name := Str.ofString "__next__") hj.typeIs F.slot_tuple_iterator_next (wpAny_call_entry F.slot_tuple_iterator_next hj.typeIs F.entry_tuple_iterator_next ?_ (F.args_tuple_iterator_next_1 _)))
  show wpAny _ _ (field (.ref j) 0 >>= _) _ _ s
  refine wpAny_bind (wpAny_field ej dj (x := .ref t) rfl ?_)
  show wpAny _ _ (if (Value.ref t == Value.none) = true then _ else _) _ _ s; rw [if_neg (show ¬ ((Value.ref t == Value.none) = true) from Bool.false_ne_true)]
  show wpAny _ _ (field (.ref j) 1 >>= _) _ _ s
  refine wpAny_bind (wpAny_field ej dj (x := .int i 0) rfl ?_)
  show wpAny _ _ (seqItems? (.ref t) >>= _) _ _ s; refine wpAny_bind (wpAny_seqItems et dt ?_)
  simp only [Int.toNat_natCast, hx]
  refine wpAny_bind (wpAny_rule (wpAny_bind (wpAny_setField ej dj (by simp) ?_)))
  show wpAny _ _ (newExc (.type "StopIteration") [] >>= _) _ _ _; refine wpAny_bind ?_
  simp only [newExc, newTuple]; refine wpAny_bind (wpAny_newObj_type ?_ (by size_fits))
  refine wpAny_bind (m := firstArgMember _ _) (wpAny_of_eq (a := Value.none) (by first | rfl | (simp only [firstArgMember]; rfl)) ?_); refine wpAny_newObj_type ?_ (by size_fits)
  simp only [raiseNew]
  refine wpAny_bind (wpAny_handled ?_); first | rw [show A.in1.handled = none from hh] | rw [hh]
  refine wpAny_bind (wpAny_pure (wpAny_throw ?_))
  exact q _ _ (((Heap.SameBut.update ..).extBut.push _).push _) ⟨_, Heap.get?_push_size _ rfl, rfl⟩
theorem draws_tup (hh : A.handled = none) (j t : Addr) (hne : t ≠ j) (its : Array Value) : Draws prog w A j [j, t] its.size (fun i v => its[i]? = some v) (fun i h => h.IsTupleIter j t i ∧ h.IsTuple t its) where
  live := fun _ _ st => let ⟨o, ho, _⟩ := st.1; ⟨o, ho⟩
  frame := fun _ _ _ ⟨⟨o, e, r⟩, o2, e2, r2⟩ hk => ⟨⟨o, hk j (by simp) o e, r⟩, o2, hk t (by simp) o2 e2, r2⟩
  item := fun i s Q E hi st q => by
    refine nx_tup st.1 st.2 (x := its[i]) (by simp [hi]) fun h' hj' hs' => q _ h' s.toks (by simp [hi]) ⟨hj', ?_⟩ hs'
    obtain ⟨o2, e2, r2⟩ := st.2
    exact ⟨o2, (hs'.2 t hne).trans e2, r2⟩
  done := fun s Q E st q => nx_tupEnd hh st.1 st.2 (by simp) q
end
set_option maxHeartbeats 8000000 in
theorem enum_newT (l : Addr) (its : Array Value) (n : Nat) (dct : Option Addr) (sl : Array (Option Value)) :
    Meets (Builtin.«enumerate.__new__» ⟨[.type "enumerate", .ref l], []⟩) (fun _ R s => s.heap.get? l = some { cls := .type "tuple", dict := dct, data := .seq its n, slots := sl } ∧
      R (.ok (.ret (.ref (s.heap.push { cls := .type "tuple_iterator", data := .fields #[.ref l, .int 0 0] }).objs.size)))
        { s with heap := (s.heap.push { cls := .type "tuple_iterator", data := .fields #[.ref l, .int 0 0] }).push { cls := .type "enumerate", data := .fields #[.none, .bool false, .ref s.heap.objs.size, rawInt 0, .none, .none] } }) :=
  .of_wp fun prog w A R s h => by
    obtain ⟨hp, g, d, tk, os⟩ := s; obtain ⟨el, h⟩ := h
    have hsub := sub_enumerate
    have hL : Heap.IsTuple (Shared.heap ⟨hp, g, d, tk, os⟩) l its := ⟨_, el, rfl, n, rfl⟩
    wp_walk using AutoSeq1.wpAny_loadPart' el
    refine wpAny_stack_any fun st => wpAny_pure ?_
    split
    · rename_i c _ _ _ _ _
      cases (c == Value.type "enumerate") <;> (wp_walk using AutoSeq1.wpAny_loadPart' el, wpAny_pyIter_tuple hL; exact ⟨_, rfl, h⟩)
    · wp_walk using AutoSeq1.wpAny_loadPart' el, wpAny_pyIter_tuple hL; exact ⟨_, rfl, h⟩
section
variable {prog : Program} {w : World} {A : Around} {E : Value → Shared → Prop} {s : Shared}
theorem call_enumT {l : Addr} {its : Array Value} {Q : Value → Shared → Prop} (hL : s.heap.IsTuple l its)
    (q : ∀ h', IsEnum h' (s.heap.objs.size + 1) s.heap.objs.size 0 .none → h'.IsTupleIter s.heap.objs.size l 0 → (∀ b o, s.heap.get? b = some o → h'.get? b = some o) → Q (.ref (s.heap.objs.size + 1)) { s with heap := h' }) :
    wpAny (model prog w) A (call (.type "enumerate") [.ref l]) Q E s := by
  obtain ⟨⟨c, dct, dt, sl⟩, el, hc, n, hd⟩ := hL
  cases (show c = .type "tuple" from hc)
  cases (show dt = .seq its n from hd)
  refine callType_new F.called_enumerate (by decide) (F.typeCall_enumerate_1 _) (F.newCall_enumerate_1 _) (fun obj => F.args_object_init_2 obj _) F.entry_enumerate_new (enum_newT l its n dct sl) ⟨el, ?_⟩
  generalize hO : ({ cls := .type "tuple_iterator", data := .fields #[.ref l, .int 0 0] } : Obj) = oi
  have hz : (s.heap.push oi).objs.size = s.heap.objs.size + 1 := Heap.size_push ..
  have f0 : oi.isFreed = false := by rw [← hO]; rfl
  show _ ∧ _
  rw [hz]
  have he : IsEnum ((s.heap.push oi).push { cls := .type "enumerate", data := .fields #[.none, .bool false, .ref s.heap.objs.size, rawInt 0, .none, .none] }) (s.heap.objs.size + 1) s.heap.objs.size 0 .none := by
    have e := Heap.get?_push_size (s.heap.push oi) (o := { cls := .type "enumerate", data := .fields #[.none, .bool false, .ref s.heap.objs.size, rawInt 0, .none, .none] }) rfl
    rw [hz] at e; exact e
  refine ⟨⟨_, he, rfl⟩, q _ he ⟨oi, Heap.get?_push_of_some _ (Heap.get?_push_size _ f0), by rw [← hO], by rw [← hO]; rfl⟩ fun b o x => Heap.get?_push_of_some _ (Heap.get?_push_of_some _ x)⟩
theorem enumEnd {e j t : Addr} {i : Nat} {k : Int} {its : Array Value} {old : Value} {Q : Option Value → Shared → Prop} (hh : A.handled = none) (he : IsEnum s.heap e j k old) (hj : s.heap.IsTupleIter j t i) (ht : s.heap.IsTuple t its) (hx : its[i]? = none)
    (q : ∀ h', Heap.ExtBut j s.heap h' → Q none { s with heap := h' }) : wpAny (model prog w) A (pyNext (.ref e)) Q E s := by
  have hT : s.TypeIs (.ref e) "enumerate" := ⟨_, he, rfl⟩
  unfold pyNext
  refine wpAny_bind (wpAny_attempt (wpAny_callSpecial?_slot (name := Str.ofString "__next__") hT F.slot_enumerate_next (wpAny_call_entry F.slot_enumerate_next hT F.entry_enumerate_next ?_ (F.args_enumerate_next_1 _))))
  show wpAny _ _ (field (.ref e) 2 >>= _) _ _ _; refine wpAny_bind (wpAny_field he rfl (x := .ref j) rfl ?_)
  refine wpAny_bind (nx_tupEnd hh hj ht hx fun h' x eb hh69 => ?_)
  obtain ⟨o, ho, hc⟩ := hh69
  refine wpAny_bind (wpAny_isInstance (T := "StopIteration") (b := true) ⟨o, ho, hc⟩ isSubtype_stop ?_); exact wpAny_pure (q _ eb)
end
/-  enumerate of the tuple at a -/
def IteT (K : PySem.W.Frag) (a : Addr) : It :=
  ⟨fun i H => ∃ xs x, SqT K H a xs ∧ xs[i]? = some x, fun i H v H' => ∃ T x, v = .ref T ∧ H T = none ∧ H' = upd H T (.tup [.int i, x]) ∧ ∀ xs, SqT K H a xs → xs[i]? = some x, fun i H => ∃ xs, SqT K H a xs ∧ xs.length ≤ i⟩
theorem turn_enumT {P : Program} {w : World} {K : PySem.W.Frag} {es : List Expr} {k : Nat} {pos : Pos} (a e it : Addr) (hne : e ≠ it) : Turn P w K (.Tuple es k pos) (IteT K a) [e, it] e (fun i h => (∃ old, IsEnum h e it (i : Nat) old) ∧ h.IsTupleIter it a i) where
  mem := by simp
  obj := fun i h st b hb => by
    obtain ⟨⟨old, he⟩, ⟨o, e1, c, d⟩⟩ := st
    rcases List.mem_cons.mp hb with z | z
    · subst z
      exact ⟨_, he, fun v z => by cases z⟩
    · rw [List.mem_singleton.mp z]
      exact ⟨o, e1, fun v z => by rw [d] at z; cases z⟩
  keep := fun i h h' st kk => by
    obtain ⟨⟨old, he⟩, ⟨o, e1, r⟩⟩ := st
    exact ⟨⟨old, kk e (by simp) _ he⟩, ⟨o, kk it (by simp) o e1, r⟩⟩
  item := by
    intro X hP hw hK hc i pins s σ H E I hf st hg
    subst hP hw hK
    obtain ⟨xs, x, hq, hx⟩ := hg
    obtain ⟨its, rv, p, hz⟩ := I.tuple hq
    obtain ⟨u, hu, ru⟩ := rv.get hx
    obtain ⟨⟨old, he⟩, hit⟩ := st
    have he' := Heap.lt_size he
    have hi' : it < s.heap.objs.size := by obtain ⟨o, q, _⟩ := hit; exact Heap.lt_size q
    have p' : s.heap.IsTuple a its.toArray := p
    have hai : a ≠ it := fun z => by
      obtain ⟨o, e1, c, d⟩ := hit
      obtain ⟨o2, e2, c2, _⟩ := p'
      rw [z, e1] at e2; cases e2; rw [c] at c2; injection c2 with c2; exact absurd c2 (by decide)
    have hae : e ≠ a := fun z => by
      obtain ⟨o2, e2, c2, _⟩ := p'
      have he2 : s.heap.get? e = _ := he
      rw [z, e2] at he2; cases he2; injection c2 with c2; exact absurd c2 (by decide)
    have hlt : i < its.toArray.size := by simpa using (List.getElem?_eq_some_iff.mp hu).1
    refine wpAny_pyNext_enum_itemD (draws_tup (A := X.A.in1) (I.ok.hd hc) it a hai its.toArray) he ⟨hit, p'⟩ hlt hne (by simp [hne, hae]) fun x2 h' tk px heo st' hT hsz hk => ?_
    have ex : x2 = u := by
      have : its.toArray[i]? = some u := by simpa using hu
      rw [this] at px; cases px; rfl
    subst ex
    refine ⟨_, rfl, wpAny_letOwnedTupleGo_enum (s := { s with heap := h', toks := tk + 1 }) heo fun h2 he2 hs2 => ?_⟩
    have hT2 : h2.get? s.heap.objs.size = some { cls := .type "tuple", data := .seq #[.int i tk, x2] } := (hs2.2 _ (Nat.ne_of_gt he')).trans hT
    have I2 : Inv X pins σ (upd H s.heap.objs.size (.tup [.int i, x])) { s with heap := h2, toks := tk + 1 } := by
      refine I.turnLaid (ch := [e, it]) (fun b o hb q => ?_) (Nat.le_refl _) ⟨by simp [sizeLine_eq], [.int i tk, x2], .cons ⟨_, rfl⟩ (.cons ru .nil), ⟨_, hT2, rfl, _, rfl⟩⟩ (fun b hb => (hf b hb).1) (fun b hb => ?_) fun b hb => ?_
      · have b1 : b ≠ e := fun z => hb (by simp [z])
        have b2 : b ≠ it := fun z => hb (by simp [z])
        exact (hs2.2 b b1).trans (hk b o b1 b2 q)
      · rcases List.mem_cons.mp hb with z | z
        · rw [z]; exact he'
        · rw [List.mem_singleton.mp z]; exact hi'
      · obtain ⟨f0, f1, f2, f3, f4, f5⟩ := hf b hb
        exact ⟨f3, f1, f4, f5⟩
    refine ⟨.ref s.heap.objs.size, _, I2, rfl, ⟨_, x, rfl, I.hok.fresh (Nat.le_refl _), rfl, fun ys hy => by rw [I.tuple_inj hy hq]; exact hx⟩, ⟨⟨x2, by simpa using he2⟩, ?_⟩, fun b hb => ?_⟩
    · obtain ⟨⟨o, e1, r⟩, _⟩ := st'
      exact ⟨o, (hs2.2 it (Ne.symm hne)).trans e1, r⟩
    have hb' : b ≠ s.heap.objs.size := by
      rcases List.mem_cons.mp hb with z | z
      · rw [z]; exact Nat.ne_of_lt he'
      · rw [List.mem_singleton.mp z]; exact Nat.ne_of_lt hi'
    rw [upd_ne hb']
    exact (hf b hb).1
  done := by
    intro X hP hw hK hc i pins s σ H E I hf st hg
    subst hP hw hK
    obtain ⟨xs, hq, hx⟩ := hg
    obtain ⟨its, rv, p, hz⟩ := I.tuple hq
    obtain ⟨⟨old, he⟩, hit⟩ := st
    obtain ⟨f0, f1, f2, f3, f4, f5⟩ := hf it (by simp)
    have hl := rv.length
    exact enumEnd (I.ok.hd hc) he hit p (by simp; (first | lia | omega)) fun h' eb => ⟨rfl, I.turned (t' := s.toks) (fun b o hb e => eb b o hb e) f0 f1 f3 f4 f5⟩
  self := fun _ _ _ _ _ st h => by
    obtain ⟨⟨old, he⟩, _⟩ := st
    exact wpAny_pyIter_enum he h
section
variable {X : Cx} {es : List Expr} {k : Nat} {tp : Pos}
def iEnumT (K : PySem.W.Frag) (ta : TA) : TI := fun σ H R => ta σ H fun vs H1 => ∃ a, vs = [.ref a] ∧ (∃ xs, SqT K H1 a xs) ∧ R (IteT K a) H1
theorem pi_enumT {l : Expr} {ta : TA} {p pos : Pos} (hg : Gl X "enumerate") (hm : X.mg "enumerate" = none) (ha : PA X [l] ta) (hs : starEach [l] X.env = [(false, eval l X.env)] := by rfl) : PI X (.Tuple es k tp) (.Call (.Name "enumerate" p) [l] [] pos) (iEnumT X.K ta) := by
  intro pins s σ H R I h
  refine Call_ (ld_blt I hg hm bt_enumerate (PyProof.Rows.callWith_type1 (thn (ha pos pins s σ H _ I h) fun us s1 hh70 => ?_) hs rfl))
  obtain ⟨vs, H1, I1, r1, q1⟩ := hh70
  obtain ⟨a, e, ⟨xs, hq⟩, q⟩ := q1
  subst e
  obtain ⟨u, rfl, ru⟩ := Vals.one r1
  cases ru
  obtain ⟨its, rv, pl, hz⟩ := I1.tuple hq
  refine call_enumT (show s1.heap.IsTuple a its.toArray from pl) fun h' he hi hk => wpAny_pyIter_enum (s := { s1 with heap := h' }) he ?_
  refine ⟨s1.heap.objs.size + 1, [s1.heap.objs.size + 1, s1.heap.objs.size], _, _, H1, rfl, I1.kept (t' := s1.toks) hk, turn_enumT a _ _ (Nat.succ_ne_self _), ⟨⟨.none, by simpa using he⟩, hi⟩, fun b hb => ?_, q⟩
  rcases List.mem_cons.mp hb with z | z
  · rw [z]; exact I1.fpOk (Nat.le_succ _) (I1.hok.fresh (Nat.le_succ _))
  · rw [List.mem_singleton.mp z]; exact I1.fpOk (Nat.le_refl _) (I1.hok.fresh (Nat.le_refl _))
theorem forAt_enumT {K : PySem.W.Frag} {l : Addr} {xs : List V} {g : TG} {tb : TS} {D : Ends} {σ : St} {H : Hp} (Pv : Nat → St → Hp → Prop) (h0 : Pv 0 σ H) (hl : ∀ i σ H, i ≤ xs.length → Pv i σ H → SqT K H l xs)
    (hs : ∀ i x σ H T, xs[i]? = some x → Pv i σ H → H T = none → g (.ref T) σ (upd H T (.tup [.int i, x])) fun σ2 H2 => tb { D with nx := Pv (i + 1), ct := Pv (i + 1), bk := D.nx } σ2 H2) (hd : ∀ σ H, Pv xs.length σ H → D.nx σ H) : ForAt (IteT K l) g tb D σ H := by
  unfold ForAt
  refine ⟨fun i m σ H => m = xs.length - i ∧ i ≤ xs.length ∧ Pv i σ H, ⟨xs.length, by simp, Nat.zero_le _, h0⟩, ?_⟩
  rintro i m σ H ⟨rfl, hi, p⟩
  have hq := hl i σ H hi p
  by_cases hlt : i < xs.length
  · have hx : xs[i]? = some xs[i] := List.getElem?_eq_getElem hlt
    refine .inr ⟨⟨xs, xs[i], hq, hx⟩, Pv (i + 1), fun σ' H' p' => ⟨xs.length - (i + 1), by (first | lia | omega), rfl, hlt, p'⟩, fun v H' y => ?_⟩
    obtain ⟨T, x, rfl, hT, rfl, hx'⟩ := y
    have := hx' xs hq
    exact hs i x σ H T this p hT
  · have e : i = xs.length := by (first | lia | omega)
    subst e
    exact .inl ⟨⟨xs, hq, Nat.le_refl _⟩, hd σ H p⟩
theorem forAt_enumL {K : PySem.W.Frag} {l : Addr} {xs : List V} {g : TG} {tb : TS} {D : Ends} {σ : St} {H : Hp} (Pv : Nat → St → Hp → Prop) (h0 : Pv 0 σ H) (hl : ∀ i σ H, i ≤ xs.length → Pv i σ H → SqL K H l xs)
    (hs : ∀ i x σ H T, xs[i]? = some x → Pv i σ H → H T = none → g (.ref T) σ (upd H T (.tup [.int i, x])) fun σ2 H2 => tb { D with nx := Pv (i + 1), ct := Pv (i + 1), bk := D.nx } σ2 H2) (hd : ∀ σ H, Pv xs.length σ H → D.nx σ H) : ForAt (Ite K l) g tb D σ H := by
  unfold ForAt
  refine ⟨fun i m σ H => m = xs.length - i ∧ i ≤ xs.length ∧ Pv i σ H, ⟨xs.length, by simp, Nat.zero_le _, h0⟩, ?_⟩
  rintro i m σ H ⟨rfl, hi, p⟩
  have hq := hl i σ H hi p
  by_cases hlt : i < xs.length
  · have hx : xs[i]? = some xs[i] := List.getElem?_eq_getElem hlt
    refine .inr ⟨⟨xs, xs[i], hq, hx⟩, Pv (i + 1), fun σ' H' p' => ⟨xs.length - (i + 1), by (first | lia | omega), rfl, hlt, p'⟩, fun v H' y => ?_⟩
    obtain ⟨T, x, rfl, hT, rfl, hx'⟩ := y
    have := hx' xs hq
    exact hs i x σ H T this p hT
  · have e : i = xs.length := by (first | lia | omega)
    subst e
    exact .inl ⟨⟨xs, hq, Nat.le_refl _⟩, hd σ H p⟩
end
end L2

/-! t + u of any tuples; min of three ints -/
namespace L2
open PySem PySem.Spec PyProof.Rows
section
variable {X : Cx}
def rCatE (K : PySem.W.Frag) : R2 := fun x y H Q => ∃ a b xs ys, x = .ref a ∧ y = .ref b ∧ SqT K H a xs ∧ SqT K H b ys ∧ xs.length + ys.length ≤ sizeLine ∧
  (xs = [] → Q (.ref b) H) ∧ (xs ≠ [] → ys = [] → Q (.ref a) H) ∧ (xs ≠ [] → ys ≠ [] → ∀ p, H p = none → Q (.ref p) (upd H p (.tup (xs ++ ys))))
theorem op_catE : OpR X (binaryOp .Add) (rCatE X.K) := by
  intro pins s σ H x y v u Q I rx ry h
  obtain ⟨a, b, xs, ys, rfl, rfl, ha, hb, hz, q0, q1, q2⟩ := h
  by_cases hx : xs = []
  · cases rx
    cases ry
    obtain ⟨its, r1, p1, _⟩ := I.tuple ha
    obtain ⟨its2, r2, p2, _⟩ := I.tuple hb
    have e : its = [] := r1.nil_iff.mpr hx
    obtain ⟨⟨c1, d1, t1, l1⟩, e1, k1, n1, z1⟩ := id p1
    obtain ⟨⟨c2, d2, t2, l2⟩, e2, k2, n2, z2⟩ := id p2
    cases (show c1 = .type "tuple" from k1)
    cases (show c2 = .type "tuple" from k2)
    cases (show t1 = .seq its.toArray n1 from z1)
    cases (show t2 = .seq its2.toArray n2 from z2)
    exact concat_meets ⟨_, e1, rfl⟩ ⟨_, e2, rfl⟩ noFill_tuple_add seq_tuple_add PySem.F.slot_tuple_add PySem.F.entry_tuple_add (PySem.F.args_tuple_add_2 _ _) (tuple_addW0 a b its.toArray its2.toArray n1 n2 d1 d2 l1 l2 (by simp [e])) ⟨e1, e2, ⟨.ref b, H, I, rfl, q0 hx⟩⟩
  · exact op_catT pins s σ H _ _ v u Q I rx ry ⟨a, b, xs, ys, rfl, rfl, ha, hb, hx, hz, q1 hx, q2 hx⟩
theorem c_min3 (hc : X.calm = true) : CallR X (.builtin "min") (fun xs H Q => ∃ i j k, xs = [.int i, .int j, .int k] ∧ Q (.int (min i (min j k))) H) := by
  intro pins s σ H xs us Q I r h
  obtain ⟨i, j, k, rfl, q⟩ := h
  cases r with | cons r1 r => cases r with | cons r2 r => cases r with | cons r3 r =>
  cases r
  obtain ⟨t1, rfl⟩ := r1
  obtain ⟨t2, rfl⟩ := r2
  obtain ⟨t3, rfl⟩ := r3
  refine min_three_ints (I.ok.hd hc) fun h' tk kk => ⟨.int (min i (min j k)), H, I.kept kk, ?_, q⟩
  by_cases h1 : j < i
  · rw [if_pos h1]
    by_cases h2 : k < j
    · rw [if_pos h2, show min i (min j k) = k by (first | lia | omega)]; exact ⟨_, rfl⟩
    · rw [if_neg h2, show min i (min j k) = j by (first | lia | omega)]; exact ⟨_, rfl⟩
  · rw [if_neg h1]
    by_cases h2 : k < i
    · rw [if_pos h2, show min i (min j k) = k by (first | lia | omega)]; exact ⟨_, rfl⟩
    · rw [if_neg h2, show min i (min j k) = i by (first | lia | omega)]; exact ⟨_, rfl⟩
end
end L2

/-! the same rules with the fragment by its name: smaller terms -/
namespace L2
open PySem PySem.Spec PyProof.Rows
section
variable {X : Cx} {K : PySem.W.Frag}
theorem lenqK (e : X.K = K) : CallR X (.builtin "len") (fun xs H Q => ∃ p ys, xs = [.ref p] ∧ (SqL K H p ys ∨ SqT K H p ys) ∧ Q (.int ys.length) H) := e ▸ call_len_seq
theorem fldK {e : Expr} {f : Str} {pos : Pos} {ta : TE} (q : X.K = K) (he : PE X e ta) (hb : attributeBase e f X.env (eval e X.env) = eval e X.env) : PE X (.Attribute e f pos) (tFld K ta f) := q ▸ pe_fld he hb
theorem sl_tupK (e : X.K = K) : SlR X (rSlT K) := e ▸ sl_tup
theorem set_fldK {o value : Expr} {f : Str} {pos pos' : Pos} {ta tv : TE} (q : X.K = K) (ha : PE X o ta) (hv : PE X value tv) (hs : swapsWith value (some (.Attribute o f pos')) pos.line X.env = pure false) : PS X (.Assign [.Attribute o f pos'] value pos) (sFld K ta tv f) := q ▸ ps_fld ha hv hs
theorem it_listK {tg l : Expr} {tl : TE} (q : X.K = K) (hl : PE X l tl) : PI X tg l (iList K tl) := q ▸ pi_list hl
theorem it_tupK {tg l : Expr} {tl : TE} (q : X.K = K) (hl : PE X l tl) : PI X tg l (iTup K tl) := q ▸ pi_tup hl
theorem tuple_ofK (e : X.K = K) : CallR X (.type "tuple") (fun xs H Q => ∃ p ys, xs = [.ref p] ∧ ((SqL K H p ys ∧ ∀ l, H l = none → Q (.ref l) (upd H l (.tup ys))) ∨ (SqT K H p ys ∧ Q (.ref p) H))) := e ▸ call_tuple_of
theorem list_ofK (e : X.K = K) : CallR X (.type "list") (fun xs H Q => ∃ p ys, xs = [.ref p] ∧ (SqL K H p ys ∨ SqT K H p ys) ∧ ∀ l, H l = none → Q (.ref l) (upd H l (.lst ys))) := e ▸ call_list_of
theorem catEK (e : X.K = K) : OpR X (binaryOp .Add) (rCatE K) := e ▸ op_catE
theorem allBK (e : X.K = K) (hc : X.calm = true) : CallR X (.builtin "all") (rAllB K fun bs => bs.all id) := e ▸ call_allB hc
end
end L2

namespace K41
open PySem PySem.Spec PyProof.Rows L2
/-! the text by places -/
def top (i : Nat) : Stmt := PySem.Challenge.pw_oneroom_k41_first_fault.main.body.getD i (.Pass ⟨0, 0, 0, 0⟩)
abbrev s_Row_init : Stmt := inClass (top 5) 0
abbrev s_Row_covers : Stmt := inClass (top 5) 1
abbrev s_Row_covered : Stmt := inClass (top 5) 2
abbrev s_Take_init : Stmt := inClass (top 6) 0
abbrev s_Take_stays : Stmt := inClass (top 6) 1
abbrev s_Take_reads : Stmt := inClass (top 6) 2
abbrev s_Take_writes : Stmt := inClass (top 6) 3
abbrev s_Take_told : Stmt := inClass (top 6) 8
abbrev s_Put_init : Stmt := inClass (top 7) 0
abbrev s_Put_reads : Stmt := inClass (top 7) 1
abbrev s_Put_writes : Stmt := inClass (top 7) 2
abbrev s_Put_told : Stmt := inClass (top 7) 6
abbrev s_row_of : Stmt := top 8
abbrev s_tells_take : Stmt := top 9
abbrev s_tells_put : Stmt := top 10
abbrev s_are_signs : Stmt := top 11
abbrev s_is_sign : Stmt := top 12
abbrev s_is_whole_from : Stmt := top 13
abbrev s_is_whole : Stmt := top 14
abbrev s_judge : Stmt := top 17
abbrev s_fits_in_size : Stmt := top 18
abbrev s_is_length : Stmt := top 19
abbrev s_first_wrong_row : Stmt := top 20
abbrev s_is_fitting_row : Stmt := top 21
abbrev s_covered_twice : Stmt := top 22
abbrev s_lacking : Stmt := top 23
abbrev s_read_late : Stmt := top 24
abbrev s_cell_at : Stmt := top 26
abbrev s_mixed : Stmt := top 27
abbrev s_rows : Stmt := top 28
abbrev s_other : Stmt := top 29
abbrev s_changed : Stmt := top 30
abbrev s_length : Stmt := top 31
abbrev s_is_row : Stmt := top 32
abbrev s_end : Stmt := top 33
abbrev s_first : Stmt := top 34
abbrev s_cells : Stmt := top 35
abbrev s_stays : Stmt := top 36
abbrev s_law : Stmt := top 37
set_option genInjectivity false in
set_option genSizeOf false in
set_option genSizeOfSpec false in
structure Adr where
  f_Row_init : Addr
  d_Row_init : FuncData
  f_Row_covers : Addr
  d_Row_covers : FuncData
  f_Row_covered : Addr
  d_Row_covered : FuncData
  f_Take_init : Addr
  d_Take_init : FuncData
  f_Take_stays : Addr
  d_Take_stays : FuncData
  f_Take_reads : Addr
  d_Take_reads : FuncData
  f_Take_writes : Addr
  d_Take_writes : FuncData
  f_Take_told : Addr
  d_Take_told : FuncData
  f_Put_init : Addr
  d_Put_init : FuncData
  f_Put_reads : Addr
  d_Put_reads : FuncData
  f_Put_writes : Addr
  d_Put_writes : FuncData
  f_Put_told : Addr
  d_Put_told : FuncData
  f_row_of : Addr
  d_row_of : FuncData
  f_tells_take : Addr
  d_tells_take : FuncData
  f_tells_put : Addr
  d_tells_put : FuncData
  f_are_signs : Addr
  d_are_signs : FuncData
  f_is_sign : Addr
  d_is_sign : FuncData
  f_is_whole_from : Addr
  d_is_whole_from : FuncData
  f_is_whole : Addr
  d_is_whole : FuncData
  f_judge : Addr
  d_judge : FuncData
  f_fits_in_size : Addr
  d_fits_in_size : FuncData
  f_is_length : Addr
  d_is_length : FuncData
  f_first_wrong_row : Addr
  d_first_wrong_row : FuncData
  f_is_fitting_row : Addr
  d_is_fitting_row : FuncData
  f_covered_twice : Addr
  d_covered_twice : FuncData
  f_lacking : Addr
  d_lacking : FuncData
  f_read_late : Addr
  d_read_late : FuncData
  f_cell_at : Addr
  d_cell_at : FuncData
  f_mixed : Addr
  d_mixed : FuncData
  f_rows : Addr
  d_rows : FuncData
  f_other : Addr
  d_other : FuncData
  f_changed : Addr
  d_changed : FuncData
  f_length : Addr
  d_length : FuncData
  f_is_row : Addr
  d_is_row : FuncData
  f_end : Addr
  d_end : FuncData
  f_first : Addr
  d_first : FuncData
  f_cells : Addr
  d_cells : FuncData
  f_stays : Addr
  d_stays : FuncData
  f_law : Addr
  d_law : FuncData
  C_Row : Addr
  C_Take : Addr
  C_Put : Addr
  C_NoRow : Addr
  t_MOST : Tok
structure Txt (K : PySem.W.Frag) (mg : Str → Option Value) (a : Adr) : Prop where
  F_Row_init : Fun K "__init__" "Row.__init__" s_Row_init a.f_Row_init a.d_Row_init
  b_Row_init : Binds K a.d_Row_init ["self", "to"] []
  F_Row_covers : Fun K "covers" "Row.covers" s_Row_covers a.f_Row_covers a.d_Row_covers
  b_Row_covers : Binds K a.d_Row_covers ["self"] []
  F_Row_covered : Fun K "covered" "Row.covered" s_Row_covered a.f_Row_covered a.d_Row_covered
  b_Row_covered : Binds K a.d_Row_covered ["self"] []
  F_Take_init : Fun K "__init__" "Take.__init__" s_Take_init a.f_Take_init a.d_Take_init
  b_Take_init : Binds K a.d_Take_init ["self", "to", "start", "count"] []
  F_Take_stays : Fun K "stays" "Take.stays" s_Take_stays a.f_Take_stays a.d_Take_stays
  b_Take_stays : Binds K a.d_Take_stays ["self"] []
  F_Take_reads : Fun K "reads" "Take.reads" s_Take_reads a.f_Take_reads a.d_Take_reads
  b_Take_reads : Binds K a.d_Take_reads ["self"] []
  F_Take_writes : Fun K "writes" "Take.writes" s_Take_writes a.f_Take_writes a.d_Take_writes
  b_Take_writes : Binds K a.d_Take_writes ["self"] []
  F_Take_told : Fun K "told" "Take.told" s_Take_told a.f_Take_told a.d_Take_told
  b_Take_told : Binds K a.d_Take_told ["self"] []
  F_Put_init : Fun K "__init__" "Put.__init__" s_Put_init a.f_Put_init a.d_Put_init
  b_Put_init : Binds K a.d_Put_init ["self", "to", "signs"] []
  F_Put_reads : Fun K "reads" "Put.reads" s_Put_reads a.f_Put_reads a.d_Put_reads
  b_Put_reads : Binds K a.d_Put_reads ["self"] []
  F_Put_writes : Fun K "writes" "Put.writes" s_Put_writes a.f_Put_writes a.d_Put_writes
  b_Put_writes : Binds K a.d_Put_writes ["self"] []
  F_Put_told : Fun K "told" "Put.told" s_Put_told a.f_Put_told a.d_Put_told
  b_Put_told : Binds K a.d_Put_told ["self"] []
  F_row_of : Fun K "row_of" "row_of" s_row_of a.f_row_of a.d_row_of
  b_row_of : Binds K a.d_row_of ["told"] []
  m_row_of : mg "row_of" = some (.ref a.f_row_of)
  F_tells_take : Fun K "tells_take" "tells_take" s_tells_take a.f_tells_take a.d_tells_take
  b_tells_take : Binds K a.d_tells_take ["told"] []
  m_tells_take : mg "tells_take" = some (.ref a.f_tells_take)
  F_tells_put : Fun K "tells_put" "tells_put" s_tells_put a.f_tells_put a.d_tells_put
  b_tells_put : Binds K a.d_tells_put ["told"] []
  m_tells_put : mg "tells_put" = some (.ref a.f_tells_put)
  F_are_signs : Fun K "are_signs" "are_signs" s_are_signs a.f_are_signs a.d_are_signs
  b_are_signs : Binds K a.d_are_signs ["signs"] []
  m_are_signs : mg "are_signs" = some (.ref a.f_are_signs)
  F_is_sign : Fun K "is_sign" "is_sign" s_is_sign a.f_is_sign a.d_is_sign
  b_is_sign : Binds K a.d_is_sign ["value"] []
  m_is_sign : mg "is_sign" = some (.ref a.f_is_sign)
  F_is_whole_from : Fun K "is_whole_from" "is_whole_from" s_is_whole_from a.f_is_whole_from a.d_is_whole_from
  b_is_whole_from : Binds K a.d_is_whole_from ["least", "value"] []
  m_is_whole_from : mg "is_whole_from" = some (.ref a.f_is_whole_from)
  F_is_whole : Fun K "is_whole" "is_whole" s_is_whole a.f_is_whole a.d_is_whole
  b_is_whole : Binds K a.d_is_whole ["value"] []
  m_is_whole : mg "is_whole" = some (.ref a.f_is_whole)
  F_judge : Fun K "judge" "judge" s_judge a.f_judge a.d_judge
  b_judge : Binds K a.d_judge ["paper"] []
  m_judge : mg "judge" = some (.ref a.f_judge)
  F_fits_in_size : Fun K "fits_in_size" "fits_in_size" s_fits_in_size a.f_fits_in_size a.d_fits_in_size
  b_fits_in_size : Binds K a.d_fits_in_size ["paper"] []
  m_fits_in_size : mg "fits_in_size" = some (.ref a.f_fits_in_size)
  F_is_length : Fun K "is_length" "is_length" s_is_length a.f_is_length a.d_is_length
  b_is_length : Binds K a.d_is_length ["value"] []
  m_is_length : mg "is_length" = some (.ref a.f_is_length)
  F_first_wrong_row : Fun K "first_wrong_row" "first_wrong_row" s_first_wrong_row a.f_first_wrong_row a.d_first_wrong_row
  b_first_wrong_row : Binds K a.d_first_wrong_row ["paper"] []
  m_first_wrong_row : mg "first_wrong_row" = some (.ref a.f_first_wrong_row)
  F_is_fitting_row : Fun K "is_fitting_row" "is_fitting_row" s_is_fitting_row a.f_is_fitting_row a.d_is_fitting_row
  b_is_fitting_row : Binds K a.d_is_fitting_row ["told", "old", "new"] []
  m_is_fitting_row : mg "is_fitting_row" = some (.ref a.f_is_fitting_row)
  F_covered_twice : Fun K "covered_twice" "covered_twice" s_covered_twice a.f_covered_twice a.d_covered_twice
  b_covered_twice : Binds K a.d_covered_twice ["rows"] []
  m_covered_twice : mg "covered_twice" = some (.ref a.f_covered_twice)
  F_lacking : Fun K "lacking" "lacking" s_lacking a.f_lacking a.d_lacking
  b_lacking : Binds K a.d_lacking ["rows", "new"] []
  m_lacking : mg "lacking" = some (.ref a.f_lacking)
  F_read_late : Fun K "read_late" "read_late" s_read_late a.f_read_late a.d_read_late
  b_read_late : Binds K a.d_read_late ["rows"] []
  m_read_late : mg "read_late" = some (.ref a.f_read_late)
  F_cell_at : Fun K "_law_cell_at" "_law_cell_at" s_cell_at a.f_cell_at a.d_cell_at
  b_cell_at : Binds K a.d_cell_at ["_law_script", "_law_k"] []
  m_cell_at : mg "_law_cell_at" = some (.ref a.f_cell_at)
  F_mixed : Fun K "_law_mixed" "_law_mixed" s_mixed a.f_mixed a.d_mixed
  b_mixed : Binds K a.d_mixed ["_law_cell", "_law_k"] []
  m_mixed : mg "_law_mixed" = some (.ref a.f_mixed)
  F_rows : Fun K "_law_rows" "_law_rows" s_rows a.f_rows a.d_rows
  b_rows : Binds K a.d_rows ["_law_old", "_law_new", "_law_cell"] []
  m_rows : mg "_law_rows" = some (.ref a.f_rows)
  F_other : Fun K "_law_other" "_law_other" s_other a.f_other a.d_other
  b_other : Binds K a.d_other ["_law_row", "_law_draw"] []
  m_other : mg "_law_other" = some (.ref a.f_other)
  F_changed : Fun K "_law_changed" "_law_changed" s_changed a.f_changed a.d_changed
  b_changed : Binds K a.d_changed ["_law_rows_here", "_law_draw"] []
  m_changed : mg "_law_changed" = some (.ref a.f_changed)
  F_length : Fun K "_law_length" "_law_length" s_length a.f_length a.d_length
  b_length : Binds K a.d_length ["_law_length_here", "_law_cell"] []
  m_length : mg "_law_length" = some (.ref a.f_length)
  F_is_row : Fun K "_law_is_row" "_law_is_row" s_is_row a.f_is_row a.d_is_row
  b_is_row : Binds K a.d_is_row ["_law_row"] []
  m_is_row : mg "_law_is_row" = some (.ref a.f_is_row)
  F_end : Fun K "_law_end" "_law_end" s_end a.f_end a.d_end
  b_end : Binds K a.d_end ["_law_row"] []
  m_end : mg "_law_end" = some (.ref a.f_end)
  F_first : Fun K "_law_first" "_law_first" s_first a.f_first a.d_first
  b_first : Binds K a.d_first ["_law_old", "_law_new", "_law_rows_here"] []
  m_first : mg "_law_first" = some (.ref a.f_first)
  F_cells : Fun K "_law_cells" "_law_cells" s_cells a.f_cells a.d_cells
  b_cells : Binds K a.d_cells ["_law_new", "_law_rows_here"] []
  m_cells : mg "_law_cells" = some (.ref a.f_cells)
  F_stays : Fun K "_law_stays" "_law_stays" s_stays a.f_stays a.d_stays
  b_stays : Binds K a.d_stays ["_law_row"] []
  m_stays : mg "_law_stays" = some (.ref a.f_stays)
  F_law : Fun K "law" "law" s_law a.f_law a.d_law
  b_law : Binds K a.d_law ["_law_script"] []
  m_Row : mg "Row" = some (.ref a.C_Row)
  c_Row : Cls K a.C_Row
  na_Row_count : NoAttr K a.C_Row "count"
  na_Row_to : NoAttr K a.C_Row "to"
  m_Take : mg "Take" = some (.ref a.C_Take)
  c_Take : Cls K a.C_Take
  na_Take_count : NoAttr K a.C_Take "count"
  na_Take_source : NoAttr K a.C_Take "source"
  na_Take_to : NoAttr K a.C_Take "to"
  mk_Take : Mk K a.C_Take a.f_Take_init
  m_Put : mg "Put" = some (.ref a.C_Put)
  c_Put : Cls K a.C_Put
  na_Put_count : NoAttr K a.C_Put "count"
  na_Put_signs : NoAttr K a.C_Put "signs"
  na_Put_to : NoAttr K a.C_Put "to"
  mk_Put : Mk K a.C_Put a.f_Put_init
  m_NoRow : mg "NoRow" = some (.ref a.C_NoRow)
  x_NoRow : XCls K a.C_NoRow
  kc_NoRow_NoRow : PySem.W.kitCls K (.ref a.C_NoRow) (.ref a.C_NoRow) = some true
  xc_NoRow : XCat K a.C_NoRow
  ic_Put : ∀ {H : Hp} {o dx : Addr} {fs : List (Str × V)}, H o = some (.ins a.C_Put dx fs) → TyOf K H (.ref o) (.ref a.C_Put)
  ic_Take : ∀ {H : Hp} {o dx : Addr} {fs : List (Str × V)}, H o = some (.ins a.C_Take dx fs) → TyOf K H (.ref o) (.ref a.C_Take)
  ik_Put_Take : PySem.W.kitOne K (.ref a.C_Put) (.ref a.C_Take) = some false
  ik_Take_Take : PySem.W.kitOne K (.ref a.C_Take) (.ref a.C_Take) = some true
  m_MOST : mg "MOST" = some (.int 300 a.t_MOST)
  me_Put_covered : Meth K a.C_Put "covered" a.f_Row_covered
  me_Put_covers : Meth K a.C_Put "covers" a.f_Row_covers
  me_Put_reads : Meth K a.C_Put "reads" a.f_Put_reads
  me_Put_writes : Meth K a.C_Put "writes" a.f_Put_writes
  me_Take_covered : Meth K a.C_Take "covered" a.f_Row_covered
  me_Take_covers : Meth K a.C_Take "covers" a.f_Row_covers
  me_Take_reads : Meth K a.C_Take "reads" a.f_Take_reads
  me_Take_stays : Meth K a.C_Take "stays" a.f_Take_stays
  me_Take_writes : Meth K a.C_Take "writes" a.f_Take_writes
  cm_Row_init : ClsM K a.C_Row "__init__" a.f_Row_init
  n_abs : mg "abs" = none
  n_all : mg "all" = none
  n_bool : mg "bool" = none
  n_enumerate : mg "enumerate" = none
  n_int : mg "int" = none
  n_isinstance : mg "isinstance" = none
  n_len : mg "len" = none
  n_list : mg "list" = none
  n_max : mg "max" = none
  n_min : mg "min" = none
  n_range : mg "range" = none
  n_tuple : mg "tuple" = none
theorem sc_Row_init : FnScope ["self", "to"] ["self", "to"] (defScope s_Row_init) := ⟨rfl, rfl, rfl, by decide +kernel, rfl, by decide +kernel, by decide +kernel⟩
theorem sc_Row_covers : FnScope ["self"] ["self"] (defScope s_Row_covers) := ⟨rfl, rfl, rfl, by decide +kernel, rfl, by decide +kernel, by decide +kernel⟩
theorem sc_Row_covered : FnScope ["self"] ["self"] (defScope s_Row_covered) := ⟨rfl, rfl, rfl, by decide +kernel, rfl, by decide +kernel, by decide +kernel⟩
theorem sc_Take_init : FnScope ["self", "to", "start", "count"] ["self", "to", "start", "count"] (defScope s_Take_init) := ⟨rfl, rfl, rfl, by decide +kernel, rfl, by decide +kernel, by decide +kernel⟩
theorem sc_Take_stays : FnScope ["self"] ["self"] (defScope s_Take_stays) := ⟨rfl, rfl, rfl, by decide +kernel, rfl, by decide +kernel, by decide +kernel⟩
theorem sc_Take_reads : FnScope ["self"] ["self"] (defScope s_Take_reads) := ⟨rfl, rfl, rfl, by decide +kernel, rfl, by decide +kernel, by decide +kernel⟩
theorem sc_Take_writes : FnScope ["self"] ["self"] (defScope s_Take_writes) := ⟨rfl, rfl, rfl, by decide +kernel, rfl, by decide +kernel, by decide +kernel⟩
theorem sc_Put_init : FnScope ["self", "to", "signs"] ["self", "to", "signs"] (defScope s_Put_init) := ⟨rfl, rfl, rfl, by decide +kernel, rfl, by decide +kernel, by decide +kernel⟩
theorem sc_Put_reads : FnScope ["self"] ["self"] (defScope s_Put_reads) := ⟨rfl, rfl, rfl, by decide +kernel, rfl, by decide +kernel, by decide +kernel⟩
theorem sc_Put_writes : FnScope ["self"] ["self"] (defScope s_Put_writes) := ⟨rfl, rfl, rfl, by decide +kernel, rfl, by decide +kernel, by decide +kernel⟩
theorem sc_row_of : FnScope ["told"] ["told"] (defScope s_row_of) := ⟨rfl, rfl, rfl, by decide +kernel, rfl, by decide +kernel, by decide +kernel⟩
theorem sc_tells_take : FnScope ["told"] ["told"] (defScope s_tells_take) := ⟨rfl, rfl, rfl, by decide +kernel, rfl, by decide +kernel, by decide +kernel⟩
theorem sc_tells_put : FnScope ["told"] ["told"] (defScope s_tells_put) := ⟨rfl, rfl, rfl, by decide +kernel, rfl, by decide +kernel, by decide +kernel⟩
theorem sc_are_signs : FnScope ["signs"] ["signs"] (defScope s_are_signs) := ⟨rfl, rfl, rfl, by decide +kernel, rfl, by decide +kernel, by decide +kernel⟩
theorem sc_is_sign : FnScope ["value"] ["value"] (defScope s_is_sign) := ⟨rfl, rfl, rfl, by decide +kernel, rfl, by decide +kernel, by decide +kernel⟩
theorem sc_is_whole_from : FnScope ["least", "value"] ["least", "value"] (defScope s_is_whole_from) := ⟨rfl, rfl, rfl, by decide +kernel, rfl, by decide +kernel, by decide +kernel⟩
theorem sc_is_whole : FnScope ["value"] ["value"] (defScope s_is_whole) := ⟨rfl, rfl, rfl, by decide +kernel, rfl, by decide +kernel, by decide +kernel⟩
theorem sc_judge : FnScope ["paper", "wrong", "rows", "fault"] ["paper"] (defScope s_judge) := ⟨rfl, rfl, rfl, by decide +kernel, rfl, by decide +kernel, by decide +kernel⟩
theorem sc_fits_in_size : FnScope ["paper"] ["paper"] (defScope s_fits_in_size) := ⟨rfl, rfl, rfl, by decide +kernel, rfl, by decide +kernel, by decide +kernel⟩
theorem sc_is_length : FnScope ["value"] ["value"] (defScope s_is_length) := ⟨rfl, rfl, rfl, by decide +kernel, rfl, by decide +kernel, by decide +kernel⟩
theorem sc_first_wrong_row : FnScope ["paper", "number", "told"] ["paper"] (defScope s_first_wrong_row) := ⟨rfl, rfl, rfl, by decide +kernel, rfl, by decide +kernel, by decide +kernel⟩
theorem sc_is_fitting_row : FnScope ["told", "old", "new", "row"] ["told", "old", "new"] (defScope s_is_fitting_row) := ⟨rfl, rfl, rfl, by decide +kernel, rfl, by decide +kernel, by decide +kernel⟩
theorem sc_covered_twice : FnScope ["rows", "covered", "number", "row", "cell"] ["rows"] (defScope s_covered_twice) := ⟨rfl, rfl, rfl, by decide +kernel, rfl, by decide +kernel, by decide +kernel⟩
theorem sc_lacking : FnScope ["rows", "new", "covered", "row", "cell"] ["rows", "new"] (defScope s_lacking) := ⟨rfl, rfl, rfl, by decide +kernel, rfl, by decide +kernel, by decide +kernel⟩
theorem sc_read_late : FnScope ["rows", "written", "number", "row", "cell"] ["rows"] (defScope s_read_late) := ⟨rfl, rfl, rfl, by decide +kernel, rfl, by decide +kernel, by decide +kernel⟩
theorem sc_cell_at : FnScope ["_law_script", "_law_k"] ["_law_script", "_law_k"] (defScope s_cell_at) := ⟨rfl, rfl, rfl, by decide +kernel, rfl, by decide +kernel, by decide +kernel⟩
theorem sc_mixed : FnScope ["_law_cell", "_law_k", "_law_number"] ["_law_cell", "_law_k"] (defScope s_mixed) := ⟨rfl, rfl, rfl, by decide +kernel, rfl, by decide +kernel, by decide +kernel⟩
theorem sc_rows : FnScope ["_law_old", "_law_new", "_law_cell", "_law_rows_here", "_law_at", "_law_draw", "_law_count", "_law_start", "_law_got", "_law_k"] ["_law_old", "_law_new", "_law_cell"] (defScope s_rows) := ⟨rfl, rfl, rfl, by decide +kernel, rfl, by decide +kernel, by decide +kernel⟩
theorem sc_other : FnScope ["_law_row", "_law_draw", "_law_way"] ["_law_row", "_law_draw"] (defScope s_other) := ⟨rfl, rfl, rfl, by decide +kernel, rfl, by decide +kernel, by decide +kernel⟩
theorem sc_changed : FnScope ["_law_rows_here", "_law_draw", "_law_at", "_law_place", "_law_rest"] ["_law_rows_here", "_law_draw"] (defScope s_changed) := ⟨rfl, rfl, rfl, by decide +kernel, rfl, by decide +kernel, by decide +kernel⟩
theorem sc_length : FnScope ["_law_length_here", "_law_cell", "_law_far"] ["_law_length_here", "_law_cell"] (defScope s_length) := ⟨rfl, rfl, rfl, by decide +kernel, rfl, by decide +kernel, by decide +kernel⟩
theorem sc_is_row : FnScope ["_law_row"] ["_law_row"] (defScope s_is_row) := ⟨rfl, rfl, rfl, by decide +kernel, rfl, by decide +kernel, by decide +kernel⟩
theorem sc_end : FnScope ["_law_row"] ["_law_row"] (defScope s_end) := ⟨rfl, rfl, rfl, by decide +kernel, rfl, by decide +kernel, by decide +kernel⟩
theorem sc_first : FnScope ["_law_old", "_law_new", "_law_rows_here", "_law_length_here", "_law_k", "_law_row"] ["_law_old", "_law_new", "_law_rows_here"] (defScope s_first) := ⟨rfl, rfl, rfl, by decide +kernel, rfl, by decide +kernel, by decide +kernel⟩
theorem sc_cells : FnScope ["_law_new", "_law_rows_here", "_law_held", "_law_k", "_law_cell", "_law_row"] ["_law_new", "_law_rows_here"] (defScope s_cells) := ⟨rfl, rfl, rfl, by decide +kernel, rfl, by decide +kernel, by decide +kernel⟩
theorem sc_stays : FnScope ["_law_row"] ["_law_row"] (defScope s_stays) := ⟨rfl, rfl, rfl, by decide +kernel, rfl, by decide +kernel, by decide +kernel⟩
theorem sc_law : FnScope ["_law_script", "_law_top", "_law_old", "_law_new", "_law_rows_here", "_law_k", "_law_due", "_law_got"] ["_law_script"] (defScope s_law) := ⟨rfl, rfl, rfl, by decide +kernel, rfl, by decide +kernel, by decide +kernel⟩
/-! rows as data -/
def takeF (to st c : Int) : List (Str × V) := [("to", .int to), ("count", .int c), ("source", .int st)]
def putFs (to : Int) (t : Addr) (n : Int) : List (Str × V) := [("to", .int to), ("count", .int n), ("signs", .ref t)]
def rngI (lo : Int) (n : Nat) : List Int := (List.range n).map fun (i : Nat) => lo + (i : Int)
theorem rngV_eq (lo : Int) (n : Nat) : rngV lo n = (rngI lo n).map V.int := by simp [rngV, rngI, Function.comp_def]
theorem rngI_length (lo : Int) (n : Nat) : (rngI lo n).length = n := by simp [rngI]
theorem mem_rngI {x lo : Int} {n : Nat} : x ∈ rngI lo n ↔ lo ≤ x ∧ x < lo + n := by
  unfold rngI
  rw [List.mem_map]
  constructor
  · rintro ⟨i, hi, rfl⟩
    have := List.mem_range.mp hi
    (first | lia | omega)
  · rintro ⟨h1, h2⟩
    exact ⟨(x - lo).toNat, List.mem_range.mpr (by (first | lia | omega)), by (first | lia | omega)⟩
inductive RowD where
  | take (to st c : Int)
  | put (to : Int) (sg : List Int)
/-  the row's tuple -/
def TupAt (K : PySem.W.Frag) (H : Hp) (t : Addr) : RowD → Prop
  | .take to st c => H t = some (.tup [.str "take", .int to, .int st, .int c])
  | .put to sg => ∃ u, H t = some (.tup [.str "put", .int to, .ref u]) ∧ H u = some (.tup (sg.map V.int))
theorem TupAt.same {K : PySem.W.Frag} {H H' : Hp} {t : Addr} {r : RowD} (h : TupAt K H t r) (s : Same H H') : TupAt K H' t r := by
  cases r with
  | take to st c => exact s.at h
  | put to sg => obtain ⟨u, h1, h2⟩ := h; exact ⟨u, s.at h1, s.at h2⟩
/-  the row's tuple, made behind H -/
/-  the row's object -/
def ObjAt (K : PySem.W.Frag) (a : Adr) (H : Hp) (o : Addr) : RowD → Prop
  | .take to st c => ∃ dx, H o = some (.ins a.C_Take dx (takeF to st c))
  | .put to sg => ∃ dx u, H o = some (.ins a.C_Put dx (putFs to u sg.length)) ∧ H u = some (.tup (sg.map V.int))
theorem ObjAt.same {K : PySem.W.Frag} {a : Adr} {H H' : Hp} {o : Addr} {r : RowD} (h : ObjAt K a H o r) (s : Same H H') : ObjAt K a H' o r := by
  cases r with
  | take to st c => obtain ⟨dx, h⟩ := h; exact ⟨dx, s.at h⟩
  | put to sg => obtain ⟨dx, u, h1, h2⟩ := h; exact ⟨dx, u, s.at h1, s.at h2⟩
theorem ObjAt.mv {K : PySem.W.Frag} {a : Adr} {H H' H6 : Hp} {o : Addr} {r : RowD} (h : ObjAt K a H' o r) (k : ∀ p o, (H p = none ∨ ∀ ys, o ≠ HO.lst ys) → H' p = some o → H6 p = some o) : ObjAt K a H6 o r := by
  cases r with
  | take to st c => obtain ⟨dx, h⟩ := h; exact ⟨dx, k _ _ (.inr fun ys z => by cases z) h⟩
  | put to sg => obtain ⟨dx, u, h1, h2⟩ := h; exact ⟨dx, u, k _ _ (.inr fun ys z => by cases z) h1, k _ _ (.inr fun ys z => by cases z) h2⟩
def RowD.ok : RowD → Prop
  | .take to st c => 0 ≤ to ∧ 0 ≤ st ∧ 1 ≤ c
  | .put to sg => 0 ≤ to ∧ sg ≠ [] ∧ sg.length ≤ 100000 ∧ ∀ x ∈ sg, (x.natAbs : Int) < 10 ^ 60
def RowD.dat : RowD → PyData
  | .take to st c => .tuple [.str "take", .int to, .int st, .int c]
  | .put to sg => .tuple [.str "put", .int to, .tuple (sg.map PyData.int)]
theorem rps_ints {K : PySem.W.Frag} {H : Hp} : ∀ xs : List Int, Rps K H (xs.map V.int) (xs.map PyData.int)
  | [] => .nil
  | x :: xs => .cons (.int x) (rps_ints xs)
theorem dat_can (r : RowD) : PyData.canLay0 r.dat = true := by
  cases r with
  | take to st c => simp [RowD.dat, PyData.canLay0, PyData.canLayAll0]; decide +kernel
  | put to sg => simp [RowD.dat, PyData.canLay0, PyData.canLayAll0, PySem.W.ke_canLayAll0 sg]; decide +kernel
theorem dat_depth (r : RowD) : PyData.depth r.dat ≤ 2 := by
  cases r with
  | take to st c => simp [RowD.dat, PyData.depth, PyData.depthAll]
  | put to sg => simp [RowD.dat, PyData.depth, PyData.depthAll, PySem.W.ke_depthAll sg]
/-  a list of rows' tuples, of rows' objects -/
def ObjsAt (K : PySem.W.Frag) (a : Adr) (H : Hp) (l : Addr) (rs : List RowD) : Prop := ∃ ts : List Addr, SqL K H l (ts.map V.ref) ∧ Paired (ObjAt K a H) ts rs
theorem sqT_wr {K : PySem.W.Frag} {H : Hp} {t p C dx : Addr} {xs : List V} {fs : List (Str × V)} {o : HO} (h : SqT K H t xs) (hp : H p = some (.ins C dx fs)) : SqT K (upd H p o) t xs := by
  rcases h with (h | ⟨ob, h⟩) | h
  · exact .inl (.inl (by rw [upd_ne (ne_of h hp (by intro z; cases z))]; exact h))
  · exact .inl (.inr ⟨ob, by rw [upd_ne (ne_of h hp (by intro z; cases z))]; exact h⟩)
  · exact .inr h
/-! the promises -/
def sp_Row_init (K : PySem.W.Frag) : Sp := fun vs H Q _ => ∃ (p C dx : Addr) (to : Int), vs = [.ref p, .int to] ∧ H p = some (.ins C dx []) ∧ Cls K C ∧ NoAttr K C "to" ∧ NoAttr K C "count" ∧ Q .non (upd H p (.ins C dx [("to", .int to), ("count", .int 0)]))
def sp_Take_init (a : Adr) : Sp := fun vs H Q _ => ∃ (p dx : Addr) (to st c : Int), vs = [.ref p, .int to, .int st, .int c] ∧ H p = some (.ins a.C_Take dx []) ∧ Q .non (upd H p (.ins a.C_Take dx (takeF to st c)))
def sp_Put_init (K : PySem.W.Frag) (a : Adr) : Sp := fun vs H Q _ => ∃ (p dx t : Addr) (to : Int) (xs : List V), vs = [.ref p, .int to, .ref t] ∧ H p = some (.ins a.C_Put dx []) ∧ SqT K H t xs ∧ Q .non (upd H p (.ins a.C_Put dx (putFs to t xs.length)))
/-  a new list of the ints ns -/
def newL (H : Hp) (Q : VK) (ns : List Int) : Prop := ∀ (l : Addr) (H' : Hp), Same H H' → H l = none → H' l = some (.lst (ns.map V.int)) → Q (.ref l) H'
def sp_stays (a : Adr) : Sp := fun vs H Q _ => ∃ (p dx : Addr) (to st c : Int), vs = [.ref p] ∧ H p = some (.ins a.C_Take dx (takeF to st c)) ∧ Q (.bl (decide (st = to))) H
def mixed (c k : Int) : Int :=
  let n := (c % 2147483647 + 7919 * k + 1) * 48271 % 2147483647
  n * (n / 1009 + 69621) % 2147483647
def cellAt (ns : List Int) (k : Int) : Int := if k < ns.length then ns.getD k.toNat 0 else 0
def sp_covered (K : PySem.W.Frag) : Sp := fun vs H Q _ => ∃ (p C dx : Addr) (fs : List (Str × V)) (to c : Int), vs = [.ref p] ∧ H p = some (.ins C dx fs) ∧ Cls K C ∧ NoAttr K C "to" ∧ NoAttr K C "count" ∧ fs.lookup ("to" : Str) = some (.int to) ∧ fs.lookup ("count" : Str) = some (.int c) ∧ c.toNat ≤ 2 ^ 24 ∧ newL H Q (rngI to c.toNat)
def sp_cell_at (K : PySem.W.Frag) : Sp := fun vs H Q _ => ∃ (l : Addr) (ns : List Int) (k : Int), vs = [.ref l, .int k] ∧ SqL K H l (ns.map V.int) ∧ 0 ≤ k ∧ Q (.int (cellAt ns k)) H
def sp_mixed : Sp := fun vs H Q _ => ∃ c k : Int, vs = [.int c, .int k] ∧ Q (.int (mixed c k)) H
/-! any data, all of it tracked; which of it is a row -/
mutual
inductive Dv (H : Hp) : V → PyData → Prop
  | non : Dv H .non .none
  | bl (b : Bool) : Dv H (.bl b) (.bool b)
  | int (i : Int) : Dv H (.int i) (.int i)
  | str (x : Str) : Dv H (.str x) (.str x)
  | lst {a : Addr} {xs : List V} {ds : List PyData} : H a = some (.lst xs) → Dvs H xs ds → Dv H (.ref a) (.list ds)
  | tup {a : Addr} {xs : List V} {ds : List PyData} : H a = some (.tup xs) → Dvs H xs ds → Dv H (.ref a) (.tuple ds)
inductive Dvs (H : Hp) : List V → List PyData → Prop
  | nil : Dvs H [] []
  | cons {x : V} {d : PyData} {xs : List V} {ds : List PyData} : Dv H x d → Dvs H xs ds → Dvs H (x :: xs) (d :: ds)
end
mutual
theorem Dv.same {H H' : Hp} (e : Same H H') : ∀ {v : V} {d : PyData}, Dv H v d → Dv H' v d
  | _, _, .non => .non
  | _, _, .bl b => .bl b
  | _, _, .int i => .int i
  | _, _, .str x => .str x
  | _, _, .lst q r => .lst (e.at q) (Dvs.same e r)
  | _, _, .tup q r => .tup (e.at q) (Dvs.same e r)
theorem Dvs.same {H H' : Hp} (e : Same H H') : ∀ {v : List V} {d : List PyData}, Dvs H v d → Dvs H' v d
  | _, _, .nil => .nil
  | _, _, .cons q r => .cons (Dv.same e q) (Dvs.same e r)
end
mutual
theorem Dv.rp {K : PySem.W.Frag} {H : Hp} : ∀ {v : V} {d : PyData}, Dv H v d → Rp K H v d
  | _, _, .non => .non
  | _, _, .bl b => .bl b
  | _, _, .int i => .int i
  | _, _, .str x => .str x
  | _, _, .lst q r => .lst (SqL.of q) (Dvs.rp r)
  | _, _, .tup q r => .tup (SqT.of q) (Dvs.rp r)
theorem Dvs.rp {K : PySem.W.Frag} {H : Hp} : ∀ {v : List V} {d : List PyData}, Dvs H v d → Rps K H v d
  | _, _, .nil => .nil
  | _, _, .cons q r => .cons (Dv.rp q) (Dvs.rp r)
end
theorem Dvs.unc {H : Hp} {xs : List V} {d : PyData} {ds : List PyData} (h : Dvs H xs (d :: ds)) : ∃ x r, xs = x :: r ∧ Dv H x d ∧ Dvs H r ds := by
  cases h with
  | cons a b => exact ⟨_, _, rfl, a, b⟩
theorem Dvs.unn {H : Hp} {xs : List V} (h : Dvs H xs []) : xs = [] := by cases h; rfl
theorem Dv.unI {H : Hp} {v : V} {i : Int} (h : Dv H v (.int i)) : v = .int i := by cases h; rfl
theorem Dv.unS {H : Hp} {v : V} {x : Str} (h : Dv H v (.str x)) : v = .str x := by cases h; rfl
theorem Dv.unT {H : Hp} {v : V} {ds : List PyData} (h : Dv H v (.tuple ds)) : ∃ a xs, v = .ref a ∧ H a = some (.tup xs) ∧ Dvs H xs ds := by
  cases h with
  | tup q r => exact ⟨_, _, rfl, q, r⟩
theorem lenc {ds : List PyData} {n : Nat} (h : ds.length = n + 1) : ∃ a r, ds = a :: r ∧ r.length = n := by
  cases ds with
  | nil => cases h
  | cons a r => exact ⟨a, r, rfl, Nat.succ.inj h⟩
theorem Dvs.length {H : Hp} : ∀ {xs : List V} {ds : List PyData}, Dvs H xs ds → xs.length = ds.length
  | _, _, .nil => rfl
  | _, _, .cons _ r => congrArg (· + 1) (Dvs.length r)
theorem Dvs.get {H : Hp} : ∀ {xs : List V} {ds : List PyData} {i : Nat} {d : PyData}, Dvs H xs ds → ds[i]? = some d → ∃ x, xs[i]? = some x ∧ Dv H x d
  | _, _, _, _, .nil, e => by simp at e
  | _, _, 0, _, .cons q r, e => by simp at e; subst e; exact ⟨_, rfl, q⟩
  | _, _, i + 1, _, .cons q r, e => by
    obtain ⟨x, h1, h2⟩ := Dvs.get (i := i) r (by simpa using e)
    exact ⟨x, by simpa using h1, h2⟩
theorem Dvs.ints {H : Hp} : ∀ ns : List Int, Dvs H (ns.map V.int) (ns.map PyData.int)
  | [] => .nil
  | i :: r => .cons (.int i) (Dvs.ints r)
/-  a value's built-in type -/
def isInt : PyData → Bool
  | .int _ => true
  | _ => false
def wholeFrom (l : Int) : PyData → Bool
  | .int i => decide (l ≤ i)
  | _ => false
def isSignD : PyData → Bool
  | .int i => decide ((i.natAbs : Int) < 10 ^ 60)
  | _ => false
def signsD : PyData → Bool
  | .tuple ds => decide (0 < ds.length) && ds.all isSignD
  | _ => false
def takeD : PyData → Bool
  | .tuple [w, x, y, z] => PyData.eqv w (.str "take") && (wholeFrom 0 x && (wholeFrom 0 y && wholeFrom 1 z))
  | _ => false
def putD : PyData → Bool
  | .tuple [w, x, y] => PyData.eqv w (.str "put") && (wholeFrom 0 x && signsD y)
  | _ => false
def sp_is_wholeA : Sp := fun vs H Q _ => ∃ v d, vs = [v] ∧ Dv H v d ∧ Q (.bl (isInt d)) H
def sp_is_whole_fromA : Sp := fun vs H Q _ => ∃ (l : Int) (v : V) (d : PyData), vs = [.int l, v] ∧ Dv H v d ∧ Q (.bl (wholeFrom l d)) H
def sp_is_signA : Sp := fun vs H Q _ => ∃ v d, vs = [v] ∧ Dv H v d ∧ Q (.bl (isSignD d)) H
def sp_are_signsA : Sp := fun vs H Q _ => ∃ v d, vs = [v] ∧ Dv H v d ∧ (∀ ds, d = .tuple ds → ds.length ≤ 100000) ∧ ∀ H', Same H H' → Q (.bl (signsD d)) H'
/-  its first part may be held against a text, its third one is not too long -/
def TellOk (d : PyData) : Prop := ∀ ds, d = .tuple ds → (∀ x, ds[0]? = some x → SeqAt.shaped x = true) ∧ ∀ x es, ds[2]? = some x → x = .tuple es → es.length ≤ 100000
def sp_tells_takeA : Sp := fun vs H Q _ => ∃ v d, vs = [v] ∧ Dv H v d ∧ TellOk d ∧ Q (.bl (takeD d)) H
def sp_tells_putA : Sp := fun vs H Q _ => ∃ v d, vs = [v] ∧ Dv H v d ∧ TellOk d ∧ ∀ H', Same H H' → Q (.bl (putD d)) H'
/-  the row, or NoRow -/
def sp_row_ofX (K : PySem.W.Frag) (a : Adr) : Sp := fun vs H Q E => ∃ v d, vs = [v] ∧ Dv H v d ∧ TellOk d ∧
  (∀ to st c, d = .tuple [.str "take", .int to, .int st, .int c] → 0 ≤ to → 0 ≤ st → 1 ≤ c → ∀ (o : Addr) (H' : Hp), Same H H' → H o = none → ObjAt K a H' o (.take to st c) → Q (.ref o) H') ∧
  (∀ to sg, d = .tuple [.str "put", .int to, .tuple (sg.map PyData.int)] → 0 ≤ to → sg ≠ [] → (∀ x ∈ sg, (x.natAbs : Int) < 10 ^ 60) → ∀ (o : Addr) (H' : Hp), Same H H' → H o = none → ObjAt K a H' o (.put to sg) → Q (.ref o) H') ∧
  (takeD d = false → putD d = false → ∀ H', Same H H' → E (.ref a.C_NoRow) none H')
theorem wholeFrom_int {l : Int} {d : PyData} (h : wholeFrom l d = true) : ∃ i, d = .int i ∧ l ≤ i := by
  cases d <;> simp [wholeFrom] at h
  exact ⟨_, rfl, h⟩
theorem signsD_ints {d : PyData} (h : signsD d = true) : ∃ sg : List Int, d = .tuple (sg.map PyData.int) ∧ sg ≠ [] ∧ ∀ x ∈ sg, (x.natAbs : Int) < 10 ^ 60 := by
  cases d with
  | tuple ds =>
    simp only [signsD, Bool.and_eq_true, decide_eq_true_eq] at h
    obtain ⟨h1, h2⟩ := h
    have : ∃ sg : List Int, ds = sg.map PyData.int ∧ ∀ x ∈ sg, (x.natAbs : Int) < 10 ^ 60 := by
      clear h1
      induction ds with
      | nil => exact ⟨[], rfl, by simp⟩
      | cons d ds ih =>
        rw [List.all_cons, Bool.and_eq_true] at h2
        obtain ⟨sg, e, hs⟩ := ih h2.2
        cases d with
        | int i =>
          refine ⟨i :: sg, by rw [e]; rfl, fun x hx => ?_⟩
          rcases List.mem_cons.mp hx with z | z
          · have h3 := h2.1
            unfold isSignD at h3
            rw [z]; exact of_decide_eq_true h3
          · exact hs x z
        | _ => exact absurd h2.1 Bool.false_ne_true
    obtain ⟨sg, e, hs⟩ := this
    refine ⟨sg, by rw [e], fun z => ?_, hs⟩
    rw [e, z] at h1; simp at h1
  | _ => simp [signsD] at h
/-! the judge -/
def RowD.cv : RowD → List Int
  | .take to _ c => rngI to c.toNat
  | .put to sg => rngI to sg.length
def RowD.rds : RowD → List Int
  | .take to st c => if st = to then [] else rngI st c.toNat
  | .put _ _ => []
def RowD.wrs : RowD → List Int
  | .take to st c => if st = to then [] else rngI to c.toNat
  | .put to sg => rngI to sg.length
def fitR (old new : Int) : RowD → Bool
  | .take to st c => decide (st + c ≤ old) && decide (to + c ≤ new)
  | .put to sg => decide (to + sg.length ≤ new)
def intOf : PyData → Option Int
  | .int i => some i
  | _ => none
/-  the row that a thing tells -/
def rowD (d : PyData) : Option RowD :=
  match d with
  | .tuple [_, .int to, .int st, .int c] => if takeD d then some (.take to st c) else none
  | .tuple [_, .int to, .tuple ds] => if putD d then some (.put to (ds.filterMap intOf)) else none
  | _ => none
def fitD (old new : Int) (d : PyData) : Bool :=
  match rowD d with
  | some r => fitR old new r
  | none => false
def lenD : PyData → Bool
  | .int i => decide (0 ≤ i) && decide (i ≤ 300)
  | _ => false
/-  cells with the numbers of their rows -/
def num : Nat → List (List Int) → List (Nat × Int)
  | _, [] => []
  | k, cs :: r => cs.map (fun c => (k, c)) ++ num (k + 1) r
def tw : List (Nat × Int) → List Int → Option (Nat × Int)
  | [], _ => none
  | (k, c) :: r, seen => if c ∈ seen then some (k, c) else tw r (c :: seen)
def twiceF (rs : List RowD) : Option (Nat × Int) := tw (num 0 (rs.map RowD.cv)) []
def lacksF (rs : List RowD) (new : Nat) : Option Int := ((List.range new).map fun (i : Nat) => (i : Int)).find? fun c => !decide (c ∈ (rs.map RowD.cv).flatten)
def lateS : Nat → List RowD → List Int → Option (Nat × Int)
  | _, [], _ => none
  | k, r :: rest, wr => match r.rds.find? fun c => decide (c ∈ wr) with
    | some c => some (k, c)
    | none => lateS (k + 1) rest (wr ++ r.wrs)
def lateF (rs : List RowD) : Option (Nat × Int) := lateS 0 rs []
/-  None, or a new tuple of a word, a number and a cell -/
def resKC (H : Hp) (Q : VK) (w : Str) : Option (Nat × Int) → Prop
  | none => ∀ H', Same H H' → Q .non H'
  | some (k, c) => ∀ t H', Same H H' → H' t = some (.tup [.str w, .int k, .int c]) → Q (.ref t) H'
def resC (H : Hp) (Q : VK) (w : Str) : Option Int → Prop
  | none => ∀ H', Same H H' → Q .non H'
  | some c => ∀ t H', Same H H' → H' t = some (.tup [.str w, .int c]) → Q (.ref t) H'
def RowsOk (rs : List RowD) : Prop := rs.length ≤ 300 ∧ ∀ r ∈ rs, r.cv.length ≤ 300 ∧ r.rds.length ≤ 300 ∧ r.wrs.length ≤ 300
def sp_is_length : Sp := fun vs H Q _ => ∃ v d, vs = [v] ∧ Dv H v d ∧ Q (.bl (lenD d)) H
inductive Sp_fits (vs : List V) (H : Hp) (Q : VK) : Prop
  | mk (p tt : Addr) (vo vn : V) (dO dN : PyData) (xs : List V) : (vs = [.ref p]) → (H p = some (.tup [vo, vn, .ref tt])) → (Dv H vo dO) → (Dv H vn dN) → (H tt = some (.tup xs)) → (Q (.bl (lenD dO && (lenD dN && decide (xs.length ≤ 300)))) H) → Sp_fits  vs H Q
def sp_fits : Sp := fun vs H Q _ => Sp_fits  vs H Q
def sp_fitting : Sp := fun vs H Q _ => ∃ (v : V) (d : PyData) (old new : Int), vs = [v, .int old, .int new] ∧ Dv H v d ∧ TellOk d ∧ ∀ H', Same H H' → Q (.bl (fitD old new d)) H'
def wrongF (old new : Int) (ds : List PyData) : Option Nat := ds.findIdx? fun d => !fitD old new d
inductive Sp_wrong (vs : List V) (H : Hp) (Q : VK) : Prop
  | mk (p tt : Addr) (old new : Int) (xs : List V) (ds : List PyData) : (vs = [.ref p]) → (H p = some (.tup [.int old, .int new, .ref tt])) → (H tt = some (.tup xs)) → (Dvs H xs ds) → ((∀ d ∈ ds, TellOk d)) → (∀ H', Same H H' → Q (match wrongF old new ds with | some k => .int (k : Int) | none => .non) H') → Sp_wrong  vs H Q
def sp_wrong : Sp := fun vs H Q _ => Sp_wrong  vs H Q
def sp_twice (K : PySem.W.Frag) (a : Adr) : Sp := fun vs H Q _ => ∃ (l : Addr) (rs : List RowD), vs = [.ref l] ∧ ObjsAt K a H l rs ∧ RowsOk rs ∧ resKC H Q "twice" (twiceF rs)
def sp_lacking (K : PySem.W.Frag) (a : Adr) : Sp := fun vs H Q _ => ∃ (l : Addr) (rs : List RowD) (new : Nat), vs = [.ref l, .int new] ∧ ObjsAt K a H l rs ∧ RowsOk rs ∧ new ≤ 300 ∧ resC H Q "lacks" (lacksF rs new)
def sp_late (K : PySem.W.Frag) (a : Adr) : Sp := fun vs H Q _ => ∃ (l : Addr) (rs : List RowD), vs = [.ref l] ∧ ObjsAt K a H l rs ∧ RowsOk rs ∧ resKC H Q "late" (lateF rs)
def sp_covers (K : PySem.W.Frag) : Sp := fun vs H Q _ => ∃ (p C dx : Addr) (fs : List (Str × V)) (to c : Int), vs = [.ref p] ∧ H p = some (.ins C dx fs) ∧ Cls K C ∧ NoAttr K C "to" ∧ NoAttr K C "count" ∧ fs.lookup ("to" : Str) = some (.int to) ∧ fs.lookup ("count" : Str) = some (.int c) ∧ ∀ t, H t = none → Q (.ref t) (upd H t (.tup [.int to, .int (to + c)]))
local macro_rules | `(tactic| walk_at "w") => `(tactic| (conv => whnf))
local macro_rules | `(tactic| walk_at "few") => `(tactic| first | exact Nat.lt_of_lt_of_le (few_put (n := 998) (by simp)) (by decide) | (simp; done))
local macro_rules | `(tactic| walk_at "pos") => `(tactic| first | (show (0 : Int) < _; decide) | (show (0 : Int) < _; (first | lia | omega)) | assumption)
local macro_rules | `(tactic| walk_at "same") => `(tactic| first | exact Same.refl _ | assumption | (refine' Same.trans ?sa ?sb; (case sb => assumption); (case sa => walk_at "same")))
local macro_rules | `(tactic| walk_at "get") => `(tactic| first | assumption | exact upd_same | (refine' Same.at ?ga ?gb; (case gb => assumption); (case ga => walk_at "same")))
local macro_rules | `(tactic| walk_at "sq") => `(tactic| first | assumption | (refine' SqL.of ?g; (case g => walk_at "get")) | (refine' SqT.of ?g; (case g => walk_at "get")) | (refine' Same.seq ?sa ?sb; (case sb => assumption); (case sa => walk_at "same")) | (refine' Same.seqT ?sa ?sb; (case sb => assumption); (case sa => walk_at "same")) | (refine' Or.inl ?g; (case g => walk_at "sq")) | (refine' Or.inr ?g; (case g => walk_at "sq")))
local macro_rules | `(tactic| walk_at "no") => `(tactic| (intro z; first | cases z | (simp at z; done)))
local macro_rules | `(tactic| walk_at "mul") => `(tactic| first | exact Or.inl ⟨by decide, by decide⟩ | exact Or.inr ⟨by decide, by decide⟩ | exact Or.inl ⟨by (first | lia | omega), by (first | lia | omega)⟩ | exact Or.inr ⟨by (first | lia | omega), by (first | lia | omega)⟩)
local macro_rules | `(tactic| walk_at "side") => `(tactic| first | exact ⟨by decide, by decide⟩ | exact ⟨by decide, by decide, by decide⟩ | walk_at "pos" | walk_at "mul" | (show (_ : Nat) ≤ sizeLine; first | decide | (simp only [List.length_cons, List.length_nil]; decide)))
local macro_rules | `(tactic| walk_at "s") => `(tactic| (refine And.intro (by walk_at "side") ?_; walk_at "w"))
local macro_rules | `(tactic| walk_at "ss") => `(tactic| (repeat (walk_at "s")))

section
variable {P : Program} {w : World} {K : PySem.W.Frag} {mg : Str → Option Value} {base : Heap} {a : Adr}
theorem ok_Row_init (T : Txt K mg a) : FnOk P w K mg base CX0 1 a.f_Row_init a.d_Row_init ["self", "to"] (sp_Row_init K) := by
  refine T.F_Row_init.ok sc_Row_init (fun vs H Q E h => ?_) (fun cdv A outer s H vs Q E hr h => ?_)
  · obtain ⟨p, C, dx, to, rfl, _⟩ := h; rfl
  · obtain ⟨p, C, dx, to, rfl, hp, c, n1, n2, k⟩ := h
    have nd := sc_Row_init.nd
    refine ⟨_, (pss_cons (set_fldK (K := K) rfl (cv 0) (cv 1) rfl)
    (pss_one (set_fldK (K := K) rfl (cv 0) pe_int rfl))), ?_⟩
    walk_at "w"
    refine ⟨p, C, dx, _, rfl, hp, c, n1, by walk_at "few", ?_⟩
    walk_at "w"
    refine ⟨p, C, dx, _, rfl, upd_same, c, n2, by walk_at "few", ?_⟩
    walk_at "w"
    rw [upd_upd]
    exact k
theorem ok_Take_init (T : Txt K mg a) : FnOk P w K mg base CX0 2 a.f_Take_init a.d_Take_init ["self", "to", "start", "count"] (sp_Take_init a) := by
  refine T.F_Take_init.ok sc_Take_init (fun vs H Q E h => ?_) (fun cdv A outer s H vs Q E hr h => ?_)
  · obtain ⟨p, dx, to, st, c, rfl, _⟩ := h; rfl
  · obtain ⟨p, dx, to, st, c, rfl, hp, k⟩ := h
    have nd := sc_Take_init.nd
    refine ⟨_, (pss_cons (ps_expr (pe_base (by rfl) T.m_Row T.cm_Row_init (ok_Row_init (P := P) (w := w) (K := K) (mg := mg) (base := base) T) (hr.mono (by decide)) T.b_Row_init .nil pass0 (pa_cons (cv 0) (pa_cons (cv 1) pa_nil))))
    (pss_cons (set_fldK (K := K) rfl (cv 0) (cv 2) rfl)
    (pss_one (set_fldK (K := K) rfl (cv 0) (cv 3) rfl)))), ?_⟩
    walk_at "w"
    refine ⟨p, _, dx, to, rfl, hp, T.c_Take, T.na_Take_to, T.na_Take_count, ?_⟩
    walk_at "w"
    refine ⟨p, _, dx, _, rfl, upd_same, T.c_Take, T.na_Take_source, by walk_at "few", ?_⟩
    walk_at "w"
    refine ⟨p, _, dx, _, rfl, upd_same, T.c_Take, T.na_Take_count, by walk_at "few", ?_⟩
    walk_at "w"
    rw [upd_upd, upd_upd]
    exact k
theorem ok_Put_init (T : Txt K mg a) : FnOk P w K mg base CX0 2 a.f_Put_init a.d_Put_init ["self", "to", "signs"] (sp_Put_init K a) := by
  refine T.F_Put_init.ok sc_Put_init (fun vs H Q E h => ?_) (fun cdv A outer s H vs Q E hr h => ?_)
  · obtain ⟨p, dx, t, to, xs, rfl, _⟩ := h; rfl
  · obtain ⟨p, dx, t, to, xs, rfl, hp, ht, k⟩ := h
    have nd := sc_Put_init.nd
    have ht1 : ∀ o, SqT K (upd H p o) t xs := fun o => sqT_wr ht hp
    refine ⟨_, (pss_cons (ps_expr (pe_base (by rfl) T.m_Row T.cm_Row_init (ok_Row_init (P := P) (w := w) (K := K) (mg := mg) (base := base) T) (hr.mono (by decide)) T.b_Row_init .nil pass0 (pa_cons (cv 0) (pa_cons (cv 1) pa_nil))))
    (pss_cons (set_fldK (K := K) rfl (cv 0) (pe_callTy (tuple_ofK (K := K) rfl) (by rfl) T.n_tuple bt_tuple (pa_cons (cv 2) pa_nil)) rfl)
    (pss_one (set_fldK (K := K) rfl (cv 0) (pe_callB (lenqK (K := K) rfl) (by rfl) T.n_len bt_len (pa_cons (fldK (K := K) rfl (cv 0) rfl) pa_nil)) rfl)))), ?_⟩
    walk_at "w"
    refine ⟨p, _, dx, to, rfl, hp, T.c_Put, T.na_Put_to, T.na_Put_count, ?_⟩
    walk_at "w"
    refine ⟨t, xs, rfl, .inr ⟨ht1 _, ?_⟩⟩
    walk_at "w"
    refine ⟨p, _, dx, _, rfl, upd_same, T.c_Put, T.na_Put_signs, by walk_at "few", ?_⟩
    walk_at "w"
    refine ⟨p, _, dx, _, .ref t, rfl, upd_same, T.c_Put, T.na_Put_signs, rfl, ?_⟩
    walk_at "w"
    refine ⟨t, xs, rfl, .inr (sqT_wr (ht1 _) upd_same), ?_⟩
    walk_at "w"
    refine ⟨p, _, dx, _, rfl, upd_same, T.c_Put, T.na_Put_count, by walk_at "few", ?_⟩
    walk_at "w"
    rw [upd_upd, upd_upd]
    exact k
theorem ok_is_whole (T : Txt K mg a) : FnOk P w K mg base CX0 1 a.f_is_whole a.d_is_whole ["value"] sp_is_wholeA := by
  refine T.F_is_whole.ok sc_is_whole (fun vs H Q E h => ?_) (fun cdv A outer s H vs Q E hr h => ?_)
  · obtain ⟨v, d, rfl, _⟩ := h; rfl
  · obtain ⟨v, d, rfl, hd, q⟩ := h
    have nd := sc_is_whole.nd
    refine ⟨_, (pss_one (ps_ret (ce_and (pe_callB (isiK (K := K) rfl) (by rfl) T.n_isinstance bt_isinstance (pa_cons (cv 0) (pa_cons (pe_bltn (v := .ty "int") (by rfl) T.n_int bt_int rfl) pa_nil))) (pe_one (ce_not (pe_callB (isiK (K := K) rfl) (by rfl) T.n_isinstance bt_isinstance (pa_cons (cv 0) (pa_cons (pe_bltn (v := .ty "bool") (by rfl) T.n_bool bt_bool rfl) pa_nil)))))))), ?_⟩
    cases hd with
    | int i =>
      walk_at "w"
      refine ⟨_, _, _, _, true, rfl, rfl, TyOf.int _, rfl, ?_⟩
      walk_at "w"
      refine ⟨fun _ => ?_, by walk_at "no"⟩
      walk_at "w"
      refine ⟨_, _, _, _, false, rfl, rfl, TyOf.int _, rfl, ?_⟩
      exact q
    | bl b =>
      walk_at "w"
      refine ⟨_, _, _, _, true, rfl, rfl, TyOf.bl _, rfl, ?_⟩
      walk_at "w"
      refine ⟨fun _ => ?_, by walk_at "no"⟩
      walk_at "w"
      refine ⟨_, _, _, _, true, rfl, rfl, TyOf.bl _, rfl, ?_⟩
      exact q
    | non =>
      walk_at "w"
      refine ⟨_, _, _, _, false, rfl, rfl, TyOf.non, rfl, ?_⟩
      walk_at "w"
      exact ⟨by walk_at "no", fun _ => q⟩
    | str x =>
      walk_at "w"
      refine ⟨_, _, _, _, false, rfl, rfl, TyOf.str _, rfl, ?_⟩
      walk_at "w"
      exact ⟨by walk_at "no", fun _ => q⟩
    | lst e r =>
      walk_at "w"
      refine ⟨_, _, _, _, false, rfl, rfl, TyOf.lst e, rfl, ?_⟩
      walk_at "w"
      exact ⟨by walk_at "no", fun _ => q⟩
    | tup e r =>
      walk_at "w"
      refine ⟨_, _, _, _, false, rfl, rfl, TyOf.tup e, rfl, ?_⟩
      walk_at "w"
      exact ⟨by walk_at "no", fun _ => q⟩
theorem ok_is_whole_from (T : Txt K mg a) : FnOk P w K mg base CX0 2 a.f_is_whole_from a.d_is_whole_from ["least", "value"] sp_is_whole_fromA := by
  refine T.F_is_whole_from.ok sc_is_whole_from (fun vs H Q E h => ?_) (fun cdv A outer s H vs Q E hr h => ?_)
  · obtain ⟨l, v, d, rfl, _⟩ := h; rfl
  · obtain ⟨l, v, d, rfl, hd, q⟩ := h
    have nd := sc_is_whole_from.nd
    refine ⟨_, (pss_one (ps_ret (ce_and (pe_call (ok_is_whole (P := P) (w := w) (K := K) (mg := mg) (base := base) T) (hr.mono (by decide)) (by rfl) T.m_is_whole T.F_is_whole.kp T.b_is_whole .nil pass0 (pa_cons (cv 1) pa_nil)) (pe_one (ce_cmp o_ge (cv 1) (cv 0)))))), ?_⟩
    walk_at "w"
    refine ⟨v, d, rfl, hd, ?_⟩
    cases hd with
    | int i =>
      walk_at "w"
      exact ⟨fun _ => q, by walk_at "no"⟩
    | _ =>
      walk_at "w"
      exact ⟨by walk_at "no", fun _ => q⟩
theorem ok_is_sign (T : Txt K mg a) : FnOk P w K mg base CX0 2 a.f_is_sign a.d_is_sign ["value"] sp_is_signA := by
  refine T.F_is_sign.ok sc_is_sign (fun vs H Q E h => ?_) (fun cdv A outer s H vs Q E hr h => ?_)
  · obtain ⟨v, d, rfl, _⟩ := h; rfl
  · obtain ⟨v, d, rfl, hd, q⟩ := h
    have nd := sc_is_sign.nd
    refine ⟨_, (pss_one (ps_ret (ce_and (pe_call (ok_is_whole (P := P) (w := w) (K := K) (mg := mg) (base := base) T) (hr.mono (by decide)) (by rfl) T.m_is_whole T.F_is_whole.kp T.b_is_whole .nil pass0 (pa_cons (cv 0) pa_nil)) (pe_one (ce_cmp o_lt (pe_callB c_abs (by rfl) T.n_abs bt_abs (pa_cons (cv 0) pa_nil)) (pe_op o_pow pe_int pe_int)))))), ?_⟩
    walk_at "w"
    refine ⟨v, d, rfl, hd, ?_⟩
    cases hd with
    | int i =>
      walk_at "w"
      refine ⟨fun _ => ?_, by walk_at "no"⟩
      walk_at "w"
      refine ⟨⟨by decide, by decide, by decide⟩, ?_⟩
      exact q
    | _ =>
      walk_at "w"
      exact ⟨by walk_at "no", fun _ => q⟩
theorem ok_are_signs (T : Txt K mg a) : FnOk P w K mg base CX0 3 a.f_are_signs a.d_are_signs ["signs"] sp_are_signsA := by
  refine T.F_are_signs.ok sc_are_signs (fun vs H Q E h => ?_) (fun cdv A outer s H vs Q E hr h => ?_)
  · obtain ⟨v, d, rfl, _⟩ := h; rfl
  · obtain ⟨v, d, rfl, hd, hlen, q⟩ := h
    have nd := sc_are_signs.nd
    refine ⟨_, (pss_one (ps_ret (ce_and (pe_callB (isiK (K := K) rfl) (by rfl) T.n_isinstance bt_isinstance (pa_cons (cv 0) (pa_cons (pe_bltn (v := .ty "tuple") (by rfl) T.n_tuple bt_tuple rfl) pa_nil))) (ce_and (ce_cmp o_gt (pe_callB (lenqK (K := K) rfl) (by rfl) T.n_len bt_len (pa_cons (cv 0) pa_nil)) pe_int) (pe_one (pe_callB (allBK (K := K) rfl rfl) (by rfl) T.n_all bt_all (pa_cons (pe_comp (blk_mk (cap := []) (ys := []) rfl rfl rfl rfl rfl trivial (by decide +kernel)) rfl (it_tupK (K := K) rfl (cv 0)) (fun _ _ _ _ => (pe_call (ok_is_sign (P := P) (w := w) (K := K) (mg := mg) (base := base) T) (hr.mono (by decide)) (by rfl) T.m_is_sign T.F_is_sign.kp T.b_is_sign .nil pass0 (pa_cons (cv 0) pa_nil))) (fun _ _ _ _ => cts_nil)) pa_nil))))))), ?_⟩
    cases hd with
    | tup e r =>
      rename_i u xs ds
      have hl := hlen _ rfl
      have hxl := r.length
      walk_at "w"
      refine ⟨_, _, _, _, true, rfl, rfl, TyOf.tup e, rfl, ?_⟩
      walk_at "w"
      refine ⟨fun _ => ?_, by walk_at "no"⟩
      walk_at "w"
      refine ⟨u, _, rfl, .inr (SqT.of e), ?_⟩
      walk_at "w"
      refine ⟨fun hp => ?_, fun hn => ?_⟩
      · have hp' : 0 < xs.length := by have := of_decide_eq_true hp; (first | lia | omega)
        walk_at "w"
        refine ⟨u, rfl, ⟨_, SqT.of e⟩, ?_⟩
        refine comp_tupP (fun i acc _ => acc = (ds.take i).map fun d => V.bl (isSignD d)) (SqT.of e) (by rw [sizeLine_eq]; (first | lia | omega)) rfl (fun i x acc H3 H3' hx s3 s3' hp R hR => ?_) (fun D acc H3 H3' hD hD3 s3 s3' hp hl hv => ?_)
        · have hi : i < xs.length := (List.getElem?_eq_some_iff.mp hx).1
          have hdi : ds[i]? = some ds[i] := List.getElem?_eq_getElem (by (first | lia | omega))
          obtain ⟨x', e1, e2⟩ := r.get hdi
          rw [hx] at e1; cases e1
          walk_at "w"
          refine ⟨x, _, rfl, e2.same (s3.trans s3'), hR _ _ (Same.refl _) fun H6 _ _ => ?_⟩
          rw [hp, List.take_succ, hdi, List.map_append]
          rfl
        · walk_at "w"
          refine ⟨D, ds.map isSignD, rfl, SqL.of ?_, ?_⟩
          · rw [hv, hp, hxl, List.take_length, List.map_map]; rfl
          · walk_at "w"
            have z := q H3' (s3.trans s3')
            have e3 : signsD (.tuple ds) = (ds.map isSignD).all id := by
              simp only [signsD, List.all_map]
              rw [decide_eq_true (by (first | lia | omega) : 0 < ds.length)]
              rfl
            rw [e3] at z
            exact z
      · have hn' : xs.length = 0 := by have := of_decide_eq_false hn; (first | lia | omega)
        have e3 : signsD (.tuple ds) = false := by
          have : ds = [] := List.length_eq_zero_iff.mp (by (first | lia | omega))
          rw [this]; rfl
        have z := q H (Same.refl _)
        rw [e3] at z
        exact z
    | non =>
      walk_at "w"
      refine ⟨_, _, _, _, false, rfl, rfl, TyOf.non, rfl, ?_⟩
      walk_at "w"
      exact ⟨by walk_at "no", fun _ => q H (Same.refl _)⟩
    | bl b =>
      walk_at "w"
      refine ⟨_, _, _, _, false, rfl, rfl, TyOf.bl _, rfl, ?_⟩
      walk_at "w"
      exact ⟨by walk_at "no", fun _ => q H (Same.refl _)⟩
    | int i =>
      walk_at "w"
      refine ⟨_, _, _, _, false, rfl, rfl, TyOf.int _, rfl, ?_⟩
      walk_at "w"
      exact ⟨by walk_at "no", fun _ => q H (Same.refl _)⟩
    | str x =>
      walk_at "w"
      refine ⟨_, _, _, _, false, rfl, rfl, TyOf.str _, rfl, ?_⟩
      walk_at "w"
      exact ⟨by walk_at "no", fun _ => q H (Same.refl _)⟩
    | lst e r =>
      walk_at "w"
      refine ⟨_, _, _, _, false, rfl, rfl, TyOf.lst e, rfl, ?_⟩
      walk_at "w"
      exact ⟨by walk_at "no", fun _ => q H (Same.refl _)⟩
theorem eqv_str {d : PyData} {x : Str} (h : PyData.eqv d (.str x) = true) : d = .str x := by
  cases d <;> simp [PyData.eqv] at h
  all_goals first | (rw [h]) | (exact h.elim) | skip
theorem ok_tells_take (T : Txt K mg a) : FnOk P w K mg base CX0 3 a.f_tells_take a.d_tells_take ["told"] sp_tells_takeA := by
  refine T.F_tells_take.ok sc_tells_take (fun vs H Q E h => ?_) (fun cdv A outer s H vs Q E hr h => ?_)
  · obtain ⟨v, d, rfl, _⟩ := h; rfl
  · obtain ⟨v, d, rfl, hd, ht, q⟩ := h
    have nd := sc_tells_take.nd
    refine ⟨_, (pss_cons (cs_if (PW.pt (cw_or (pt_not (ct_val (pe_callB (isiK (K := K) rfl) (by rfl) T.n_isinstance bt_isinstance (pa_cons (cv 0) (pa_cons (pe_bltn (v := .ty "tuple") (by rfl) T.n_tuple bt_tuple rfl) pa_nil))))) (cw_or (ct_cmp o_neI (pe_callB (lenqK (K := K) rfl) (by rfl) T.n_len bt_len (pa_cons (cv 0) pa_nil)) pe_int) (pw_or1 (ct_cmp (dneK (K := K) rfl hr.units) (pe_ix (ix_tupK (K := K) rfl) (cv 0) pe_int (fun _ _ => rfl)) pe_str))))) (pss_one (ps_ret pe_bl)) pss_nil)
    (pss_one (ps_ret (ce_and (pe_call (ok_is_whole_from (P := P) (w := w) (K := K) (mg := mg) (base := base) T) (hr.mono (by decide)) (by rfl) T.m_is_whole_from T.F_is_whole_from.kp T.b_is_whole_from .nil pass0 (pa_cons pe_int (pa_cons (pe_ix (ix_tupK (K := K) rfl) (cv 0) pe_int (fun _ _ => rfl)) pa_nil))) (ce_and (pe_call (ok_is_whole_from (P := P) (w := w) (K := K) (mg := mg) (base := base) T) (hr.mono (by decide)) (by rfl) T.m_is_whole_from T.F_is_whole_from.kp T.b_is_whole_from .nil pass0 (pa_cons pe_int (pa_cons (pe_ix (ix_tupK (K := K) rfl) (cv 0) pe_int (fun _ _ => rfl)) pa_nil))) (pe_one (pe_call (ok_is_whole_from (P := P) (w := w) (K := K) (mg := mg) (base := base) T) (hr.mono (by decide)) (by rfl) T.m_is_whole_from T.F_is_whole_from.kp T.b_is_whole_from .nil pass0 (pa_cons pe_int (pa_cons (pe_ix (ix_tupK (K := K) rfl) (cv 0) pe_int (fun _ _ => rfl)) pa_nil))))))))), ?_⟩
    cases hd with
    | tup e r =>
      rename_i u xs ds
      have hxl := r.length
      walk_at "w"
      refine ⟨_, _, _, _, true, rfl, rfl, TyOf.tup e, rfl, ?_⟩
      walk_at "w"
      refine ⟨by walk_at "no", fun _ => ?_⟩
      walk_at "w"
      refine ⟨u, _, rfl, .inr (SqT.of e), ?_⟩
      walk_at "w"
      refine ⟨fun hn => ?_, fun hl => ?_⟩
      · have e3 : takeD (.tuple ds) = false := by
          have hn' : ¬ ds.length = 4 := by
            have := of_decide_eq_false (by simpa using hn : decide ((xs.length : Int) = 4) = false)
            (first | lia | omega)
          match ds, hn' with
          | [], _ => rfl
          | [_], _ => rfl
          | [_, _], _ => rfl
          | [_, _, _], _ => rfl
          | [_, _, _, _], z => exact absurd rfl z
          | _ :: _ :: _ :: _ :: _ :: _, _ => rfl
        rw [e3] at q
        exact ⟨fun _ => q, by walk_at "no"⟩
      · have hl' : ds.length = 4 := by
          have := of_decide_eq_true (by simpa using hl : decide ((xs.length : Int) = 4) = true)
          (first | lia | omega)
        have ht := ht _ rfl
        obtain ⟨d0, ds1, rfl, l1⟩ := lenc hl'
        obtain ⟨d1, ds2, rfl, l2⟩ := lenc l1
        obtain ⟨d2, ds3, rfl, l3⟩ := lenc l2
        obtain ⟨d3, ds4, rfl, l4⟩ := lenc l3
        obtain rfl := List.eq_nil_of_length_eq_zero l4
        obtain ⟨x0, xs1, rfl, r0, p1⟩ := r.unc
        obtain ⟨x1, xs2, rfl, r1, p2⟩ := p1.unc
        obtain ⟨x2, xs3, rfl, r2, p3⟩ := p2.unc
        obtain ⟨x3, xs4, rfl, r3, p4⟩ := p3.unc
        obtain rfl := p4.unn
        clear p1 p2 p3 p4 l1 l2 l3 l4
        next =>
          walk_at "w"
          refine ⟨u, _, _, x0, rfl, rfl, SqT.of e, rfl, ?_⟩
          walk_at "w"
          refine ⟨d0, .str "take", r0.rp, .str _, ht.1 _ rfl, by decide +kernel, ?_⟩
          walk_at "w"
          refine ⟨fun e1 => ?_, fun e1 => ?_⟩
          · have e2 : PyData.eqv d0 (.str "take") = false := by simpa using e1
            simp only [takeD, e2, Bool.false_and] at q
            exact q
          · have e2 : PyData.eqv d0 (.str "take") = true := by simpa using e1
            simp only [takeD, e2, Bool.true_and] at q
            walk_at "w"
            refine ⟨u, _, _, x1, rfl, rfl, SqT.of e, rfl, ?_⟩
            walk_at "w"
            refine ⟨_, x1, d1, rfl, r1, ?_⟩
            walk_at "w"
            refine ⟨fun e3 => ?_, fun e3 => ?_⟩
            · rw [e3, Bool.true_and] at q
              walk_at "w"
              refine ⟨u, _, _, x2, rfl, rfl, SqT.of e, rfl, ?_⟩
              walk_at "w"
              refine ⟨_, x2, d2, rfl, r2, ?_⟩
              walk_at "w"
              refine ⟨fun e4 => ?_, fun e4 => ?_⟩
              · rw [e4, Bool.true_and] at q
                walk_at "w"
                refine ⟨u, _, _, x3, rfl, rfl, SqT.of e, rfl, ?_⟩
                walk_at "w"
                exact ⟨_, x3, d3, rfl, r3, q⟩
              · rw [e4, Bool.false_and] at q
                first | exact q | (rw [e4]; exact q)
            · rw [e3, Bool.false_and] at q
              first | exact q | (rw [e3]; exact q)
    | non =>
      walk_at "w"
      refine ⟨_, _, _, _, false, rfl, rfl, TyOf.non, rfl, ?_⟩
      walk_at "w"
      exact ⟨fun _ => ⟨fun _ => q, by walk_at "no"⟩, by walk_at "no"⟩
    | bl b =>
      walk_at "w"
      refine ⟨_, _, _, _, false, rfl, rfl, TyOf.bl _, rfl, ?_⟩
      walk_at "w"
      exact ⟨fun _ => ⟨fun _ => q, by walk_at "no"⟩, by walk_at "no"⟩
    | int i =>
      walk_at "w"
      refine ⟨_, _, _, _, false, rfl, rfl, TyOf.int _, rfl, ?_⟩
      walk_at "w"
      exact ⟨fun _ => ⟨fun _ => q, by walk_at "no"⟩, by walk_at "no"⟩
    | str x =>
      walk_at "w"
      refine ⟨_, _, _, _, false, rfl, rfl, TyOf.str _, rfl, ?_⟩
      walk_at "w"
      exact ⟨fun _ => ⟨fun _ => q, by walk_at "no"⟩, by walk_at "no"⟩
    | lst e r =>
      walk_at "w"
      refine ⟨_, _, _, _, false, rfl, rfl, TyOf.lst e, rfl, ?_⟩
      walk_at "w"
      exact ⟨fun _ => ⟨fun _ => q, by walk_at "no"⟩, by walk_at "no"⟩
theorem ok_tells_put (T : Txt K mg a) : FnOk P w K mg base CX0 4 a.f_tells_put a.d_tells_put ["told"] sp_tells_putA := by
  refine T.F_tells_put.ok sc_tells_put (fun vs H Q E h => ?_) (fun cdv A outer s H vs Q E hr h => ?_)
  · obtain ⟨v, d, rfl, _⟩ := h; rfl
  · obtain ⟨v, d, rfl, hd, ht, q⟩ := h
    have nd := sc_tells_put.nd
    refine ⟨_, (pss_cons (cs_if (PW.pt (cw_or (pt_not (ct_val (pe_callB (isiK (K := K) rfl) (by rfl) T.n_isinstance bt_isinstance (pa_cons (cv 0) (pa_cons (pe_bltn (v := .ty "tuple") (by rfl) T.n_tuple bt_tuple rfl) pa_nil))))) (cw_or (ct_cmp o_neI (pe_callB (lenqK (K := K) rfl) (by rfl) T.n_len bt_len (pa_cons (cv 0) pa_nil)) pe_int) (pw_or1 (ct_cmp (dneK (K := K) rfl hr.units) (pe_ix (ix_tupK (K := K) rfl) (cv 0) pe_int (fun _ _ => rfl)) pe_str))))) (pss_one (ps_ret pe_bl)) pss_nil)
    (pss_one (ps_ret (ce_and (pe_call (ok_is_whole_from (P := P) (w := w) (K := K) (mg := mg) (base := base) T) (hr.mono (by decide)) (by rfl) T.m_is_whole_from T.F_is_whole_from.kp T.b_is_whole_from .nil pass0 (pa_cons pe_int (pa_cons (pe_ix (ix_tupK (K := K) rfl) (cv 0) pe_int (fun _ _ => rfl)) pa_nil))) (pe_one (pe_call (ok_are_signs (P := P) (w := w) (K := K) (mg := mg) (base := base) T) (hr.mono (by decide)) (by rfl) T.m_are_signs T.F_are_signs.kp T.b_are_signs .nil pass0 (pa_cons (pe_ix (ix_tupK (K := K) rfl) (cv 0) pe_int (fun _ _ => rfl)) pa_nil))))))), ?_⟩
    cases hd with
    | tup e r =>
      rename_i u xs ds
      have hxl := r.length
      walk_at "w"
      refine ⟨_, _, _, _, true, rfl, rfl, TyOf.tup e, rfl, ?_⟩
      walk_at "w"
      refine ⟨by walk_at "no", fun _ => ?_⟩
      walk_at "w"
      refine ⟨u, _, rfl, .inr (SqT.of e), ?_⟩
      walk_at "w"
      refine ⟨fun hn => ?_, fun hl => ?_⟩
      · have e3 : putD (.tuple ds) = false := by
          have hn' : ¬ ds.length = 3 := by
            have := of_decide_eq_false (by simpa using hn : decide ((xs.length : Int) = 3) = false)
            (first | lia | omega)
          match ds, hn' with
          | [], _ => rfl
          | [_], _ => rfl
          | [_, _], _ => rfl
          | [_, _, _], z => exact absurd rfl z
          | _ :: _ :: _ :: _ :: _, _ => rfl
        have z := q H (Same.refl _)
        rw [e3] at z
        exact ⟨fun _ => z, by walk_at "no"⟩
      · have hl' : ds.length = 3 := by
          have := of_decide_eq_true (by simpa using hl : decide ((xs.length : Int) = 3) = true)
          (first | lia | omega)
        have ht := ht _ rfl
        obtain ⟨d0, ds1, rfl, l1⟩ := lenc hl'
        obtain ⟨d1, ds2, rfl, l2⟩ := lenc l1
        obtain ⟨d2, ds3, rfl, l3⟩ := lenc l2
        obtain rfl := List.eq_nil_of_length_eq_zero l3
        obtain ⟨x0, xs1, rfl, r0, p1⟩ := r.unc
        obtain ⟨x1, xs2, rfl, r1, p2⟩ := p1.unc
        obtain ⟨x2, xs3, rfl, r2, p3⟩ := p2.unc
        obtain rfl := p3.unn
        clear p1 p2 p3 l1 l2 l3
        next =>
          walk_at "w"
          refine ⟨u, _, _, x0, rfl, rfl, SqT.of e, rfl, ?_⟩
          walk_at "w"
          refine ⟨d0, .str "put", r0.rp, .str _, ht.1 _ rfl, by decide +kernel, ?_⟩
          walk_at "w"
          refine ⟨fun e1 => ?_, fun e1 => ?_⟩
          · have e2 : PyData.eqv d0 (.str "put") = false := by simpa using e1
            have z := q H (Same.refl _)
            simp only [putD, e2, Bool.false_and] at z
            exact z
          · have e2 : PyData.eqv d0 (.str "put") = true := by simpa using e1
            simp only [putD, e2, Bool.true_and] at q
            walk_at "w"
            refine ⟨u, _, _, x1, rfl, rfl, SqT.of e, rfl, ?_⟩
            walk_at "w"
            refine ⟨_, x1, d1, rfl, r1, ?_⟩
            walk_at "w"
            refine ⟨fun e3 => ?_, fun e3 => ?_⟩
            · rw [e3] at q
              simp only [Bool.true_and] at q
              walk_at "w"
              refine ⟨u, _, _, x2, rfl, rfl, SqT.of e, rfl, ?_⟩
              walk_at "w"
              exact ⟨x2, d2, rfl, r2, fun es z => ht.2 _ es rfl z, q⟩
            · have z := q H (Same.refl _)
              rw [e3, Bool.false_and] at z
              first | exact z | (rw [e3]; exact z)
    | non =>
      walk_at "w"
      refine ⟨_, _, _, _, false, rfl, rfl, TyOf.non, rfl, ?_⟩
      walk_at "w"
      exact ⟨fun _ => ⟨fun _ => q H (Same.refl _), by walk_at "no"⟩, by walk_at "no"⟩
    | bl b =>
      walk_at "w"
      refine ⟨_, _, _, _, false, rfl, rfl, TyOf.bl _, rfl, ?_⟩
      walk_at "w"
      exact ⟨fun _ => ⟨fun _ => q H (Same.refl _), by walk_at "no"⟩, by walk_at "no"⟩
    | int i =>
      walk_at "w"
      refine ⟨_, _, _, _, false, rfl, rfl, TyOf.int _, rfl, ?_⟩
      walk_at "w"
      exact ⟨fun _ => ⟨fun _ => q H (Same.refl _), by walk_at "no"⟩, by walk_at "no"⟩
    | str x =>
      walk_at "w"
      refine ⟨_, _, _, _, false, rfl, rfl, TyOf.str _, rfl, ?_⟩
      walk_at "w"
      exact ⟨fun _ => ⟨fun _ => q H (Same.refl _), by walk_at "no"⟩, by walk_at "no"⟩
    | lst e r =>
      walk_at "w"
      refine ⟨_, _, _, _, false, rfl, rfl, TyOf.lst e, rfl, ?_⟩
      walk_at "w"
      exact ⟨fun _ => ⟨fun _ => q H (Same.refl _), by walk_at "no"⟩, by walk_at "no"⟩
theorem takeD_row {d : PyData} (h : takeD d = true) : ∃ to st c, d = .tuple [.str "take", .int to, .int st, .int c] ∧ 0 ≤ to ∧ 0 ≤ st ∧ 1 ≤ c := by
  unfold takeD at h
  split at h
  · rename_i w x y z
    simp only [Bool.and_eq_true] at h
    obtain ⟨h1, h2, h3, h4⟩ := h
    obtain ⟨i, rfl, hi⟩ := wholeFrom_int h2
    obtain ⟨j, rfl, hj⟩ := wholeFrom_int h3
    obtain ⟨k, rfl, hk⟩ := wholeFrom_int h4
    rw [eqv_str h1]
    exact ⟨i, j, k, rfl, hi, hj, hk⟩
  · cases h
theorem putD_row {d : PyData} (h : putD d = true) : ∃ to sg, d = .tuple [.str "put", .int to, .tuple (sg.map PyData.int)] ∧ 0 ≤ to ∧ sg ≠ [] ∧ ∀ x ∈ sg, (x.natAbs : Int) < 10 ^ 60 := by
  unfold putD at h
  split at h
  · rename_i w x y
    simp only [Bool.and_eq_true] at h
    obtain ⟨h1, h2, h3⟩ := h
    obtain ⟨i, rfl, hi⟩ := wholeFrom_int h2
    obtain ⟨sg, rfl, hs, hb⟩ := signsD_ints h3
    rw [eqv_str h1]
    exact ⟨i, sg, rfl, hi, hs, hb⟩
  · cases h
theorem Dvs.vals {H : Hp} {xs : List V} {sg : List Int} (h : Dvs H xs (sg.map PyData.int)) : xs = sg.map V.int := by
  induction sg generalizing xs with
  | nil => exact h.unn
  | cons i sg ih =>
    obtain ⟨_, xs1, rfl, r0, h1⟩ := h.unc
    rw [r0.unI, ih h1]; rfl
theorem Dvs.take4 {H : Hp} {x : Str} {i j k : Int} {xs : List V} (h : Dvs H xs [.str x, .int i, .int j, .int k]) : xs = [.str x, .int i, .int j, .int k] := by
  obtain ⟨_, xs1, rfl, r0, h1⟩ := h.unc
  obtain ⟨_, xs2, rfl, r1, h2⟩ := h1.unc
  obtain ⟨_, xs3, rfl, r2, h3⟩ := h2.unc
  obtain ⟨_, xs4, rfl, r3, h4⟩ := h3.unc
  rw [r0.unS, r1.unI, r2.unI, r3.unI, h4.unn]
theorem Dvs.put3 {H : Hp} {x : Str} {i : Int} {sg : List Int} {xs : List V} (h : Dvs H xs [.str x, .int i, .tuple (sg.map PyData.int)]) : ∃ u, xs = [.str x, .int i, .ref u] ∧ H u = some (.tup (sg.map V.int)) := by
  obtain ⟨_, xs1, rfl, r0, h1⟩ := h.unc
  obtain ⟨_, xs2, rfl, r1, h2⟩ := h1.unc
  obtain ⟨_, xs3, rfl, r2, h3⟩ := h2.unc
  obtain ⟨u, ys, e, hu, r⟩ := r2.unT
  refine ⟨u, by rw [r0.unS, r1.unI, e, h3.unn], ?_⟩
  rw [← r.vals]; exact hu
theorem ok_row_of (T : Txt K mg a) : FnOk P w K mg base (CXE P w) 5 a.f_row_of a.d_row_of ["told"] (sp_row_ofX K a) := by
  refine T.F_row_of.okX sc_row_of (fun vs H Q E h => ?_) (fun cdv A outer s H vs Q E hr h => ?_)
  · obtain ⟨v, d, rfl, _⟩ := h; rfl
  · obtain ⟨v, d, rfl, hd, ht, q1, q2, q3⟩ := h
    have nd := sc_row_of.nd
    refine ⟨_, (pss_cons (cs_if (ct_val (pe_call (ok_tells_take (P := P) (w := w) (K := K) (mg := mg) (base := base) T) (hr.mono (by decide)) (by rfl) T.m_tells_take T.F_tells_take.kp T.b_tells_take .nil pass0 (pa_cons (cv 0) pa_nil))) (pss_one (ps_ret (pe_make T.mk_Take (ok_Take_init (P := P) (w := w) (K := K) (mg := mg) (base := base) T) (hr.mono (by decide)) (by rfl) T.m_Take T.b_Take_init .nil pass0 (pa_cons (pe_ix (ix_tupK (K := K) rfl) (cv 0) pe_int (fun _ _ => rfl)) (pa_cons (pe_ix (ix_tupK (K := K) rfl) (cv 0) pe_int (fun _ _ => rfl)) (pa_cons (pe_ix (ix_tupK (K := K) rfl) (cv 0) pe_int (fun _ _ => rfl)) pa_nil)))))) pss_nil)
    (pss_cons (cs_if (ct_val (pe_call (ok_tells_put (P := P) (w := w) (K := K) (mg := mg) (base := base) T) (hr.mono (by decide)) (by rfl) T.m_tells_put T.F_tells_put.kp T.b_tells_put .nil pass0 (pa_cons (cv 0) pa_nil))) (pss_one (ps_ret (pe_make T.mk_Put (ok_Put_init (P := P) (w := w) (K := K) (mg := mg) (base := base) T) (hr.mono (by decide)) (by rfl) T.m_Put T.b_Put_init .nil pass0 (pa_cons (pe_ix (ix_tupK (K := K) rfl) (cv 0) pe_int (fun _ _ => rfl)) (pa_cons (pe_ix (ix_tupK (K := K) rfl) (cv 0) pe_int (fun _ _ => rfl)) pa_nil))))) pss_nil)
    (pss_one (ps_raise ⟨rfl, rfl, rfl⟩ rfl T.x_NoRow (by rfl) T.m_NoRow (pa_cons pe_str pa_nil))))), ?_⟩
    walk_at "w"
    refine ⟨v, d, rfl, hd, ht, ?_⟩
    walk_at "w"
    refine ⟨fun e => ?_, fun e => ?_⟩
    · obtain ⟨to, st, c, rfl, k1, k2, k3⟩ := takeD_row e
      cases hd with
      | tup h1 r =>
        rename_i t xs
        have ex := r.take4
        subst ex
        walk_at "w"
        refine ⟨t, _, _, .int to, rfl, rfl, SqT.of h1, rfl, ?_⟩
        walk_at "w"
        refine ⟨t, _, _, .int st, rfl, rfl, SqT.of h1, rfl, ?_⟩
        walk_at "w"
        refine ⟨t, _, _, .int c, rfl, rfl, SqT.of h1, rfl, ?_⟩
        walk_at "w"
        intro x dx hx hdx hne
        generalize hU : upd H dx (.own x) = H3
        have sH3 := Same.of_eq hdx hU
        have hx3 : H3 x = none := by rw [← hU, upd_ne (Ne.symm hne)]; exact hx
        refine ⟨x, dx, _, _, _, rfl, upd_same, ?_⟩
        rw [upd_upd]
        walk_at "w"
        exact ⟨rfl, q1 to st c rfl k1 k2 k3 x _ (sH3.trans (Same.new hx3)) hx ⟨dx, upd_same⟩⟩
    · walk_at "w"
      refine ⟨v, d, rfl, hd, ht, fun H2 s2 => ?_⟩
      walk_at "w"
      refine ⟨fun e2 => ?_, fun e2 => ?_⟩
      · obtain ⟨to, sg, rfl, k1, k2, k3⟩ := putD_row e2
        cases hd with
        | tup h1 r =>
          rename_i t xs
          obtain ⟨u, rfl, h2⟩ := r.put3
          walk_at "w"
          refine ⟨t, _, _, .int to, rfl, rfl, SqT.of (s2.at h1), rfl, ?_⟩
          walk_at "w"
          refine ⟨t, _, _, .ref u, rfl, rfl, SqT.of (s2.at h1), rfl, ?_⟩
          walk_at "w"
          intro x dx hx hdx hne
          generalize hU : upd H2 dx (.own x) = H3
          have sH3 := Same.of_eq hdx hU
          have hx3 : H3 x = none := by rw [← hU, upd_ne (Ne.symm hne)]; exact hx
          refine ⟨x, dx, u, _, _, rfl, upd_same, (sH3.trans (Same.new hx3)).seqT (SqT.of (s2.at h2)), ?_⟩
          rw [upd_upd]
          walk_at "w"
          refine ⟨rfl, q2 to sg rfl k1 k2 k3 x _ (s2.trans (sH3.trans (Same.new hx3))) (s2.back hx) ⟨dx, u, ?_, (s2.trans (sH3.trans (Same.new hx3))).at h2⟩⟩
          rw [upd_same, List.length_map]
      · walk_at "w"
        exact ⟨by decide, q3 e e2 H2 s2⟩
theorem ok_Row_covered (T : Txt K mg a) : FnOk P w K mg base CX0 1 a.f_Row_covered a.d_Row_covered ["self"] (sp_covered K) := by
  refine T.F_Row_covered.ok sc_Row_covered (fun vs H Q E h => ?_) (fun cdv A outer s H vs Q E hr h => ?_)
  · obtain ⟨p, C, dx, fs, to, c, rfl, _⟩ := h; rfl
  · obtain ⟨p, C, dx, fs, to, c, rfl, hp, cl, n1, n2, l1, l2, hc, k⟩ := h
    have nd := sc_Row_covered.nd
    refine ⟨_, (pss_one (ps_ret (pe_callTy (call_list_rng rfl) (by rfl) T.n_list bt_list (pa_cons (ce_range2 (by rfl) T.n_range (pa_cons (fldK (K := K) rfl (cv 0) rfl) (pa_cons (pe_op o_add (fldK (K := K) rfl (cv 0) rfl) (fldK (K := K) rfl (cv 0) rfl)) pa_nil))) pa_nil)))), ?_⟩
    walk_at "w"
    refine ⟨p, C, dx, fs, _, rfl, hp, cl, n1, l1, ?_⟩
    walk_at "w"
    refine ⟨p, C, dx, fs, _, rfl, hp, cl, n1, l1, ?_⟩
    walk_at "w"
    refine ⟨p, C, dx, fs, _, rfl, hp, cl, n2, l2, ?_⟩
    walk_at "w"
    intro r hr1
    walk_at "w"
    have e : rngN to (to + c) 1 = c.toNat := by rw [rngN_one]; congr 1; (first | lia | omega)
    refine ⟨r, to, to + c, rfl, upd_same, by rw [e]; exact hc, fun l hl => ?_⟩
    rw [e, rngV_eq]
    have hl0 : H l = none := Same.free (Same.new hr1) hl
    exact k l _ ((Same.new hr1).put hl0) hl0 upd_same
theorem takeD_take {to st c : Int} (k1 : 0 ≤ to) (k2 : 0 ≤ st) (k3 : 1 ≤ c) : takeD (.tuple [.str "take", .int to, .int st, .int c]) = true := by
  show (PyData.eqv (.str "take") (.str "take") && (decide (0 ≤ to) && (decide (0 ≤ st) && decide (1 ≤ c)))) = true
  rw [decide_eq_true k1, decide_eq_true k2, decide_eq_true k3]
  decide +kernel
theorem isSigns_all {sg : List Int} (h : ∀ x ∈ sg, (x.natAbs : Int) < 10 ^ 60) : (sg.map PyData.int).all isSignD = true := by
  rw [List.all_eq_true]
  intro d hd
  obtain ⟨x, hx, rfl⟩ := List.mem_map.mp hd
  cases e : isSignD (.int x) with
  | true => rfl
  | false =>
    unfold isSignD at e
    exact absurd (h x hx) (of_decide_eq_false e)
theorem putD_put {to : Int} {sg : List Int} (k1 : 0 ≤ to) (k2 : sg ≠ []) (k3 : ∀ x ∈ sg, (x.natAbs : Int) < 10 ^ 60) : putD (.tuple [.str "put", .int to, .tuple (sg.map PyData.int)]) = true := by
  show (PyData.eqv (.str "put") (.str "put") && (decide (0 ≤ to) && (decide (0 < (sg.map PyData.int).length) && (sg.map PyData.int).all isSignD))) = true
  have : 0 < (sg.map PyData.int).length := by rw [List.length_map]; exact List.length_pos_iff.mpr k2
  rw [decide_eq_true k1, decide_eq_true this, isSigns_all k3]
  decide +kernel
theorem tell_of {x : PyData} {ds : List PyData} (hx : SeqAt.shaped x = true) (h : ∀ es, ds[1]? = some (.tuple es) → es.length ≤ 100000) : TellOk (.tuple (x :: ds)) := by
  intro ds' e
  cases e
  refine ⟨fun y hy => ?_, fun y es hy he => ?_⟩
  · cases hy; exact hx
  · subst he; exact h es hy
theorem takeD_cons (w x y z : PyData) : takeD (.tuple [w, x, y, z]) = (PyData.eqv w (.str "take") && (wholeFrom 0 x && (wholeFrom 0 y && wholeFrom 1 z))) := rfl
theorem putD_cons (w x y : PyData) : putD (.tuple [w, x, y]) = (PyData.eqv w (.str "put") && (wholeFrom 0 x && signsD y)) := rfl
theorem tell_nt {d : PyData} (h : ∀ es, d ≠ .tuple es) : TellOk d := fun ds e => absurd e (h ds)
theorem ok_Row_covers (T : Txt K mg a) : FnOk P w K mg base CX0 1 a.f_Row_covers a.d_Row_covers ["self"] (sp_covers K) := by
  refine T.F_Row_covers.ok sc_Row_covers (fun vs H Q E h => ?_) (fun cdv A outer s H vs Q E hr h => ?_)
  · obtain ⟨p, C, dx, fs, to, c, rfl, _⟩ := h; rfl
  · obtain ⟨p, C, dx, fs, to, c, rfl, hp, cl, n1, n2, l1, l2, k⟩ := h
    have nd := sc_Row_covers.nd
    refine ⟨_, (pss_one (ps_ret (pe_tup (pa_cons (fldK (K := K) rfl (cv 0) rfl) (pa_cons (pe_op o_add (fldK (K := K) rfl (cv 0) rfl) (fldK (K := K) rfl (cv 0) rfl)) pa_nil))))), ?_⟩
    walk_at "w"
    refine ⟨p, C, dx, fs, _, rfl, hp, cl, n1, l1, ?_⟩
    walk_at "w"
    refine ⟨p, C, dx, fs, _, rfl, hp, cl, n1, l1, ?_⟩
    walk_at "w"
    refine ⟨p, C, dx, fs, _, rfl, hp, cl, n2, l2, ?_⟩
    walk_at "w"
    exact ⟨by walk_at "side", k⟩
theorem filterMap_ints (sg : List Int) : (sg.map PyData.int).filterMap intOf = sg := by
  induction sg with
  | nil => rfl
  | cons x r ih => rw [List.map_cons, List.filterMap_cons]; exact congrArg (x :: ·) ih
theorem rowD_take {to st c : Int} (k1 : 0 ≤ to) (k2 : 0 ≤ st) (k3 : 1 ≤ c) : rowD (.tuple [.str "take", .int to, .int st, .int c]) = some (.take to st c) := by
  show (if takeD (.tuple [.str "take", .int to, .int st, .int c]) = true then some (RowD.take to st c) else none) = _
  rw [takeD_take k1 k2 k3]; rfl
theorem rowD_put {to : Int} {sg : List Int} (k1 : 0 ≤ to) (k2 : sg ≠ []) (k3 : ∀ x ∈ sg, (x.natAbs : Int) < 10 ^ 60) : rowD (.tuple [.str "put", .int to, .tuple (sg.map PyData.int)]) = some (.put to sg) := by
  show (if putD (.tuple [.str "put", .int to, .tuple (sg.map PyData.int)]) = true then some (RowD.put to ((sg.map PyData.int).filterMap intOf)) else none) = _
  rw [putD_put k1 k2 k3, filterMap_ints]; rfl
theorem rowD_none {d : PyData} (h1 : takeD d = false) (h2 : putD d = false) : rowD d = none := by
  unfold rowD
  split
  · rw [h1]; rfl
  · rw [h2]; rfl
  · rfl
theorem ok_is_length (T : Txt K mg a) : FnOk P w K mg base CX0 3 a.f_is_length a.d_is_length ["value"] sp_is_length := by
  refine T.F_is_length.ok sc_is_length (fun vs H Q E h => ?_) (fun cdv A outer s H vs Q E hr h => ?_)
  · obtain ⟨v, d, rfl, _⟩ := h; rfl
  · obtain ⟨v, d, rfl, hd, q⟩ := h
    have nd := sc_is_length.nd
    refine ⟨_, (pss_one (ps_ret (ce_and (pe_call (ok_is_whole_from (P := P) (w := w) (K := K) (mg := mg) (base := base) T) (hr.mono (by decide)) (by rfl) T.m_is_whole_from T.F_is_whole_from.kp T.b_is_whole_from .nil pass0 (pa_cons pe_int (pa_cons (cv 0) pa_nil))) (pe_one (ce_cmp o_le (cv 0) (pe_glob (v := .int 300) (by rfl) T.m_MOST ⟨_, rfl⟩)))))), ?_⟩
    walk_at "w"
    refine ⟨_, v, d, rfl, hd, ?_⟩
    cases hd with
    | int i =>
      walk_at "w"
      refine ⟨fun e => ?_, fun e => ?_⟩
      · have e' : decide (0 ≤ i) = true := e
        simp only [lenD, e', Bool.true_and] at q
        exact q
      · have e' : decide (0 ≤ i) = false := e
        simp only [lenD, e', Bool.false_and] at q
        exact q
    | _ =>
      walk_at "w"
      exact ⟨by walk_at "no", fun _ => q⟩
theorem ok_fits_in_size (T : Txt K mg a) : FnOk P w K mg base CX0 4 a.f_fits_in_size a.d_fits_in_size ["paper"] sp_fits := by
  refine T.F_fits_in_size.ok sc_fits_in_size (fun vs H Q E h => ?_) (fun cdv A outer s H vs Q E hr h => ?_)
  · obtain ⟨p, tt, vo, vn, dO, dN, xs, rfl, _⟩ := h; rfl
  · obtain ⟨p, tt, vo, vn, dO, dN, xs, rfl, hp, ho, hn, ht, q⟩ := h
    have nd := sc_fits_in_size.nd
    refine ⟨_, (pss_one (ps_ret (ce_and (pe_call (ok_is_length (P := P) (w := w) (K := K) (mg := mg) (base := base) T) (hr.mono (by decide)) (by rfl) T.m_is_length T.F_is_length.kp T.b_is_length .nil pass0 (pa_cons (pe_ix (ix_tupK (K := K) rfl) (cv 0) pe_int (fun _ _ => rfl)) pa_nil)) (ce_and (pe_call (ok_is_length (P := P) (w := w) (K := K) (mg := mg) (base := base) T) (hr.mono (by decide)) (by rfl) T.m_is_length T.F_is_length.kp T.b_is_length .nil pass0 (pa_cons (pe_ix (ix_tupK (K := K) rfl) (cv 0) pe_int (fun _ _ => rfl)) pa_nil)) (pe_one (ce_cmp o_le (pe_callB (lenqK (K := K) rfl) (by rfl) T.n_len bt_len (pa_cons (pe_ix (ix_tupK (K := K) rfl) (cv 0) pe_int (fun _ _ => rfl)) pa_nil)) (pe_glob (v := .int 300) (by rfl) T.m_MOST ⟨_, rfl⟩))))))), ?_⟩
    walk_at "w"
    refine ⟨p, _, _, vo, rfl, rfl, SqT.of hp, rfl, ?_⟩
    walk_at "w"
    refine ⟨vo, dO, rfl, ho, ?_⟩
    walk_at "w"
    refine ⟨fun e => ?_, fun e => by rw [e, Bool.false_and] at q; exact q⟩
    rw [e, Bool.true_and] at q
    walk_at "w"
    refine ⟨p, _, _, vn, rfl, rfl, SqT.of hp, rfl, ?_⟩
    walk_at "w"
    refine ⟨vn, dN, rfl, hn, ?_⟩
    walk_at "w"
    refine ⟨fun e2 => ?_, fun e2 => by rw [e2, Bool.false_and] at q; exact q⟩
    rw [e2, Bool.true_and] at q
    walk_at "w"
    refine ⟨p, _, _, .ref tt, rfl, rfl, SqT.of hp, rfl, ?_⟩
    walk_at "w"
    refine ⟨tt, _, rfl, .inr (SqT.of ht), ?_⟩
    have e3 : decide (xs.length ≤ 300) = decide ((xs.length : Int) ≤ 300) := by congr 1; exact propext ⟨fun z => by (first | lia | omega), fun z => by (first | lia | omega)⟩
    rw [e3] at q
    exact q
theorem ok_is_fitting_row (T : Txt K mg a) : FnOk P w K mg base CX0 6 a.f_is_fitting_row a.d_is_fitting_row ["told", "old", "new"] sp_fitting := by
  refine T.F_is_fitting_row.ok sc_is_fitting_row (fun vs H Q E h => ?_) (fun cdv A outer s H vs Q E hr h => ?_)
  · obtain ⟨v, d, old, new, rfl, _⟩ := h; rfl
  · obtain ⟨v, d, old, new, rfl, hd, ht, q⟩ := h
    have nd := sc_is_fitting_row.nd
    refine ⟨_, (pss_cons (ps_try ⟨rfl, rfl, rfl⟩ T.xc_NoRow (by rfl) T.m_NoRow (fun _ _ => (pss_one (ps_set (i := 3) nd rfl (Or.inl rfl) (pe_callX ⟨rfl, rfl, rfl⟩ (ok_row_of (P := P) (w := w) (K := K) (mg := mg) (base := base) T) (hr.mono (by decide)) (by rfl) T.m_row_of T.F_row_of.kp T.b_row_of .nil (pa_cons (cv 0) pa_nil))))) (fun _ _ _ => (pss_one (ps_ret pe_bl))))
    (pss_cons (cs_if (PW.pt (cw_and (ct_val (pe_callB (isiK (K := K) rfl) (by rfl) T.n_isinstance bt_isinstance (pa_cons (cv 3) (pa_cons (pe_glob (v := .ref a.C_Take) (by rfl) T.m_Take rfl) pa_nil)))) (pw_and1 (ct_cmp o_gt (pe_op o_add (fldK (K := K) rfl (cv 3) rfl) (fldK (K := K) rfl (cv 3) rfl)) (cv 1))))) (pss_one (ps_ret pe_bl)) pss_nil)
    (pss_one (ps_ret (ce_cmp o_le (pe_ix (ix_tupK (K := K) rfl) (pe_alt (pe_meth0 (cv 3) T.c_Put T.me_Put_covers (ok_Row_covers (P := P) (w := w) (K := K) (mg := mg) (base := base) T) (hr.mono (by decide)) T.b_Row_covers .nil pass0) (pe_meth0 (cv 3) T.c_Take T.me_Take_covers (ok_Row_covers (P := P) (w := w) (K := K) (mg := mg) (base := base) T) (hr.mono (by decide)) T.b_Row_covers .nil pass0)) pe_int (fun _ _ => rfl)) (cv 2)))))), ?_⟩
    walk_at "w"
    refine ⟨v, d, rfl, hd, ht, fun to st c e k1 k2 k3 o H1 s1 _ ho => ?_, fun to sg e k1 k2 k3 o H1 s1 _ ho => ?_, fun e1 e2 H1 s1 => ?_⟩
    · obtain ⟨dx, ho⟩ := ho
      have q' : ∀ H', Same H H' → Q (.bl (decide (st + c ≤ old) && decide (to + c ≤ new))) H' := by
        intro H' s'
        have z := q H' s'
        rw [e] at z
        unfold fitD at z
        rw [rowD_take k1 k2 k3] at z
        exact z
      walk_at "w"
      refine ⟨_, _, _, _, true, rfl, rfl, T.ic_Take ho, T.ik_Take_Take, ?_⟩
      walk_at "w"
      refine ⟨fun _ => ?_, by walk_at "no"⟩
      walk_at "w"
      refine ⟨o, _, dx, _, .int st, rfl, ho, T.c_Take, T.na_Take_source, rfl, ?_⟩
      walk_at "w"
      refine ⟨o, _, dx, _, .int c, rfl, ho, T.c_Take, T.na_Take_count, rfl, ?_⟩
      walk_at "w"
      refine ⟨fun e1 => ?_, fun e1 => ?_⟩
      · have e2 : ¬ st + c ≤ old := by have := of_decide_eq_true e1; (first | lia | omega)
        have z := q' H1 s1
        rw [decide_eq_false e2, Bool.false_and] at z
        exact z
      · have e2 : st + c ≤ old := by have := of_decide_eq_false e1; (first | lia | omega)
        rw [decide_eq_true e2, Bool.true_and] at q'
        walk_at "w"
        refine Or.inr ?_
        walk_at "w"
        refine ⟨o, dx, _, rfl, ho, rfl, ?_⟩
        walk_at "w"
        refine ⟨o, a.C_Take, dx, _, to, c, rfl, ho, T.c_Take, T.na_Take_to, T.na_Take_count, rfl, rfl, ?_⟩
        intro t3 ht3
        generalize hUt3 : upd H1 t3 _ = H3
        have sH3 := Same.of_eq ht3 hUt3
        have et3 := at_of_eq hUt3
        clear hUt3
        walk_at "w"
        refine ⟨t3, _, _, .int (to + c), rfl, rfl, SqT.of et3, rfl, ?_⟩
        exact q' H3 (s1.trans sH3)
    · obtain ⟨dx, u, ho, hu⟩ := ho
      have q' : ∀ H', Same H H' → Q (.bl (decide (to + sg.length ≤ new))) H' := by
        intro H' s'
        have z := q H' s'
        rw [e] at z
        unfold fitD at z
        rw [rowD_put k1 k2 k3] at z
        exact z
      walk_at "w"
      refine ⟨_, _, _, _, false, rfl, rfl, T.ic_Put ho, T.ik_Put_Take, ?_⟩
      walk_at "w"
      refine ⟨by walk_at "no", fun _ => ?_⟩
      walk_at "w"
      refine ⟨by walk_at "no", fun _ => ?_⟩
      walk_at "w"
      refine Or.inl ?_
      walk_at "w"
      refine ⟨o, dx, _, rfl, ho, rfl, ?_⟩
      walk_at "w"
      refine ⟨o, a.C_Put, dx, _, to, sg.length, rfl, ho, T.c_Put, T.na_Put_to, T.na_Put_count, rfl, rfl, ?_⟩
      intro t3 ht3
      generalize hUt3 : upd H1 t3 _ = H3
      have sH3 := Same.of_eq ht3 hUt3
      have et3 := at_of_eq hUt3
      clear hUt3
      walk_at "w"
      refine ⟨t3, _, _, .int (to + sg.length), rfl, rfl, SqT.of et3, rfl, ?_⟩
      exact q' H3 (s1.trans sH3)
    · refine ⟨a.C_NoRow, rfl, T.kc_NoRow_NoRow, fun b hb => ?_⟩
      walk_at "w"
      have z := q H1 s1
      unfold fitD at z
      rw [rowD_none e1 e2] at z
      exact z
theorem ok_first_wrong_row (T : Txt K mg a) : FnOk P w K mg base CX0 7 a.f_first_wrong_row a.d_first_wrong_row ["paper"] sp_wrong := by
  refine T.F_first_wrong_row.ok sc_first_wrong_row (fun vs H Q E h => ?_) (fun cdv A outer s H vs Q E hr h => ?_)
  · obtain ⟨p, tt, old, new, xs, ds, rfl, _⟩ := h; rfl
  · obtain ⟨p, tt, old, new, xs, ds, rfl, hp, ht, hd, htl, q⟩ := h
    have nd := sc_first_wrong_row.nd
    refine ⟨_, (pss_cons (cs_for PassesOwn.never rfl (pi_enumT (by rfl) T.n_enumerate (pa_cons (pe_ix (ix_tupK (K := K) rfl) (cv 0) pe_int (fun _ _ => rfl)) pa_nil)) (pg_tup rfl (pgs_cons (pg_name (i := 1) nd rfl (Or.inl rfl)) (pgs_cons (pg_name (i := 2) nd rfl (Or.inl rfl)) pgs_nil))) (pss_one (cs_if (pt_not (ct_val (pe_call (ok_is_fitting_row (P := P) (w := w) (K := K) (mg := mg) (base := base) T) (hr.mono (by decide)) (by rfl) T.m_is_fitting_row T.F_is_fitting_row.kp T.b_is_fitting_row .nil pass0 (pa_cons (cv 2) (pa_cons (pe_ix (ix_tupK (K := K) rfl) (cv 0) pe_int (fun _ _ => rfl)) (pa_cons (pe_ix (ix_tupK (K := K) rfl) (cv 0) pe_int (fun _ _ => rfl)) pa_nil)))))) (pss_one (ps_ret (cv 1))) pss_nil)))
    (pss_one (ps_ret pe_non))), ?_⟩
    walk_at "w"
    refine ⟨p, _, _, .ref tt, rfl, rfl, SqT.of hp, rfl, ?_⟩
    walk_at "w"
    refine ⟨tt, rfl, ⟨_, SqT.of ht⟩, ?_⟩
    walk_at "w"
    have hxl := hd.length
    refine forAt_enumT (xs := xs) (fun i σ H1 => Same H H1 ∧ (∀ j, j < i → ∀ d, ds[j]? = some d → fitD old new d = true) ∧ ∃ x1 x2, σ = [some (.ref p), x1, x2]) ⟨Same.refl _, fun j hj => absurd hj (Nat.not_lt_zero _), _, _, rfl⟩ (fun i σ H1 hi hP => by obtain ⟨s1, _⟩ := hP; exact s1.seqT (SqT.of ht)) (fun i x σ H1 T0 hx hP hT0 => ?_) (fun σ H1 hP => ?_)
    · obtain ⟨s1, hf, x1, x2, rfl⟩ := hP
      have hi : i < xs.length := (List.getElem?_eq_some_iff.mp hx).1
      have hdi : ds[i]? = some ds[i] := List.getElem?_eq_getElem (by (first | lia | omega))
      obtain ⟨x', e1, e2⟩ := hd.get hdi
      rw [hx] at e1; cases e1
      generalize hU : upd H1 T0 _ = H2
      have s2 := Same.of_eq hT0 hU
      have eT := at_of_eq hU
      clear hU
      walk_at "w"
      refine ⟨T0, _, rfl, SqT.of eT, rfl, ?_⟩
      walk_at "w"
      refine ⟨_, _, rfl, ?_⟩
      walk_at "w"
      refine ⟨_, _, rfl, ?_⟩
      walk_at "w"
      refine And.intro rfl ?_
      walk_at "w"
      have s12 := s1.trans s2
      refine ⟨p, _, _, .int old, rfl, rfl, SqT.of (s12.at hp), rfl, ?_⟩
      walk_at "w"
      refine ⟨p, _, _, .int new, rfl, rfl, SqT.of (s12.at hp), rfl, ?_⟩
      walk_at "w"
      refine ⟨x, ds[i], old, new, rfl, e2.same s12, htl _ (List.mem_of_getElem? hdi), fun H3 s3 => ?_⟩
      walk_at "w"
      cases e : fitD old new ds[i] with
      | false =>
        refine ⟨fun _ => ?_, by walk_at "no"⟩
        have ew : wrongF old new ds = some i := by
          unfold wrongF
          rw [List.findIdx?_eq_some_iff_getElem]
          refine ⟨by (first | lia | omega), by rw [e]; rfl, fun j hj => ?_⟩
          have := hf j hj ds[j] (List.getElem?_eq_getElem (by (first | lia | omega)))
          rw [this]; simp
        have z := q H3 (s12.trans s3)
        rw [ew] at z
        exact z
      | true =>
        refine ⟨by walk_at "no", fun _ => ?_⟩
        refine ⟨s12.trans s3, fun j hj d hdj => ?_, _, _, rfl⟩
        by_cases hji : j = i
        · rw [hji, hdi] at hdj; cases hdj; exact e
        · exact hf j (by (first | lia | omega)) d hdj
    · obtain ⟨s1, hf, x1, x2, rfl⟩ := hP
      have ew : wrongF old new ds = none := by
        unfold wrongF
        rw [List.findIdx?_eq_none_iff]
        intro d hdm
        obtain ⟨j, hj, rfl⟩ := List.mem_iff_getElem.mp hdm
        rw [hf j (by (first | lia | omega)) _ (List.getElem?_eq_getElem hj)]; rfl
      have z := q H1 s1
      rw [ew] at z
      exact z
def InD (kvs : List (Key × V)) (seen : List Int) : Prop := ∀ c : Int, (valV kvs (.inl c)).isSome = decide (c ∈ seen)
theorem InD.nil : InD [] [] := fun c => by simp [valV_nil]
theorem InD.put {kvs : List (Key × V)} {seen : List Int} (h : InD kvs seen) (c : Int) (v : V) : InD (putK kvs (.inl c) v) (c :: seen) := by
  intro x
  rw [valV_put]
  by_cases e : x = c
  · subst e
    rw [if_pos rfl]; simp
  · rw [if_neg (fun z => e (by cases z; rfl)), h x]
    congr 1
    exact propext ⟨fun z => List.mem_cons_of_mem _ z, fun z => (List.mem_cons.mp z).resolve_left e⟩
theorem putK_len (kvs : List (Key × V)) (k : Key) (v : V) : (putK kvs k v).length ≤ kvs.length + 1 := by
  unfold putK
  split
  · rw [List.length_map]; (first | lia | omega)
  · rw [List.length_append]; simp
theorem Paired.nth {α β : Type} {F : α → β → Prop} : ∀ {l₁ : List α} {l₂ : List β} {i : Nat} {x : α}, Paired F l₁ l₂ → l₁[i]? = some x → ∃ y, l₂[i]? = some y ∧ F x y
  | _, _, _, _, .nil, e => by simp at e
  | _, _, 0, _, .cons r _, e => by simp at e; subst e; exact ⟨_, rfl, r⟩
  | _, _, i + 1, _, .cons _ t, e => by
    obtain ⟨y, h1, h2⟩ := Paired.nth (i := i) t (by simpa using e)
    exact ⟨y, by simpa using h1, h2⟩
/-  row.covered(), whichever row it is -/
theorem callCov (T : Txt K mg a) {H : Hp} {o : Addr} {r : RowD} {Q : VK} {σ : L2.St} {i : Nat} (ho : ObjAt K a H o r) (hl : r.cv.length ≤ 300)
    (k : ∀ l H', Same H H' → H l = none → H' l = some (.lst (r.cv.map V.int)) → Q (.ref l) H') (hσ : σ[i]? = some (some (.ref o)) := by rfl) :
    tMeth a.C_Put "covered" (sp_covered K) [] E0 (cVar i) tNil σ H Q ∨ tMeth a.C_Take "covered" (sp_covered K) [] E0 (cVar i) tNil σ H Q := by
  cases r with
  | put to sg =>
    obtain ⟨dx, u, h1, h2⟩ := ho
    left
    unfold tMeth cVar
    rw [hσ]
    have e : (sg.length : Int).toNat = sg.length := by simp
    have hl' : sg.length ≤ 300 := by rw [show RowD.cv (.put to sg) = rngI to sg.length from rfl, rngI_length] at hl; exact hl
    refine ⟨o, dx, _, rfl, h1, rfl, o, a.C_Put, dx, _, to, sg.length, rfl, h1, T.c_Put, T.na_Put_to, T.na_Put_count, rfl, rfl, by rw [e]; exact Nat.le_trans hl' (by decide), fun l H' s n eL => k l H' s n ?_⟩
    rw [e] at eL; exact eL
  | take to st c =>
    obtain ⟨dx, h1⟩ := ho
    right
    unfold tMeth cVar
    rw [hσ]
    have hl' : c.toNat ≤ 300 := by rw [show RowD.cv (.take to st c) = rngI to c.toNat from rfl, rngI_length] at hl; exact hl
    exact ⟨o, dx, _, rfl, h1, rfl, o, a.C_Take, dx, _, to, c, rfl, h1, T.c_Take, T.na_Take_to, T.na_Take_count, rfl, rfl, Nat.le_trans hl' (by decide), fun l H' s n eL => k l H' s n eL⟩
theorem num_drop (k : Nat) (all : List (List Int)) (cs : List Int) (h : all[0]? = some cs) : num k all = cs.map (fun c => (k, c)) ++ num (k + 1) (all.drop 1) := by
  cases all with
  | nil => simp at h
  | cons x r => simp at h; subst h; rfl
theorem ok_covered_twice (T : Txt K mg a) : FnOk P w K mg base CX0 2 a.f_covered_twice a.d_covered_twice ["rows"] (sp_twice K a) := by
  refine T.F_covered_twice.ok sc_covered_twice (fun vs H Q E h => ?_) (fun cdv A outer s H vs Q E hr h => ?_)
  · obtain ⟨l, rs, rfl, _⟩ := h; rfl
  · obtain ⟨l, rs, rfl, ⟨ts, hl, hp⟩, ⟨hr1, hr2⟩, q⟩ := h
    have nd := sc_covered_twice.nd
    refine ⟨_, (pss_cons (ps_set (i := 1) nd rfl (Or.inl rfl) pe_dnewK)
    (pss_cons (cs_for PassesOwn.never rfl (pi_enum (by rfl) T.n_enumerate (pa_cons (cv 0) pa_nil)) (pg_tup rfl (pgs_cons (pg_name (i := 2) nd rfl (Or.inl rfl)) (pgs_cons (pg_name (i := 3) nd rfl (Or.inl rfl)) pgs_nil))) (pss_one (cs_for PassesOwn.never rfl (it_listK (K := K) rfl (pe_alt (pe_meth0 (cv 3) T.c_Put T.me_Put_covered (ok_Row_covered (P := P) (w := w) (K := K) (mg := mg) (base := base) T) (hr.mono (by decide)) T.b_Row_covered .nil pass0) (pe_meth0 (cv 3) T.c_Take T.me_Take_covered (ok_Row_covered (P := P) (w := w) (K := K) (mg := mg) (base := base) T) (hr.mono (by decide)) T.b_Row_covered .nil pass0))) (pg_name (i := 4) nd rfl (Or.inl rfl)) (pss_cons (cs_if (ct_pc (pc_din (hu_of hr) (cv 4) (cv 1)) (by rfl)) (pss_one (ps_ret (pe_tup (pa_cons pe_str (pa_cons (cv 2) (pa_cons (cv 4) pa_nil)))))) pss_nil)
    (pss_one (ps_dput (hu_of hr) (cv 1) (cv 4) pe_bl rfl))))))
    (pss_one (ps_ret pe_non)))), ?_⟩
    walk_at "w"
    intro d hd'
    generalize hU0 : upd H d _ = H1
    have sH1 := Same.of_eq hd' hU0
    have ed := at_of_eq hU0
    clear hU0
    walk_at "w"
    have htl : ts.length = rs.length := hp.length
    refine ⟨l, rfl, ⟨_, sH1.seq hl⟩, ?_⟩
    walk_at "w"
    refine forAt_enumL (xs := ts.map V.ref) (fun i σ G => Same H G ∧ (∃ kvs seen, G d = some (.dK kvs) ∧ InD kvs seen ∧ kvs.length ≤ i * 300 ∧ twiceF rs = tw (num i ((rs.map RowD.cv).drop i)) seen) ∧ ∃ x2 x3 x4, σ = [some (.ref l), some (.ref d), x2, x3, x4]) ⟨sH1, ⟨[], [], ed, InD.nil, by simp, rfl⟩, _, _, _, rfl⟩ (fun i σ G hi hP => hP.1.seq hl) (fun i x σ G T0 hx hP hT0 => ?_) (fun σ G hP => ?_)
    · obtain ⟨s1, ⟨kvs, seen, hd, hin, hkl, htw⟩, x2, x3, x4, rfl⟩ := hP
      rw [List.getElem?_map] at hx
      obtain ⟨o, ho, rfl⟩ := Option.map_eq_some_iff.mp hx
      have hi : i < ts.length := (List.getElem?_eq_some_iff.mp ho).1
      obtain ⟨r, hr, hob⟩ := Paired.nth hp ho
      generalize hU : upd G T0 _ = G2
      have s2 := Same.of_eq hT0 hU
      have eT := at_of_eq hU
      clear hU
      walk_at "w"
      refine ⟨T0, _, rfl, SqT.of eT, rfl, ?_⟩
      walk_at "w"
      refine ⟨_, _, rfl, ?_⟩
      walk_at "w"
      refine ⟨_, _, rfl, ?_⟩
      walk_at "w"
      refine And.intro rfl ?_
      walk_at "w"
      have hrm : r ∈ rs := List.mem_of_getElem? hr
      refine callCov (K := K) T (r := r) (hob.same (s1.trans s2)) (hr2 r hrm).1 fun L G3 s3 hL eL => ?_
      walk_at "w"
      refine ⟨L, rfl, ⟨_, SqL.of eL⟩, ?_⟩
      walk_at "w"
      have hd3 : G3 d = some (.dK kvs) := s3.at (s2.at hd)
      have nLd : L ≠ d := ne_of eL hd3 (fun z => by cases z)
      have hdr : ((rs.map RowD.cv).drop i)[0]? = some r.cv := by rw [List.getElem?_drop, Nat.add_zero, List.getElem?_map, hr]; rfl
      rw [num_drop i _ _ hdr, List.drop_drop] at htw
      refine forAt_list (xs := r.cv.map V.int) (fun j σ G4 => Same H G4 ∧ G4 L = some (.lst (r.cv.map V.int)) ∧ (∃ kvs seen, G4 d = some (.dK kvs) ∧ InD kvs seen ∧ kvs.length ≤ i * 300 + j ∧ twiceF rs = tw ((r.cv.drop j).map (fun c => (i, c)) ++ num (i + 1) ((rs.map RowD.cv).drop (i + 1))) seen) ∧ ∃ x4, σ = [some (.ref l), some (.ref d), some (.int i), some (.ref o), x4])
        ⟨s1.trans (s2.trans s3), eL, ⟨kvs, seen, hd3, hin, by (first | lia | omega), by rw [List.drop_zero]; exact htw⟩, _, rfl⟩ (fun j σ G4 hj hQ => SqL.of hQ.2.1) (fun j x σ G4 hx hQ => ?_) (fun σ G4 hQ => ?_)
      · obtain ⟨s4, eL4, ⟨kvs4, seen4, hd4, hin4, hk4, htw4⟩, x4, rfl⟩ := hQ
        rw [List.getElem?_map] at hx
        obtain ⟨c, hc, rfl⟩ := Option.map_eq_some_iff.mp hx
        have hj : j < r.cv.length := (List.getElem?_eq_some_iff.mp hc).1
        have hb := (hr2 r hrm).1
        have ecut : r.cv.drop j = c :: r.cv.drop (j + 1) := by
          rw [List.drop_eq_getElem_cons hj, (List.getElem?_eq_some_iff.mp hc).2]
        rw [ecut, List.map_cons, List.cons_append, tw] at htw4
        walk_at "w"
        refine ⟨d, _, rfl, DGet.k (k := Sum.inl c) hd4, ?_⟩
        walk_at "w"
        rw [hin4 c]
        refine ⟨fun e => ?_, fun e => ?_⟩
        · have e' := of_decide_eq_true e
          rw [if_pos e'] at htw4
          rw [htw4] at q
          walk_at "w"
          walk_at "ss"
          intro t ht
          exact q t _ (s4.trans (Same.new ht)) upd_same
        · have e' := of_decide_eq_false e
          rw [if_neg e'] at htw4
          walk_at "w"
          refine ⟨d, _, rfl, DPut.k (k := Sum.inl c) hd4 (by rw [sizeLine_eq]; (first | lia | omega)), ?_⟩
          generalize hV : upd G4 d _ = G5
          have s5 : Same H G5 := Same.wr s4 hd' hV
          have eL5 : G5 L = some (.lst (r.cv.map V.int)) := by rw [← hV, upd_ne nLd]; exact eL4
          have hd5 := at_of_eq hV
          clear hV
          have := putK_len kvs4 (Sum.inl c) (.bl true)
          exact ⟨s5, eL5, ⟨_, _, hd5, hin4.put c _, by (first | lia | omega), htw4⟩, _, rfl⟩
      · obtain ⟨s4, eL4, ⟨kvs4, seen4, hd4, hin4, hk4, htw4⟩, x4, rfl⟩ := hQ
        rw [List.length_map] at hk4 htw4
        rw [List.drop_length] at htw4
        have hb := (hr2 r hrm).1
        exact ⟨s4, ⟨kvs4, seen4, hd4, hin4, by (first | lia | omega), htw4⟩, _, _, _, rfl⟩
    · obtain ⟨s1, ⟨kvs, seen, hd, hin, hkl, htw⟩, x2, x3, x4, rfl⟩ := hP
      have e0 : (rs.map RowD.cv).drop (ts.map V.ref).length = [] := by
        rw [List.length_map, htl]
        exact List.drop_eq_nil_of_le (by rw [List.length_map]; exact Nat.le_refl _)
      rw [e0] at htw
      have e1 : twiceF rs = none := htw
      rw [e1] at q
      exact q G s1
theorem ok_Take_stays (T : Txt K mg a) : FnOk P w K mg base CX0 1 a.f_Take_stays a.d_Take_stays ["self"] (sp_stays a) := by
  refine T.F_Take_stays.ok sc_Take_stays (fun vs H Q E h => ?_) (fun cdv A outer s H vs Q E hr h => ?_)
  · obtain ⟨p, dx, to, st, c, rfl, _⟩ := h; rfl
  · obtain ⟨p, dx, to, st, c, rfl, hp, k⟩ := h
    have nd := sc_Take_stays.nd
    refine ⟨_, (pss_one (ps_ret (ce_cmp o_eqI (fldK (K := K) rfl (cv 0) rfl) (fldK (K := K) rfl (cv 0) rfl)))), ?_⟩
    walk_at "w"
    refine ⟨p, _, dx, _, .int st, rfl, hp, T.c_Take, T.na_Take_source, rfl, ?_⟩
    walk_at "w"
    refine ⟨p, _, dx, _, .int to, rfl, hp, T.c_Take, T.na_Take_to, rfl, ?_⟩
    exact k
def readsT (to st c : Int) : List Int := if st = to then [] else rngI st c.toNat
def writesT (to st c : Int) : List Int := if st = to then [] else rngI to c.toNat
def sp_Treads (a : Adr) : Sp := fun vs H Q _ => ∃ (p dx : Addr) (to st c : Int), vs = [.ref p] ∧ H p = some (.ins a.C_Take dx (takeF to st c)) ∧ c.toNat ≤ 2 ^ 24 ∧ newL H Q (readsT to st c)
def sp_Twrites (a : Adr) : Sp := fun vs H Q _ => ∃ (p dx : Addr) (to st c : Int), vs = [.ref p] ∧ H p = some (.ins a.C_Take dx (takeF to st c)) ∧ c.toNat ≤ 2 ^ 24 ∧ newL H Q (writesT to st c)
def sp_Preads (a : Adr) : Sp := fun vs H Q _ => ∃ (p dx t : Addr) (to n : Int), vs = [.ref p] ∧ H p = some (.ins a.C_Put dx (putFs to t n)) ∧ newL H Q []
def sp_Pwrites (a : Adr) : Sp := fun vs H Q _ => ∃ (p dx t : Addr) (to n : Int), vs = [.ref p] ∧ H p = some (.ins a.C_Put dx (putFs to t n)) ∧ n.toNat ≤ 2 ^ 24 ∧ newL H Q (rngI to n.toNat)
theorem ok_Take_reads (T : Txt K mg a) : FnOk P w K mg base CX0 2 a.f_Take_reads a.d_Take_reads ["self"] (sp_Treads a) := by
  refine T.F_Take_reads.ok sc_Take_reads (fun vs H Q E h => ?_) (fun cdv A outer s H vs Q E hr h => ?_)
  · obtain ⟨p, dx, to, st, c, rfl, _⟩ := h; rfl
  · obtain ⟨p, dx, to, st, c, rfl, hp, hc, k⟩ := h
    have nd := sc_Take_reads.nd
    refine ⟨_, (pss_cons (cs_if (ct_val (pe_meth0 (cv 0) T.c_Take T.me_Take_stays (ok_Take_stays (P := P) (w := w) (K := K) (mg := mg) (base := base) T) (hr.mono (by decide)) T.b_Take_stays .nil pass0)) (pss_one (ps_ret (pe_lst pa_nil))) pss_nil)
    (pss_one (ps_ret (pe_callTy (call_list_rng rfl) (by rfl) T.n_list bt_list (pa_cons (ce_range2 (by rfl) T.n_range (pa_cons (fldK (K := K) rfl (cv 0) rfl) (pa_cons (pe_op o_add (fldK (K := K) rfl (cv 0) rfl) (fldK (K := K) rfl (cv 0) rfl)) pa_nil))) pa_nil))))), ?_⟩
    walk_at "w"
    refine ⟨p, dx, _, rfl, hp, rfl, ?_⟩
    walk_at "w"
    refine ⟨p, dx, to, st, c, rfl, hp, ?_⟩
    walk_at "w"
    refine ⟨fun e => ?_, fun e => ?_⟩
    · walk_at "w"
      refine ⟨by decide, fun l hl => ?_⟩
      have e' : st = to := of_decide_eq_true e
      exact k l _ (Same.new hl) hl (by rw [upd_same, readsT, if_pos e']; rfl)
    · have e' : ¬ st = to := of_decide_eq_false e
      walk_at "w"
      refine ⟨p, _, dx, _, .int st, rfl, hp, T.c_Take, T.na_Take_source, rfl, ?_⟩
      walk_at "w"
      refine ⟨p, _, dx, _, .int st, rfl, hp, T.c_Take, T.na_Take_source, rfl, ?_⟩
      walk_at "w"
      refine ⟨p, _, dx, _, .int c, rfl, hp, T.c_Take, T.na_Take_count, rfl, ?_⟩
      walk_at "w"
      intro r hr1
      walk_at "w"
      have e2 : rngN st (st + c) 1 = c.toNat := by rw [rngN_one]; congr 1; (first | lia | omega)
      refine ⟨r, st, st + c, rfl, upd_same, by rw [e2]; exact hc, fun l hl => ?_⟩
      rw [e2, rngV_eq]
      have hl0 : H l = none := Same.free (Same.new hr1) hl
      exact k l _ ((Same.new hr1).put hl0) hl0 (by rw [upd_same, readsT, if_neg e'])
theorem ok_Take_writes (T : Txt K mg a) : FnOk P w K mg base CX0 2 a.f_Take_writes a.d_Take_writes ["self"] (sp_Twrites a) := by
  refine T.F_Take_writes.ok sc_Take_writes (fun vs H Q E h => ?_) (fun cdv A outer s H vs Q E hr h => ?_)
  · obtain ⟨p, dx, to, st, c, rfl, _⟩ := h; rfl
  · obtain ⟨p, dx, to, st, c, rfl, hp, hc, k⟩ := h
    have nd := sc_Take_writes.nd
    refine ⟨_, (pss_cons (cs_if (ct_val (pe_meth0 (cv 0) T.c_Take T.me_Take_stays (ok_Take_stays (P := P) (w := w) (K := K) (mg := mg) (base := base) T) (hr.mono (by decide)) T.b_Take_stays .nil pass0)) (pss_one (ps_ret (pe_lst pa_nil))) pss_nil)
    (pss_one (ps_ret (pe_meth0 (cv 0) T.c_Take T.me_Take_covered (ok_Row_covered (P := P) (w := w) (K := K) (mg := mg) (base := base) T) (hr.mono (by decide)) T.b_Row_covered .nil pass0)))), ?_⟩
    walk_at "w"
    refine ⟨p, dx, _, rfl, hp, rfl, ?_⟩
    walk_at "w"
    refine ⟨p, dx, to, st, c, rfl, hp, ?_⟩
    walk_at "w"
    refine ⟨fun e => ?_, fun e => ?_⟩
    · walk_at "w"
      refine ⟨by decide, fun l hl => ?_⟩
      have e' : st = to := of_decide_eq_true e
      exact k l _ (Same.new hl) hl (by rw [upd_same, writesT, if_pos e']; rfl)
    · have e' : ¬ st = to := of_decide_eq_false e
      walk_at "w"
      refine ⟨p, dx, _, rfl, hp, rfl, ?_⟩
      walk_at "w"
      refine ⟨p, _, dx, _, to, c, rfl, hp, T.c_Take, T.na_Take_to, T.na_Take_count, rfl, rfl, hc, fun l H' s1 hl hv => ?_⟩
      exact k l H' s1 hl (by rw [hv, writesT, if_neg e'])
theorem ok_Put_reads (T : Txt K mg a) : FnOk P w K mg base CX0 1 a.f_Put_reads a.d_Put_reads ["self"] (sp_Preads a) := by
  refine T.F_Put_reads.ok sc_Put_reads (fun vs H Q E h => ?_) (fun cdv A outer s H vs Q E hr h => ?_)
  · obtain ⟨p, dx, t, to, n, rfl, _⟩ := h; rfl
  · obtain ⟨p, dx, t, to, n, rfl, hp, k⟩ := h
    have nd := sc_Put_reads.nd
    refine ⟨_, (pss_one (ps_ret (pe_lst pa_nil))), ?_⟩
    walk_at "w"
    exact ⟨by decide, fun l hl => k l _ (Same.new hl) hl (by rw [upd_same]; rfl)⟩
theorem ok_Put_writes (T : Txt K mg a) : FnOk P w K mg base CX0 2 a.f_Put_writes a.d_Put_writes ["self"] (sp_Pwrites a) := by
  refine T.F_Put_writes.ok sc_Put_writes (fun vs H Q E h => ?_) (fun cdv A outer s H vs Q E hr h => ?_)
  · obtain ⟨p, dx, t, to, n, rfl, _⟩ := h; rfl
  · obtain ⟨p, dx, t, to, n, rfl, hp, hn, k⟩ := h
    have nd := sc_Put_writes.nd
    refine ⟨_, (pss_one (ps_ret (pe_meth0 (cv 0) T.c_Put T.me_Put_covered (ok_Row_covered (P := P) (w := w) (K := K) (mg := mg) (base := base) T) (hr.mono (by decide)) T.b_Row_covered .nil pass0))), ?_⟩
    walk_at "w"
    refine ⟨p, dx, _, rfl, hp, rfl, ?_⟩
    walk_at "w"
    exact ⟨p, _, dx, _, to, n, rfl, hp, T.c_Put, T.na_Put_to, T.na_Put_count, rfl, rfl, hn, k⟩
/-  row.reads(), row.writes(), whichever row it is -/
theorem callRds (T : Txt K mg a) {H : Hp} {o : Addr} {r : RowD} {Q : VK} {σ : L2.St} {i : Nat} (ho : ObjAt K a H o r) (hc : r.cv.length ≤ 300)
    (k : ∀ l H', Same H H' → H l = none → H' l = some (.lst (r.rds.map V.int)) → Q (.ref l) H') (hσ : σ[i]? = some (some (.ref o)) := by rfl) :
    tMeth a.C_Put "reads" (sp_Preads a) [] E0 (cVar i) tNil σ H Q ∨ tMeth a.C_Take "reads" (sp_Treads a) [] E0 (cVar i) tNil σ H Q := by
  cases r with
  | put to sg =>
    obtain ⟨dx, u, h1, h2⟩ := ho
    left
    unfold tMeth cVar
    rw [hσ]
    exact ⟨o, dx, _, rfl, h1, rfl, o, dx, u, to, sg.length, rfl, h1, fun l H' s n eL => k l H' s n eL⟩
  | take to st c =>
    obtain ⟨dx, h1⟩ := ho
    right
    unfold tMeth cVar
    rw [hσ]
    have hl' : c.toNat ≤ 300 := by rw [show RowD.cv (.take to st c) = rngI to c.toNat from rfl, rngI_length] at hc; exact hc
    exact ⟨o, dx, _, rfl, h1, rfl, o, dx, to, st, c, rfl, h1, Nat.le_trans hl' (by decide), fun l H' s n eL => k l H' s n eL⟩
theorem callWrs (T : Txt K mg a) {H : Hp} {o : Addr} {r : RowD} {Q : VK} {σ : L2.St} {i : Nat} (ho : ObjAt K a H o r) (hc : r.cv.length ≤ 300)
    (k : ∀ l H', Same H H' → H l = none → H' l = some (.lst (r.wrs.map V.int)) → Q (.ref l) H') (hσ : σ[i]? = some (some (.ref o)) := by rfl) :
    tMeth a.C_Put "writes" (sp_Pwrites a) [] E0 (cVar i) tNil σ H Q ∨ tMeth a.C_Take "writes" (sp_Twrites a) [] E0 (cVar i) tNil σ H Q := by
  cases r with
  | put to sg =>
    obtain ⟨dx, u, h1, h2⟩ := ho
    left
    unfold tMeth cVar
    rw [hσ]
    have e : (sg.length : Int).toNat = sg.length := by simp
    have hl' : sg.length ≤ 300 := by rw [show RowD.cv (.put to sg) = rngI to sg.length from rfl, rngI_length] at hc; exact hc
    refine ⟨o, dx, _, rfl, h1, rfl, o, dx, u, to, sg.length, rfl, h1, by rw [e]; exact Nat.le_trans hl' (by decide), fun l H' s n eL => k l H' s n ?_⟩
    rw [e] at eL; exact eL
  | take to st c =>
    obtain ⟨dx, h1⟩ := ho
    right
    unfold tMeth cVar
    rw [hσ]
    have hl' : c.toNat ≤ 300 := by rw [show RowD.cv (.take to st c) = rngI to c.toNat from rfl, rngI_length] at hc; exact hc
    exact ⟨o, dx, _, rfl, h1, rfl, o, dx, to, st, c, rfl, h1, Nat.le_trans hl' (by decide), fun l H' s n eL => k l H' s n eL⟩
theorem find_skip {ls : List Int} {p : Int → Bool} {j : Nat} (h : ∀ i, i < j → ∀ c, ls[i]? = some c → p c = false) : ls.find? p = (ls.drop j).find? p := by
  induction j with
  | zero => rfl
  | succ j ih =>
    rw [ih fun i hi => h i (by (first | lia | omega))]
    by_cases hj : j < ls.length
    · have hc : ls[j]? = some ls[j] := List.getElem?_eq_getElem hj
      rw [List.drop_eq_getElem_cons hj, List.find?_cons, h j (by (first | lia | omega)) _ hc]
    · rw [List.drop_eq_nil_of_le (by (first | lia | omega)), List.drop_eq_nil_of_le (by (first | lia | omega))]
theorem ok_lacking (T : Txt K mg a) : FnOk P w K mg base CX0 2 a.f_lacking a.d_lacking ["rows", "new"] (sp_lacking K a) := by
  refine T.F_lacking.ok sc_lacking (fun vs H Q E h => ?_) (fun cdv A outer s H vs Q E hr h => ?_)
  · obtain ⟨l, rs, new, rfl, _⟩ := h; rfl
  · obtain ⟨l, rs, new, rfl, ⟨ts, hl, hp⟩, ⟨hr1, hr2⟩, hnew, q⟩ := h
    have nd := sc_lacking.nd
    refine ⟨_, (pss_cons (ps_set (i := 2) nd rfl (Or.inl rfl) pe_dnewK)
    (pss_cons (cs_for PassesOwn.never rfl (it_listK (K := K) rfl (cv 0)) (pg_name (i := 3) nd rfl (Or.inl rfl)) (pss_one (cs_for PassesOwn.never rfl (it_listK (K := K) rfl (pe_alt (pe_meth0 (cv 3) T.c_Put T.me_Put_covered (ok_Row_covered (P := P) (w := w) (K := K) (mg := mg) (base := base) T) (hr.mono (by decide)) T.b_Row_covered .nil pass0) (pe_meth0 (cv 3) T.c_Take T.me_Take_covered (ok_Row_covered (P := P) (w := w) (K := K) (mg := mg) (base := base) T) (hr.mono (by decide)) T.b_Row_covered .nil pass0))) (pg_name (i := 4) nd rfl (Or.inl rfl)) (pss_one (ps_dput (hu_of hr) (cv 2) (cv 4) pe_bl rfl)))))
    (pss_cons (cs_for PassesOwn.never rfl (ci_range1 (by rfl) T.n_range (pa_cons (cv 1) pa_nil)) (pg_name (i := 4) nd rfl (Or.inl rfl)) (pss_one (cs_if (ct_pc (pc_dnotin (hu_of hr) (cv 4) (cv 2)) (by rfl)) (pss_one (ps_ret (pe_tup (pa_cons pe_str (pa_cons (cv 4) pa_nil))))) pss_nil)))
    (pss_one (ps_ret pe_non))))), ?_⟩
    walk_at "w"
    intro d hd'
    generalize hU0 : upd H d _ = H1
    have sH1 := Same.of_eq hd' hU0
    have ed := at_of_eq hU0
    clear hU0
    walk_at "w"
    have htl : ts.length = rs.length := hp.length
    refine ⟨l, rfl, ⟨_, sH1.seq hl⟩, ?_⟩
    walk_at "w"
    refine forAt_list (xs := ts.map V.ref) (fun i σ G => Same H G ∧ (∃ kvs seen, G d = some (.dK kvs) ∧ InD kvs seen ∧ kvs.length ≤ i * 300 ∧ ∀ c, c ∈ seen ↔ c ∈ ((rs.map RowD.cv).take i).flatten) ∧ ∃ x3 x4, σ = [some (.ref l), some (.int new), some (.ref d), x3, x4]) ⟨sH1, ⟨[], [], ed, InD.nil, by simp, fun c => by simp⟩, _, _, rfl⟩ (fun i σ G hi hP => hP.1.seq hl) (fun i x σ G hx hP => ?_) (fun σ G hP => ?_)
    · obtain ⟨s1, ⟨kvs, seen, hd, hin, hkl, hse⟩, x3, x4, rfl⟩ := hP
      rw [List.getElem?_map] at hx
      obtain ⟨o, ho, rfl⟩ := Option.map_eq_some_iff.mp hx
      obtain ⟨r, hr, hob⟩ := Paired.nth hp ho
      have hrm : r ∈ rs := List.mem_of_getElem? hr
      have hi : i < ts.length := (List.getElem?_eq_some_iff.mp ho).1
      walk_at "w"
      refine callCov (K := K) T (r := r) (hob.same s1) (hr2 r hrm).1 fun L G3 s3 hL eL => ?_
      walk_at "w"
      refine ⟨L, rfl, ⟨_, SqL.of eL⟩, ?_⟩
      walk_at "w"
      have hd3 : G3 d = some (.dK kvs) := s3.at hd
      have nLd : L ≠ d := ne_of eL hd3 (fun z => by cases z)
      refine forAt_list (xs := r.cv.map V.int) (fun j σ G4 => Same H G4 ∧ G4 L = some (.lst (r.cv.map V.int)) ∧ (∃ kvs seen, G4 d = some (.dK kvs) ∧ InD kvs seen ∧ kvs.length ≤ i * 300 + j ∧ ∀ c, c ∈ seen ↔ c ∈ ((rs.map RowD.cv).take i).flatten ++ r.cv.take j) ∧ ∃ x4, σ = [some (.ref l), some (.int new), some (.ref d), some (.ref o), x4])
        ⟨s1.trans s3, eL, ⟨kvs, seen, hd3, hin, by (first | lia | omega), fun c => by rw [List.take_zero, List.append_nil]; exact hse c⟩, _, rfl⟩ (fun j σ G4 hj hQ => SqL.of hQ.2.1) (fun j x σ G4 hx hQ => ?_) (fun σ G4 hQ => ?_)
      · obtain ⟨s4, eL4, ⟨kvs4, seen4, hd4, hin4, hk4, hse4⟩, x4, rfl⟩ := hQ
        rw [List.getElem?_map] at hx
        obtain ⟨c, hc, rfl⟩ := Option.map_eq_some_iff.mp hx
        have hj : j < r.cv.length := (List.getElem?_eq_some_iff.mp hc).1
        have hb := (hr2 r hrm).1
        walk_at "w"
        refine ⟨d, _, rfl, DPut.k (k := Sum.inl c) hd4 (by rw [sizeLine_eq]; (first | lia | omega)), ?_⟩
        generalize hV : upd G4 d _ = G5
        have s5 : Same H G5 := Same.wr s4 hd' hV
        have eL5 : G5 L = some (.lst (r.cv.map V.int)) := by rw [← hV, upd_ne nLd]; exact eL4
        have hd5 := at_of_eq hV
        clear hV
        have := putK_len kvs4 (Sum.inl c) (.bl true)
        refine ⟨s5, eL5, ⟨_, _, hd5, hin4.put c _, by (first | lia | omega), fun y => ?_⟩, _, rfl⟩
        rw [List.take_succ, hc, ← List.append_assoc, List.mem_append, List.mem_cons, hse4 y]
        simp [or_comm]
      · obtain ⟨s4, eL4, ⟨kvs4, seen4, hd4, hin4, hk4, hse4⟩, x4, rfl⟩ := hQ
        rw [List.length_map] at hk4 hse4
        rw [List.take_length] at hse4
        have hb := (hr2 r hrm).1
        refine ⟨s4, ⟨kvs4, seen4, hd4, hin4, by (first | lia | omega), fun c => ?_⟩, _, _, rfl⟩
        rw [hse4 c, List.take_succ, List.getElem?_map, hr, List.flatten_append]
        simp
    · obtain ⟨s1, ⟨kvs, seen, hd, hin, hkl, hse⟩, x3, x4, rfl⟩ := hP
      rw [List.length_map] at hse
      have hse' : ∀ c, c ∈ seen ↔ c ∈ (rs.map RowD.cv).flatten := fun c => by
        rw [hse c, htl]
        rw [List.take_of_length_le (by rw [List.length_map]; exact Nat.le_refl _)]
      walk_at "w"
      have en : rngN 0 ((new : Nat) : Int) 1 = new := by rw [rngN_one]; (first | lia | omega)
      rw [en]
      refine forAt_its (fun i σ G2 => G2 = G ∧ (∀ j, j < i → ((j : Nat) : Int) ∈ (rs.map RowD.cv).flatten) ∧ ∃ x4, σ = [some (.ref l), some (.int new), some (.ref d), x3, x4]) ⟨rfl, fun j hj => absurd hj (Nat.not_lt_zero _), _, rfl⟩ (fun i σ G2 hi hQ => ?_) (fun σ G2 hQ => ?_)
      · obtain ⟨rfl, hall, x4, rfl⟩ := hQ
        have ei : (0 + (i : Int) * 1) = (i : Int) := by (first | lia | omega)
        rw [ei]
        walk_at "w"
        refine ⟨d, _, rfl, DGet.k (k := Sum.inl (i : Int)) hd, ?_⟩
        walk_at "w"
        rw [hin]
        refine ⟨fun e => ?_, fun e => ?_⟩
        · have e' : ¬ (i : Int) ∈ seen := by simpa using e
          have ef : lacksF rs new = some (i : Int) := by
            unfold lacksF
            rw [find_skip (j := i) (fun j hj c hc => ?_), List.drop_eq_getElem_cons (by simp; exact hi), List.find?_cons]
            · simp only [List.getElem_map, List.getElem_range]
              have : ¬ (i : Int) ∈ (rs.map RowD.cv).flatten := fun z => e' ((hse' _).mpr z)
              simp only [decide_eq_false this]
              rfl
            · rw [List.getElem?_map, List.getElem?_range (by (first | lia | omega))] at hc
              cases hc
              simp only [decide_eq_true (hall j hj)]
              rfl
          rw [ef] at q
          walk_at "w"
          walk_at "ss"
          intro t ht
          exact q t _ (s1.trans (Same.new ht)) upd_same
        · have e' : (i : Int) ∈ seen := by simpa using e
          refine ⟨rfl, fun j hj => ?_, _, rfl⟩
          by_cases hji : j = i
          · rw [hji]; exact (hse' _).mp e'
          · exact hall j (by (first | lia | omega))
      · obtain ⟨rfl, hall, x4, rfl⟩ := hQ
        have ef : lacksF rs new = none := by
          unfold lacksF
          rw [List.find?_eq_none]
          intro c hc
          obtain ⟨j, hj, rfl⟩ := List.mem_map.mp hc
          simp [hall j (List.mem_range.mp hj)]
        rw [ef] at q
        exact q G2 s1
theorem lateS_cons (k : Nat) (rs : List RowD) (r : RowD) (wr : List Int) (h : rs[0]? = some r) : lateS k rs wr = match r.rds.find? fun c => decide (c ∈ wr) with
    | some c => some (k, c)
    | none => lateS (k + 1) (rs.drop 1) (wr ++ r.wrs) := by
  cases rs with
  | nil => simp at h
  | cons x t => simp at h; subst h; rfl
theorem lateS_ext : ∀ (k : Nat) (rs : List RowD) (w1 w2 : List Int), (∀ c, c ∈ w1 ↔ c ∈ w2) → lateS k rs w1 = lateS k rs w2
  | _, [], _, _, _ => rfl
  | k, r :: t, w1, w2, h => by
    unfold lateS
    have e : (fun c => decide (c ∈ w1)) = fun c => decide (c ∈ w2) := funext fun c => by congr 1; exact propext (h c)
    rw [e]
    cases r.rds.find? fun c => decide (c ∈ w2) with
    | some c => rfl
    | none => exact lateS_ext (k + 1) t _ _ fun c => by rw [List.mem_append, List.mem_append, h c]
theorem ok_read_late (T : Txt K mg a) : FnOk P w K mg base CX0 3 a.f_read_late a.d_read_late ["rows"] (sp_late K a) := by
  refine T.F_read_late.ok sc_read_late (fun vs H Q E h => ?_) (fun cdv A outer s H vs Q E hr h => ?_)
  · obtain ⟨l, rs, rfl, _⟩ := h; rfl
  · obtain ⟨l, rs, rfl, ⟨ts, hl, hp⟩, ⟨hr1, hr2⟩, q⟩ := h
    have nd := sc_read_late.nd
    refine ⟨_, (pss_cons (ps_set (i := 1) nd rfl (Or.inl rfl) pe_dnewK)
    (pss_cons (cs_for PassesOwn.never rfl (pi_enum (by rfl) T.n_enumerate (pa_cons (cv 0) pa_nil)) (pg_tup rfl (pgs_cons (pg_name (i := 2) nd rfl (Or.inl rfl)) (pgs_cons (pg_name (i := 3) nd rfl (Or.inl rfl)) pgs_nil))) (pss_cons (cs_for PassesOwn.never rfl (it_listK (K := K) rfl (pe_alt (pe_meth0 (cv 3) T.c_Put T.me_Put_reads (ok_Put_reads (P := P) (w := w) (K := K) (mg := mg) (base := base) T) (hr.mono (by decide)) T.b_Put_reads .nil pass0) (pe_meth0 (cv 3) T.c_Take T.me_Take_reads (ok_Take_reads (P := P) (w := w) (K := K) (mg := mg) (base := base) T) (hr.mono (by decide)) T.b_Take_reads .nil pass0))) (pg_name (i := 4) nd rfl (Or.inl rfl)) (pss_one (cs_if (ct_pc (pc_din (hu_of hr) (cv 4) (cv 1)) (by rfl)) (pss_one (ps_ret (pe_tup (pa_cons pe_str (pa_cons (cv 2) (pa_cons (cv 4) pa_nil)))))) pss_nil)))
    (pss_one (cs_for PassesOwn.never rfl (it_listK (K := K) rfl (pe_alt (pe_meth0 (cv 3) T.c_Put T.me_Put_writes (ok_Put_writes (P := P) (w := w) (K := K) (mg := mg) (base := base) T) (hr.mono (by decide)) T.b_Put_writes .nil pass0) (pe_meth0 (cv 3) T.c_Take T.me_Take_writes (ok_Take_writes (P := P) (w := w) (K := K) (mg := mg) (base := base) T) (hr.mono (by decide)) T.b_Take_writes .nil pass0))) (pg_name (i := 4) nd rfl (Or.inl rfl)) (pss_one (ps_dput (hu_of hr) (cv 1) (cv 4) pe_bl rfl))))))
    (pss_one (ps_ret pe_non)))), ?_⟩
    walk_at "w"
    intro d hd'
    generalize hU0 : upd H d _ = H1
    have sH1 := Same.of_eq hd' hU0
    have ed := at_of_eq hU0
    clear hU0
    walk_at "w"
    have htl : ts.length = rs.length := hp.length
    refine ⟨l, rfl, ⟨_, sH1.seq hl⟩, ?_⟩
    walk_at "w"
    refine forAt_enumL (xs := ts.map V.ref) (fun i σ G => Same H G ∧ (∃ kvs seen, G d = some (.dK kvs) ∧ InD kvs seen ∧ kvs.length ≤ i * 300 ∧ lateF rs = lateS i (rs.drop i) seen) ∧ ∃ x2 x3 x4, σ = [some (.ref l), some (.ref d), x2, x3, x4]) ⟨sH1, ⟨[], [], ed, InD.nil, by simp, rfl⟩, _, _, _, rfl⟩ (fun i σ G hi hP => hP.1.seq hl) (fun i x σ G T0 hx hP hT0 => ?_) (fun σ G hP => ?_)
    · obtain ⟨s1, ⟨kvs, seen, hd, hin, hkl, hla⟩, x2, x3, x4, rfl⟩ := hP
      rw [List.getElem?_map] at hx
      obtain ⟨o, ho, rfl⟩ := Option.map_eq_some_iff.mp hx
      obtain ⟨r, hr, hob⟩ := Paired.nth hp ho
      have hrm : r ∈ rs := List.mem_of_getElem? hr
      generalize hU : upd G T0 _ = G2
      have s2 := Same.of_eq hT0 hU
      have eT := at_of_eq hU
      clear hU
      have hdr : (rs.drop i)[0]? = some r := by rw [List.getElem?_drop, Nat.add_zero]; exact hr
      rw [lateS_cons i _ r seen hdr, List.drop_drop] at hla
      walk_at "w"
      refine ⟨T0, _, rfl, SqT.of eT, rfl, ?_⟩
      walk_at "w"
      refine ⟨_, _, rfl, ?_⟩
      walk_at "w"
      refine ⟨_, _, rfl, ?_⟩
      walk_at "w"
      refine And.intro rfl ?_
      walk_at "w"
      refine callRds (K := K) T (r := r) (hob.same (s1.trans s2)) (hr2 r hrm).1 fun L G3 s3 hL eL => ?_
      walk_at "w"
      refine ⟨L, rfl, ⟨_, SqL.of eL⟩, ?_⟩
      walk_at "w"
      have hd3 : G3 d = some (.dK kvs) := s3.at (s2.at hd)
      have s13 : Same H G3 := s1.trans (s2.trans s3)
      refine forAt_list (xs := r.rds.map V.int) (fun j σ G4 => G4 = G3 ∧ (∀ i', i' < j → ∀ c, r.rds[i']? = some c → decide (c ∈ seen) = false) ∧ ∃ x4, σ = [some (.ref l), some (.ref d), some (.int i), some (.ref o), x4])
        ⟨rfl, fun j hj => absurd hj (Nat.not_lt_zero _), _, rfl⟩ (fun j σ G4 hj hQ => by rw [hQ.1]; exact SqL.of eL) (fun j x σ G4 hx hQ => ?_) (fun σ G4 hQ => ?_)
      · obtain ⟨rfl, hno, x4, rfl⟩ := hQ
        rw [List.getElem?_map] at hx
        obtain ⟨c, hc, rfl⟩ := Option.map_eq_some_iff.mp hx
        have hj : j < r.rds.length := (List.getElem?_eq_some_iff.mp hc).1
        walk_at "w"
        refine ⟨d, _, rfl, DGet.k (k := Sum.inl c) hd3, ?_⟩
        walk_at "w"
        rw [hin c]
        refine ⟨fun e => ?_, fun e => ?_⟩
        · have ef : r.rds.find? (fun c => decide (c ∈ seen)) = some c := by
            rw [find_skip (j := j) hno, List.drop_eq_getElem_cons hj, List.find?_cons, (List.getElem?_eq_some_iff.mp hc).2, e]
          rw [ef] at hla
          rw [hla] at q
          walk_at "w"
          walk_at "ss"
          intro t ht
          exact q t _ (s13.trans (Same.new ht)) upd_same
        · refine ⟨rfl, fun i' hi' c' hc' => ?_, _, rfl⟩
          by_cases hji : i' = j
          · rw [hji, hc] at hc'; cases hc'; exact e
          · exact hno i' (by (first | lia | omega)) c' hc'
      · obtain ⟨rfl, hno, x4, rfl⟩ := hQ
        rw [List.length_map] at hno
        have ef : r.rds.find? (fun c => decide (c ∈ seen)) = none := by
          rw [find_skip (j := r.rds.length) hno, List.drop_length]; rfl
        rw [ef] at hla
        walk_at "w"
        refine callWrs (K := K) T (r := r) (hob.same s13) (hr2 r hrm).1 fun L2 G5 s5 hL2 eL2 => ?_
        walk_at "w"
        refine ⟨L2, rfl, ⟨_, SqL.of eL2⟩, ?_⟩
        walk_at "w"
        have hd5 : G5 d = some (.dK kvs) := s5.at hd3
        have nLd : L2 ≠ d := ne_of eL2 hd5 (fun z => by cases z)
        have hwl := (hr2 r hrm).2.2
        refine forAt_list (xs := r.wrs.map V.int) (fun j σ G6 => Same H G6 ∧ G6 L2 = some (.lst (r.wrs.map V.int)) ∧ (∃ kvs' seen', G6 d = some (.dK kvs') ∧ InD kvs' seen' ∧ kvs'.length ≤ i * 300 + j ∧ ∀ c, c ∈ seen' ↔ c ∈ seen ++ r.wrs.take j) ∧ ∃ x4, σ = [some (.ref l), some (.ref d), some (.int i), some (.ref o), x4])
          ⟨s13.trans s5, eL2, ⟨kvs, seen, hd5, hin, by (first | lia | omega), fun c => by rw [List.take_zero, List.append_nil]⟩, _, rfl⟩ (fun j σ G6 hj hQ => SqL.of hQ.2.1) (fun j x σ G6 hx hQ => ?_) (fun σ G6 hQ => ?_)
        · obtain ⟨s6, eL6, ⟨kvs6, seen6, hd6, hin6, hk6, hse6⟩, x4, rfl⟩ := hQ
          rw [List.getElem?_map] at hx
          obtain ⟨c, hc, rfl⟩ := Option.map_eq_some_iff.mp hx
          have hj : j < r.wrs.length := (List.getElem?_eq_some_iff.mp hc).1
          have hi : i < ts.length := (List.getElem?_eq_some_iff.mp ho).1
          walk_at "w"
          refine ⟨d, _, rfl, DPut.k (k := Sum.inl c) hd6 (by rw [sizeLine_eq]; (first | lia | omega)), ?_⟩
          generalize hV : upd G6 d _ = G7
          have s7 : Same H G7 := Same.wr s6 hd' hV
          have eL7 : G7 L2 = some (.lst (r.wrs.map V.int)) := by rw [← hV, upd_ne nLd]; exact eL6
          have hd7 := at_of_eq hV
          clear hV
          have := putK_len kvs6 (Sum.inl c) (.bl true)
          refine ⟨s7, eL7, ⟨_, _, hd7, hin6.put c _, by (first | lia | omega), fun y => ?_⟩, _, rfl⟩
          rw [List.take_succ, hc, ← List.append_assoc, List.mem_append, List.mem_cons, hse6 y]
          simp [or_comm]
        · obtain ⟨s6, eL6, ⟨kvs6, seen6, hd6, hin6, hk6, hse6⟩, x4, rfl⟩ := hQ
          rw [List.length_map] at hk6 hse6
          rw [List.take_length] at hse6
          refine ⟨s6, ⟨kvs6, seen6, hd6, hin6, by (first | lia | omega), ?_⟩, _, _, _, rfl⟩
          rw [hla]
          exact lateS_ext _ _ _ _ fun c => (hse6 c).symm
    · obtain ⟨s1, ⟨kvs, seen, hd, hin, hkl, hla⟩, x2, x3, x4, rfl⟩ := hP
      have e0 : rs.drop (ts.map V.ref).length = [] := by
        rw [List.length_map, htl]
        exact List.drop_length
      rw [e0] at hla
      have e1 : lateF rs = none := hla
      rw [e1] at q
      exact q G s1
theorem TupAt.dv {H : Hp} {t : Addr} {r : RowD} (h : TupAt K H t r) : Dv H (.ref t) r.dat := by
  cases r with
  | take to st c => exact .tup h (.cons (.str _) (.cons (.int _) (.cons (.int _) (.cons (.int _) .nil))))
  | put to sg => obtain ⟨u, h1, h2⟩ := h; exact .tup h1 (.cons (.str _) (.cons (.int _) (.cons (.tup h2 (Dvs.ints sg)) .nil)))
theorem dat_tell {r : RowD} (h : r.ok) : TellOk r.dat := by
  cases r with
  | take to st c => exact tell_of (by decide +kernel) fun es z => by cases z
  | put to sg => exact tell_of (by decide +kernel) fun es z => by cases z; rw [List.length_map]; exact h.2.2.1
theorem callRow {H : Hp} {t : Addr} {r : RowD} {R : Addr → Hp → Prop} {E : Hp → Prop} (ht : TupAt K H t r) (hk : r.ok) (k : ∀ o H', Same H H' → H o = none → ObjAt K a H' o r → R o H') : ∃ v d, [V.ref t] ++ [] = [v] ∧ Dv H v d ∧ TellOk d ∧
    (∀ to st c, d = .tuple [.str "take", .int to, .int st, .int c] → 0 ≤ to → 0 ≤ st → 1 ≤ c → ∀ (o : Addr) (H' : Hp), Same H H' → H o = none → ObjAt K a H' o (.take to st c) → R o H') ∧
    (∀ to sg, d = .tuple [.str "put", .int to, .tuple (sg.map PyData.int)] → 0 ≤ to → sg ≠ [] → (∀ x ∈ sg, (x.natAbs : Int) < 10 ^ 60) → ∀ (o : Addr) (H' : Hp), Same H H' → H o = none → ObjAt K a H' o (.put to sg) → R o H') ∧
    (takeD d = false → putD d = false → ∀ H', Same H H' → E H') := by
  refine ⟨.ref t, r.dat, rfl, TupAt.dv ht, dat_tell hk, fun to st c e _ _ _ o H' s n ob => ?_, fun to sg e _ _ _ o H' s n ob => ?_, fun e1 e2 => ?_⟩
  · cases r with
    | take to' st' c' => cases e; exact k o H' s n ob
    | put to' sg' => cases e
  · cases r with
    | take to' st' c' => cases e
    | put to' sg' =>
      have e' : to' = to ∧ sg'.map PyData.int = sg.map PyData.int := by
        injection e with e
        injection e with _ e
        injection e with e3 e
        injection e with e4 _
        injection e3 with e3
        injection e4 with e4
        exact ⟨e3, e4⟩
      obtain ⟨rfl, e4⟩ := e'
      have : sg' = sg := List.map_inj_right (fun x y z => by cases z; rfl) |>.mp e4
      subst this
      exact k o H' s n ob
  · cases r with
    | take to st c =>
      obtain ⟨k1, k2, k3⟩ := hk
      rw [show RowD.dat (.take to st c) = .tuple [.str "take", .int to, .int st, .int c] from rfl, takeD_take k1 k2 k3] at e1
      cases e1
    | put to sg =>
      obtain ⟨k1, k2, k3, k4⟩ := hk
      rw [show RowD.dat (.put to sg) = .tuple [.str "put", .int to, .tuple (sg.map PyData.int)] from rfl, putD_put k1 k2 k4] at e2
      cases e2
def kcD (w : Str) (o : Option (Nat × Int)) : Option (List PyData) := o.map fun x => [.str w, .int (x.1 : Int), .int x.2]
def cD (w : Str) (o : Option Int) : Option (List PyData) := o.map fun c => [.str w, .int c]
def faultR (rs : List RowD) (new : Nat) : Option (List PyData) := (kcD "twice" (twiceF rs)).or ((cD "lacks" (lacksF rs new)).or (kcD "late" (lateF rs)))
def faultN (old new : Int) (ds : List PyData) : Option (List PyData) :=
  match wrongF old new ds with
  | some k => some [.str "row", .int (k : Int)]
  | none => faultR (ds.filterMap rowD) new.toNat
def faultD (dO dN : PyData) (ds : List PyData) : Option (List PyData) :=
  if (lenD dO && (lenD dN && decide (ds.length ≤ 300))) = true then
    match dO, dN with
    | .int old, .int new => faultN old new ds
    | _, _ => none
  else some [.str "size"]
/-  what stands for a fault, or for none -/
def FltAt (G : Hp) (v : V) : Option (List PyData) → Prop
  | none => v = .non
  | some ps => Dv G v (.tuple ps)
theorem FltAt.same {G G' : Hp} {v : V} {o : Option (List PyData)} (h : FltAt G v o) (s : Same G G') : FltAt G' v o := by
  cases o with
  | none => exact h
  | some ps => exact Dv.same s h
inductive Sp_judge (vs : List V) (H : Hp) (Q : VK) : Prop
  | mk (p tt : Addr) (vo vn : V) (dO dN : PyData) (xs : List V) (ds : List PyData) : (vs = [.ref p]) → (H p = some (.tup [vo, vn, .ref tt])) → (Dv H vo dO) → (Dv H vn dN) → (H tt = some (.tup xs)) → (Dvs H xs ds) → ((∀ d ∈ ds, TellOk d)) → (∀ v H', Same H H' → FltAt H' v (faultD dO dN ds) → Q v H') → Sp_judge  vs H Q
def sp_judge : Sp := fun vs H Q _ => Sp_judge  vs H Q
theorem fitD_row {old new : Int} {d : PyData} (ht : TellOk d) (h : fitD old new d = true) : ∃ r, rowD d = some r ∧ d = r.dat ∧ r.ok ∧ fitR old new r = true := by
  unfold fitD at h
  cases e1 : takeD d with
  | true =>
    obtain ⟨to, st, c, rfl, k1, k2, k3⟩ := takeD_row e1
    rw [rowD_take k1 k2 k3] at h ⊢
    exact ⟨_, rfl, rfl, ⟨k1, k2, k3⟩, h⟩
  | false =>
    cases e2 : putD d with
    | true =>
      obtain ⟨to, sg, rfl, k1, k2, k3⟩ := putD_row e2
      rw [rowD_put k1 k2 k3] at h ⊢
      refine ⟨_, rfl, rfl, ⟨k1, k2, ?_, k3⟩, h⟩
      have := (ht _ rfl).2 _ _ rfl rfl
      rwa [List.length_map] at this
    | false => rw [rowD_none e1 e2] at h; cases h
theorem fit_lens {old new : Int} {r : RowD} (hk : r.ok) (hn : new ≤ 300) (h : fitR old new r = true) : r.cv.length ≤ 300 ∧ r.rds.length ≤ 300 ∧ r.wrs.length ≤ 300 := by
  cases r with
  | take to st c =>
    obtain ⟨k1, k2, k3⟩ := hk
    have h2 : to + c ≤ new := of_decide_eq_true (Bool.and_eq_true_iff.mp h).2
    have hc : c.toNat ≤ 300 := by (first | lia | omega)
    refine ⟨by show (rngI to c.toNat).length ≤ 300; rw [rngI_length]; exact hc, ?_, ?_⟩
    · show (if st = to then [] else rngI st c.toNat).length ≤ 300
      split
      · simp
      · rw [rngI_length]; exact hc
    · show (if st = to then [] else rngI to c.toNat).length ≤ 300
      split
      · simp
      · rw [rngI_length]; exact hc
  | put to sg =>
    obtain ⟨k1, _⟩ := hk
    have h2 : to + sg.length ≤ new := of_decide_eq_true h
    refine ⟨by show (rngI to sg.length).length ≤ 300; rw [rngI_length]; (first | lia | omega), by simp [RowD.rds], by show (rngI to sg.length).length ≤ 300; rw [rngI_length]; (first | lia | omega)⟩
theorem paired_snoc {α β : Type} {F : α → β → Prop} {x : α} {y : β} : ∀ {l₁ : List α} {l₂ : List β}, Paired F l₁ l₂ → F x y → Paired F (l₁ ++ [x]) (l₂ ++ [y])
  | _, _, .nil, h => .cons h .nil
  | _, _, .cons r t, h => .cons r (paired_snoc t h)
theorem Dv.tupAt {H : Hp} {v : V} {r : RowD} (h : Dv H v r.dat) : ∃ t, v = .ref t ∧ TupAt K H t r := by
  cases r with
  | take to st c =>
    cases h with
    | tup e r => have ex := r.take4; subst ex; exact ⟨_, rfl, e⟩
  | put to sg =>
    cases h with
    | tup e r => obtain ⟨u, rfl, h2⟩ := r.put3; exact ⟨_, rfl, u, e, h2⟩
theorem resKC_of {H : Hp} {Q : VK} {w : Str} {o : Option (Nat × Int)} (h : ∀ v H', Same H H' → FltAt H' v (kcD w o) → Q v H') : resKC H Q w o := by
  cases o with
  | none => exact fun H' s => h .non H' s rfl
  | some x => obtain ⟨k, c⟩ := x; exact fun t H' s e => h _ H' s (.tup e (.cons (.str _) (.cons (.int _) (.cons (.int _) .nil))))
theorem resC_of {H : Hp} {Q : VK} {w : Str} {o : Option Int} (h : ∀ v H', Same H H' → FltAt H' v (cD w o) → Q v H') : resC H Q w o := by
  cases o with
  | none => exact fun H' s => h .non H' s rfl
  | some x => exact fun t H' s e => h _ H' s (.tup e (.cons (.str _) (.cons (.int _) .nil)))
theorem ok_judge (T : Txt K mg a) : FnOk P w K mg base CX0 8 a.f_judge a.d_judge ["paper"] sp_judge := by
  refine T.F_judge.ok sc_judge (fun vs H Q E h => ?_) (fun cdv A outer s H vs Q E hr h => ?_)
  · obtain ⟨p, tt, vo, vn, dO, dN, xs, ds, rfl, _⟩ := h; rfl
  · obtain ⟨p, tt, vo, vn, dO, dN, xs, ds, rfl, hp, ho, hn, ht, hd, htl, q⟩ := h
    have nd := sc_judge.nd
    have hxl := hd.length
    refine ⟨_, (pss_cons (cs_if (pt_not (ct_val (pe_call (ok_fits_in_size (P := P) (w := w) (K := K) (mg := mg) (base := base) T) (hr.mono (by decide)) (by rfl) T.m_fits_in_size T.F_fits_in_size.kp T.b_fits_in_size .nil pass0 (pa_cons (cv 0) pa_nil)))) (pss_one (ps_ret (pe_tup (pa_cons pe_str pa_nil)))) pss_nil)
    (pss_cons (ps_set (i := 1) nd rfl (Or.inl rfl) (pe_call (ok_first_wrong_row (P := P) (w := w) (K := K) (mg := mg) (base := base) T) (hr.mono (by decide)) (by rfl) T.m_first_wrong_row T.F_first_wrong_row.kp T.b_first_wrong_row .nil pass0 (pa_cons (cv 0) pa_nil)))
    (pss_cons (cs_if (ct_notN (cv 1)) (pss_one (ps_ret (pe_tup (pa_cons pe_str (pa_cons (cv 1) pa_nil))))) pss_nil)
    (pss_cons (ps_setComp (i := 2) (blk_mk (cap := []) (ys := []) rfl rfl rfl rfl rfl trivial (by decide +kernel)) rfl nd rfl rfl (it_tupK (K := K) rfl (pe_ix (ix_tupK (K := K) rfl) (cv 0) pe_int (fun _ _ => rfl))) (fun _ _ _ _ => (pe_call (ok_row_of (P := P) (w := w) (K := K) (mg := mg) (base := base) T) (hr.mono (by decide)) (by rfl) T.m_row_of T.F_row_of.kp T.b_row_of .nil passF (pa_cons (cv 0) pa_nil))) (fun _ _ _ _ => cts_nil))
    (pss_cons (ps_set (i := 3) nd rfl (Or.inl rfl) (pe_call (ok_covered_twice (P := P) (w := w) (K := K) (mg := mg) (base := base) T) (hr.mono (by decide)) (by rfl) T.m_covered_twice T.F_covered_twice.kp T.b_covered_twice .nil pass0 (pa_cons (cv 2) pa_nil)))
    (pss_cons (cs_cut (cs_if (ct_isN (cv 3)) (pss_one (ps_set (i := 3) nd rfl (Or.inl rfl) (pe_call (ok_lacking (P := P) (w := w) (K := K) (mg := mg) (base := base) T) (hr.mono (by decide)) (by rfl) T.m_lacking T.F_lacking.kp T.b_lacking .nil pass0 (pa_cons (cv 2) (pa_cons (pe_ix (ix_tupK (K := K) rfl) (cv 0) pe_int (fun _ _ => rfl)) pa_nil))))) pss_nil))
    (pss_cons (cs_cut (cs_if (ct_isN (cv 3)) (pss_one (ps_set (i := 3) nd rfl (Or.inl rfl) (pe_call (ok_read_late (P := P) (w := w) (K := K) (mg := mg) (base := base) T) (hr.mono (by decide)) (by rfl) T.m_read_late T.F_read_late.kp T.b_read_late .nil pass0 (pa_cons (cv 2) pa_nil)))) pss_nil))
    (pss_one (ps_ret (cv 3)))))))))), ?_⟩
    walk_at "w"
    refine ⟨p, tt, vo, vn, dO, dN, xs, rfl, hp, ho, hn, ht, ?_⟩
    walk_at "w"
    rw [hxl]
    refine ⟨fun e => ?_, fun e => ?_⟩
    · have e' : (lenD dO && (lenD dN && decide (ds.length ≤ 300))) = false := by rw [Bool.not_eq_true'] at e; exact e
      walk_at "w"
      walk_at "ss"
      intro t ht
      generalize hUt : upd H t _ = H1
      have sH1 := Same.of_eq ht hUt
      have et := at_of_eq hUt
      clear hUt
      walk_at "w"
      refine q _ _ sH1 ?_
      unfold faultD
      rw [e']
      exact .tup et (.cons (.str _) .nil)
    have e' : (lenD dO && (lenD dN && decide (ds.length ≤ 300))) = true := by rw [Bool.not_eq_false'] at e; exact e
    obtain ⟨e1, e2⟩ := Bool.and_eq_true_iff.mp e'
    obtain ⟨e2, e3⟩ := Bool.and_eq_true_iff.mp e2
    have hle : ds.length ≤ 300 := of_decide_eq_true e3
    have hint : ∀ {d : PyData}, lenD d = true → ∃ i : Int, d = .int i ∧ 0 ≤ i ∧ i ≤ 300 := fun {d} h => by
      cases d with
      | int i => exact ⟨i, rfl, of_decide_eq_true (Bool.and_eq_true_iff.mp h).1, of_decide_eq_true (Bool.and_eq_true_iff.mp h).2⟩
      | _ => exact absurd h Bool.false_ne_true
    obtain ⟨old, rfl, ho0, ho3⟩ := hint e1
    obtain ⟨new, rfl, hn0, hn3⟩ := hint e2
    have q' : ∀ v H', Same H H' → FltAt H' v (faultN old new ds) → Q v H' := fun v H' s' f => q v H' s' (by unfold faultD; rw [e']; exact f)
    clear q e e' e1 e2 e3
    cases ho
    cases hn
    walk_at "w"
    refine ⟨p, tt, old, new, xs, ds, rfl, hp, ht, hd, htl, fun H1 s1 => ?_⟩
    cases hw : wrongF old new ds with
    | some k =>
      walk_at "w"
      refine ⟨fun _ => ?_, by walk_at "no"⟩
      walk_at "w"
      walk_at "ss"
      intro t ht
      generalize hUt : upd H1 t _ = H2
      have sH2 := Same.of_eq ht hUt
      have et := at_of_eq hUt
      clear hUt
      walk_at "w"
      refine q' _ _ (s1.trans sH2) ?_
      unfold faultN
      rw [hw]
      exact .tup et (.cons (.str _) (.cons (.int _) .nil))
    | none =>
      have q2 : ∀ v H', Same H H' → FltAt H' v (faultR (ds.filterMap rowD) new.toNat) → Q v H' := fun v H' s' f => q' v H' s' (by unfold faultN; rw [hw]; exact f)
      clear q'
      have hfit : ∀ d ∈ ds, fitD old new d = true := fun d hdm => by
        have := (List.findIdx?_eq_none_iff.mp hw) d hdm
        simpa using this
      walk_at "w"
      refine ⟨by walk_at "no", fun _ => ?_⟩
      walk_at "w"
      refine ⟨p, _, _, .ref tt, rfl, rfl, SqT.of (s1.at hp), rfl, ?_⟩
      walk_at "w"
      refine ⟨tt, rfl, ⟨_, SqT.of (s1.at ht)⟩, ?_⟩
      refine comp_tupP (fun i acc G => ∃ (os : List Addr) (rs : List RowD), acc = os.map V.ref ∧ Paired (ObjAt K a G) os rs ∧ rs = (ds.take i).filterMap rowD) (SqT.of (s1.at ht)) (by rw [sizeLine_eq]; (first | lia | omega)) ⟨[], [], rfl, .nil, rfl⟩ (fun i x acc H3 H3' hx s3 s3' hP R hR => ?_) (fun D acc H3 H3' hD hD3 s3 s3' hP hel he => ?_)
      · obtain ⟨os, rs, rfl, hpr, hrs⟩ := hP
        have hi : i < xs.length := (List.getElem?_eq_some_iff.mp hx).1
        have hdi : ds[i]? = some ds[i] := List.getElem?_eq_getElem (by (first | lia | omega))
        obtain ⟨x', ex1, ex2⟩ := hd.get hdi
        rw [hx] at ex1; cases ex1
        obtain ⟨r, er, ed, hk, hf⟩ := fitD_row (htl _ (List.mem_of_getElem? hdi)) (hfit _ (List.mem_of_getElem? hdi))
        rw [ed] at ex2
        obtain ⟨t0, rfl, ht0⟩ := Dv.tupAt (K := K) ex2
        walk_at "w"
        refine callRow (K := K) (ht0.same (s1.trans (s3.trans s3'))) hk fun o H6' s6 hno hob => hR _ _ s6 fun H6 sx kx => ⟨os ++ [o], rs ++ [r], by simp, paired_snoc (L2.Paired.imp' (fun _ _ z => z.same sx) hpr) (hob.mv kx), ?_⟩
        rw [List.take_succ, hdi, List.filterMap_append, ← hrs]
        simp [er]
      obtain ⟨os, rs, rfl, hpr, hrs⟩ := hP
      have hrs' : rs = ds.filterMap rowD := by rw [hrs, hxl, List.take_length]
      rw [← hrs'] at q2
      have hpr' := L2.Paired.imp' (fun _ _ (z : ObjAt K a H3 _ _) => z.same s3') hpr
      have sA : Same H H3' := s1.trans (s3.trans s3')
      have hrok : RowsOk rs := by
        refine ⟨?_, fun r hrm => ?_⟩
        · rw [hrs']; exact Nat.le_trans (List.length_filterMap_le _ _) hle
        · rw [hrs'] at hrm
          obtain ⟨d, hdm, er⟩ := List.mem_filterMap.mp hrm
          obtain ⟨r', er', _, hk, hf⟩ := fitD_row (htl d hdm) (hfit d hdm)
          rw [er] at er'; cases er'
          exact fit_lens hk hn3 hf
      clear hel hD3 s3 s3' hpr
      walk_at "w"
      refine ⟨D, rs, rfl, ⟨os, SqL.of he, hpr'⟩, hrok, ?_⟩
      refine resKC_of fun v H4 s4 hf => ?_
      walk_at "w"
      refine ⟨fun σ' G => Same H3' G ∧ ∃ v, σ' = [some (.ref p), some .non, some (.ref D), some v] ∧ FltAt G v ((kcD "twice" (twiceF rs)).or (cD "lacks" (lacksF rs new.toNat))), ?_, ?_⟩
      · cases htw : twiceF rs with
        | none =>
          rw [htw] at hf
          cases (show v = .non from hf)
          walk_at "w"
          refine ⟨fun _ => ?_, by walk_at "no"⟩
          walk_at "w"
          refine ⟨p, _, _, .int new, rfl, rfl, SqT.of ((sA.trans s4).at hp), rfl, ?_⟩
          walk_at "w"
          refine ⟨D, rs, new.toNat, by rw [Int.toNat_of_nonneg hn0]; rfl, ⟨os, SqL.of (s4.at he), L2.Paired.imp' (fun _ _ z => z.same s4) hpr'⟩, hrok, by (first | lia | omega), ?_⟩
          refine resC_of fun v H5 s5 hf5 => ?_
          exact ⟨s4.trans s5, v, rfl, hf5⟩
        | some kc =>
          rw [htw] at hf
          have hf' : Dv H4 v (.tuple [.str "twice", .int (kc.1 : Int), .int kc.2]) := hf
          cases hf' with
          | tup et r =>
            walk_at "w"
            exact ⟨by walk_at "no", fun _ => ⟨s4, _, rfl, .tup et r⟩⟩
      rintro σ' G ⟨sG, v2, rfl, hf2⟩
      walk_at "w"
      refine ⟨fun σ' G => Same H3' G ∧ ∃ v, σ' = [some (.ref p), some .non, some (.ref D), some v] ∧ FltAt G v (faultR rs new.toNat), ?_, ?_⟩
      · have efr : faultR rs new.toNat = ((kcD "twice" (twiceF rs)).or (cD "lacks" (lacksF rs new.toNat))).or (kcD "late" (lateF rs)) := by unfold faultR; rw [Option.or_assoc]
        cases hor : (kcD "twice" (twiceF rs)).or (cD "lacks" (lacksF rs new.toNat)) with
        | none =>
          rw [hor] at hf2 efr
          cases (show v2 = .non from hf2)
          walk_at "w"
          refine ⟨fun _ => ?_, by walk_at "no"⟩
          walk_at "w"
          refine ⟨D, rs, rfl, ⟨os, SqL.of (sG.at he), L2.Paired.imp' (fun _ _ z => z.same sG) hpr'⟩, hrok, ?_⟩
          refine resKC_of fun v H5 s5 hf5 => ?_
          exact ⟨sG.trans s5, v, rfl, by rw [efr]; exact hf5⟩
        | some ps =>
          rw [hor] at hf2 efr
          have hf' : Dv G v2 (.tuple ps) := hf2
          cases hf' with
          | tup et r =>
            walk_at "w"
            exact ⟨by walk_at "no", fun _ => ⟨sG, _, rfl, by rw [efr]; exact .tup et r⟩⟩
      rintro σ' G3 ⟨sG3, v3, rfl, hf3⟩
      exact q2 v3 G3 (sA.trans sG3) hf3
/-! the law's own things that are rows or none -/
def GRow (m : Nat) (d : PyData) : Prop :=
  (∃ to st c : Int, d = .tuple [.str "take", .int to, .int st, .int c] ∧ 0 ≤ to ∧ 0 ≤ st ∧ 0 ≤ c) ∨
  (∃ (to : Int) (sg : List Int), d = .tuple [.str "put", .int to, .tuple (sg.map PyData.int)] ∧ -1 ≤ to ∧ (∀ x ∈ sg, (x.natAbs : Int) < 10 ^ 60) ∧ sg.length ≤ m) ∨
  d = .list [.str "put", .int 0, .tuple [.int 1]] ∨ d = .none
theorem GRow.mono {m n : Nat} {d : PyData} (h : GRow m d) (l : m ≤ n) : GRow n d := by
  rcases h with h | ⟨to, sg, h1, h2, h3, h4⟩ | h
  · exact .inl h
  · exact .inr (.inl ⟨to, sg, h1, h2, h3, Nat.le_trans h4 l⟩)
  · exact .inr (.inr h)
theorem small_sign {x : Int} (h : x.natAbs ≤ 1000000) : (x.natAbs : Int) < 10 ^ 60 := by
  have : (1000000 : Int) < 10 ^ 60 := by decide
  (first | lia | omega)
theorem GRow.tell {m : Nat} {d : PyData} (hm : m ≤ 100000) (h : GRow m d) : TellOk d := by
  rcases h with ⟨to, st, c, rfl, _⟩ | ⟨to, sg, rfl, _, _, h4⟩ | rfl | rfl
  · exact tell_of (by decide +kernel) fun es z => by cases z
  · exact tell_of (by decide +kernel) fun es z => by cases z; rw [List.length_map]; (first | lia | omega)
  · exact tell_nt fun _ z => by cases z
  · exact tell_nt fun _ z => by cases z
inductive Sp_other (vs : List V) (H : Hp) (Q : VK) : Prop
  | mk (v : V) (d : PyData) (draw : Int) (m : Nat) : (vs = [v, .int draw]) → (Dv H v d) → (GRow m d) → (1 ≤ m) → (m ≤ 1000) → (∀ v' d' H', Same H H' → Dv H' v' d' → GRow (m + 1) d' → Q v' H') → Sp_other  vs H Q
def sp_other : Sp := fun vs H Q _ => Sp_other  vs H Q
theorem ok_other (T : Txt K mg a) : FnOk P w K mg base CX0 1 a.f_other a.d_other ["_law_row", "_law_draw"] sp_other := by
  refine T.F_other.ok sc_other (fun vs H Q E h => ?_) (fun cdv A outer s H vs Q E hr h => ?_)
  · obtain ⟨v, d, draw, m, rfl, _⟩ := h; rfl
  · obtain ⟨v, d, draw, m, rfl, hd, hg, hm1, hm, q⟩ := h
    have nd := sc_other.nd
    refine ⟨_, (pss_cons (cs_if (pt_not (ct_val (pe_callB (isiK (K := K) rfl) (by rfl) T.n_isinstance bt_isinstance (pa_cons (cv 0) (pa_cons (pe_bltn (v := .ty "tuple") (by rfl) T.n_tuple bt_tuple rfl) pa_nil))))) (pss_one (ps_ret (cv 0))) pss_nil)
    (pss_cons (ps_set (i := 2) nd rfl (Or.inl rfl) (pe_op o_mod (cv 1) pe_int))
    (pss_cons (cs_if (PW.pt (cw_and (ct_cmp o_eqI (cv 2) pe_int) (pw_and1 (ct_cmp o_eqS (pe_ix (ix_tupK (K := K) rfl) (cv 0) pe_int (fun _ _ => rfl)) pe_str)))) (pss_one (ps_ret (pe_tup (pa_cons (pe_ix (ix_tupK (K := K) rfl) (cv 0) pe_int (fun _ _ => rfl)) (pa_cons (pe_ix (ix_tupK (K := K) rfl) (cv 0) pe_int (fun _ _ => rfl)) (pa_cons (pe_op o_add (pe_ix (ix_tupK (K := K) rfl) (cv 0) pe_int (fun _ _ => rfl)) (pe_op o_mod (pe_op o_fdiv (cv 1) pe_int) pe_int)) (pa_cons (pe_ix (ix_tupK (K := K) rfl) (cv 0) pe_int (fun _ _ => rfl)) pa_nil))))))) pss_nil)
    (pss_cons (cs_if (PW.pt (cw_and (ct_cmp o_eqI (cv 2) pe_int) (pw_and1 (ct_cmp o_eqS (pe_ix (ix_tupK (K := K) rfl) (cv 0) pe_int (fun _ _ => rfl)) pe_str)))) (pss_one (ps_ret (pe_tup (pa_cons (pe_ix (ix_tupK (K := K) rfl) (cv 0) pe_int (fun _ _ => rfl)) (pa_cons (pe_ix (ix_tupK (K := K) rfl) (cv 0) pe_int (fun _ _ => rfl)) (pa_cons (pe_ix (ix_tupK (K := K) rfl) (cv 0) pe_int (fun _ _ => rfl)) (pa_cons (pe_op o_add (pe_ix (ix_tupK (K := K) rfl) (cv 0) pe_int (fun _ _ => rfl)) pe_int) pa_nil))))))) pss_nil)
    (pss_cons (cs_if (ct_cmp o_eqI (cv 2) pe_int) (pss_one (ps_ret (pe_tup (pa_cons (pe_ix (ix_tupK (K := K) rfl) (cv 0) pe_int (fun _ _ => rfl)) (pa_cons (pe_ix (ix_tupK (K := K) rfl) (cv 0) pe_int (fun _ _ => rfl)) (pa_cons (pe_op (catEK (K := K) rfl) (pe_ix (ix_tupK (K := K) rfl) (cv 0) pe_int (fun _ _ => rfl)) (pe_tup (pa_cons pe_int pa_nil))) pa_nil)))))) pss_nil)
    (pss_cons (cs_if (ct_cmp o_eqI (cv 2) pe_int) (pss_one (ps_ret (pe_ix (ix_listK (K := K) rfl) (pe_lst (pa_cons (pe_tup (pa_cons pe_str (pa_cons pe_int (pa_cons pe_int (pa_cons pe_int pa_nil))))) (pa_cons (pe_tup (pa_cons pe_str (pa_cons pe_int (pa_cons (pe_tup pa_nil) pa_nil)))) (pa_cons (pe_tup (pa_cons pe_str (pa_cons (pe_un o_neg pe_int) (pa_cons (pe_tup (pa_cons pe_int pa_nil)) pa_nil)))) (pa_cons (pe_lst (pa_cons pe_str (pa_cons pe_int (pa_cons (pe_tup (pa_cons pe_int pa_nil)) pa_nil)))) (pa_cons pe_non pa_nil)))))) (pe_op o_mod (pe_op o_fdiv (cv 1) pe_int) pe_int) (fun _ _ => rfl)))) pss_nil)
    (pss_cons (cs_if (ct_cmp o_eqI (cv 2) pe_int) (pss_one (ps_ret (pe_op (catEK (K := K) rfl) (pe_tup (pa_cons (pe_ix (ix_tupK (K := K) rfl) (cv 0) pe_int (fun _ _ => rfl)) (pa_cons (pe_callB (c_max2 rfl) (by rfl) T.n_max bt_max (pa_cons pe_int (pa_cons (pe_op o_sub (pe_ix (ix_tupK (K := K) rfl) (cv 0) pe_int (fun _ _ => rfl)) pe_int) pa_nil))) pa_nil))) (pe_slice (sl_tupK (K := K) rfl) (cv 0) (po_some pe_int) po_none)))) pss_nil)
    (pss_one (ps_ret (pe_op (catEK (K := K) rfl) (pe_tup (pa_cons (pe_ix (ix_tupK (K := K) rfl) (cv 0) pe_int (fun _ _ => rfl)) (pa_cons (pe_op o_add (pe_op o_add (pe_ix (ix_tupK (K := K) rfl) (cv 0) pe_int (fun _ _ => rfl)) pe_int) (pe_op o_mod (pe_op o_fdiv (cv 1) pe_int) pe_int)) pa_nil))) (pe_slice (sl_tupK (K := K) rfl) (cv 0) (po_some pe_int) po_none))))))))))), ?_⟩
    rcases hg with ⟨to, st, c, rfl, k1, k2, k3⟩ | ⟨to, sg, rfl, k1, k2, k3⟩ | rfl | rfl
    · cases hd with
      | tup e r =>
        rename_i t xs
        have ex := r.take4
        subst ex
        walk_at "w"
        refine ⟨_, _, _, _, true, rfl, rfl, TyOf.tup e, rfl, ?_⟩
        walk_at "w"
        refine ⟨by walk_at "no", fun _ => ?_⟩
        walk_at "w"
        walk_at "ss"
        have b3 := Int.emod_nonneg (draw / 7) (show (3 : Int) ≠ 0 by decide)
        have b2 := Int.emod_nonneg (draw / 7) (show (2 : Int) ≠ 0 by decide)
        by_cases e0 : draw % 7 = 0
        · have e1 : ¬ draw % 7 = 1 := by (first | lia | omega)
          have e2 : ¬ draw % 7 = 2 := by (first | lia | omega)
          have e3 : ¬ draw % 7 = 3 := by (first | lia | omega)
          refine ⟨fun _ => ?_, fun z => absurd e0 (of_decide_eq_false z)⟩
          walk_at "w"
          refine ⟨t, _, _, .str "take", rfl, rfl, SqT.of e, rfl, ?_⟩
          walk_at "w"
          refine ⟨fun _ => ?_, by walk_at "no"⟩
          walk_at "w"
          refine ⟨t, _, _, .str "take", rfl, rfl, SqT.of e, rfl, ?_⟩
          walk_at "w"
          refine ⟨t, _, _, .int to, rfl, rfl, SqT.of e, rfl, ?_⟩
          walk_at "w"
          refine ⟨t, _, _, .int st, rfl, rfl, SqT.of e, rfl, ?_⟩
          walk_at "w"
          walk_at "ss"
          refine ⟨t, _, _, .int c, rfl, rfl, SqT.of e, rfl, ?_⟩
          walk_at "w"
          walk_at "ss"
          intro t1 ht1
          generalize hUt1 : upd H t1 _ = H1
          have sH1 := Same.of_eq ht1 hUt1
          have et1 := at_of_eq hUt1
          clear hUt1
          walk_at "w"
          exact q _ (.tuple [.str "take", .int to, .int (st + draw / 7 % 3), .int c]) H1 sH1 (.tup et1 (.cons (.str _) (.cons (.int _) (.cons (.int _) (.cons (.int _) .nil))))) (.inl ⟨to, _, c, rfl, k1, by (first | lia | omega), k3⟩)
        by_cases e1 : draw % 7 = 1
        · have e0 : ¬ draw % 7 = 0 := by (first | lia | omega)
          have e2 : ¬ draw % 7 = 2 := by (first | lia | omega)
          have e3 : ¬ draw % 7 = 3 := by (first | lia | omega)
          refine ⟨fun z => absurd (of_decide_eq_true z) e0, fun _ => ?_⟩
          walk_at "w"
          refine ⟨by walk_at "no", fun _ => ?_⟩
          walk_at "w"
          refine ⟨fun _ => ?_, fun z => absurd e1 (of_decide_eq_false z)⟩
          walk_at "w"
          refine ⟨t, _, _, .str "take", rfl, rfl, SqT.of e, rfl, ?_⟩
          walk_at "w"
          refine ⟨fun _ => ?_, by walk_at "no"⟩
          walk_at "w"
          refine ⟨t, _, _, .str "take", rfl, rfl, SqT.of e, rfl, ?_⟩
          walk_at "w"
          refine ⟨t, _, _, .int to, rfl, rfl, SqT.of e, rfl, ?_⟩
          walk_at "w"
          refine ⟨t, _, _, .int st, rfl, rfl, SqT.of e, rfl, ?_⟩
          walk_at "w"
          refine ⟨t, _, _, .int c, rfl, rfl, SqT.of e, rfl, ?_⟩
          walk_at "w"
          walk_at "ss"
          intro t1 ht1
          generalize hUt1 : upd H t1 _ = H1
          have sH1 := Same.of_eq ht1 hUt1
          have et1 := at_of_eq hUt1
          clear hUt1
          walk_at "w"
          exact q _ (.tuple [.str "take", .int to, .int st, .int (c + 1)]) H1 sH1 (.tup et1 (.cons (.str _) (.cons (.int _) (.cons (.int _) (.cons (.int _) .nil))))) (.inl ⟨to, st, _, rfl, k1, k2, by (first | lia | omega)⟩)
        by_cases e2 : draw % 7 = 2
        · have e0 : ¬ draw % 7 = 0 := by (first | lia | omega)
          have e1 : ¬ draw % 7 = 1 := by (first | lia | omega)
          have e3 : ¬ draw % 7 = 3 := by (first | lia | omega)
          refine ⟨fun z => absurd (of_decide_eq_true z) e0, fun _ => ?_⟩
          walk_at "w"
          refine ⟨by walk_at "no", fun _ => ?_⟩
          walk_at "w"
          refine ⟨fun z => absurd (of_decide_eq_true z) e1, fun _ => ?_⟩
          walk_at "w"
          refine ⟨by walk_at "no", fun _ => ?_⟩
          walk_at "w"
          refine ⟨fun z => absurd (of_decide_eq_true z) e1, fun _ => ?_⟩
          walk_at "w"
          refine ⟨fun _ => ?_, fun z => absurd e2 (of_decide_eq_false z)⟩
          walk_at "w"
          walk_at "ss"
          intro p1 hp1
          generalize hUp1 : upd H p1 _ = H1
          have sH1 := Same.of_eq hp1 hUp1
          have ep1 := at_of_eq hUp1
          clear hUp1
          walk_at "w"
          walk_at "ss"
          intro p2 hp2
          generalize hUp2 : upd H1 p2 _ = H2
          have sH2 := Same.of_eq hp2 hUp2
          have ep2 := at_of_eq hUp2
          clear hUp2
          walk_at "w"
          walk_at "ss"
          intro p3 hp3
          generalize hUp3 : upd H2 p3 _ = H3
          have sH3 := Same.of_eq hp3 hUp3
          have ep3 := at_of_eq hUp3
          clear hUp3
          walk_at "w"
          walk_at "ss"
          intro p4 hp4
          generalize hUp4 : upd H3 p4 _ = H4
          have sH4 := Same.of_eq hp4 hUp4
          have ep4 := at_of_eq hUp4
          clear hUp4
          walk_at "w"
          walk_at "ss"
          intro p5 hp5
          generalize hUp5 : upd H4 p5 _ = H5
          have sH5 := Same.of_eq hp5 hUp5
          have ep5 := at_of_eq hUp5
          clear hUp5
          walk_at "w"
          walk_at "ss"
          intro p6 hp6
          generalize hUp6 : upd H5 p6 _ = H6
          have sH6 := Same.of_eq hp6 hUp6
          have ep6 := at_of_eq hUp6
          clear hUp6
          walk_at "w"
          walk_at "ss"
          intro p7 hp7
          generalize hUp7 : upd H6 p7 _ = H7
          have sH7 := Same.of_eq hp7 hUp7
          have ep7 := at_of_eq hUp7
          clear hUp7
          walk_at "w"
          walk_at "ss"
          intro pl hpl
          generalize hUpl : upd H7 pl _ = H8
          have sH8 := Same.of_eq hpl hUpl
          have epl := at_of_eq hUpl
          clear hUpl
          walk_at "w"
          walk_at "ss"
          have c1 := Int.emod_nonneg (draw / 7) (show (5 : Int) ≠ 0 by decide)
          have c2 := Int.emod_lt_of_pos (draw / 7) (show (0 : Int) < 5 by decide)
          obtain ⟨k6, hk6⟩ : ∃ k6 : Nat, draw / 7 % 5 = k6 := ⟨(draw / 7 % 5).toNat, (Int.toNat_of_nonneg c1).symm⟩
          obtain ⟨v1, d1, hv1, hd1, g1⟩ : ∃ v1 d1, atI [V.ref p1, V.ref p3, V.ref p5, V.ref p7, V.non] (k6 : Int) = some v1 ∧ Dv H8 v1 d1 ∧ GRow (m + 1) d1 := by
            rw [hk6] at c2
            match k6, c2 with
            | 0, _ => exact ⟨_, .tuple [.str "take", .int 0, .int 0, .int 0], rfl, .tup ((sH2.trans (sH3.trans (sH4.trans (sH5.trans (sH6.trans (sH7.trans (sH8))))))).at ep1) (.cons (.str _) (.cons (.int _) (.cons (.int _) (.cons (.int _) .nil)))), .inl ⟨0, 0, 0, rfl, by decide, by decide, by decide⟩⟩
            | 1, _ => exact ⟨_, .tuple [.str "put", .int 0, .tuple []], rfl, .tup ((sH4.trans (sH5.trans (sH6.trans (sH7.trans (sH8))))).at ep3) (.cons (.str _) (.cons (.int _) (.cons (.tup ((sH3.trans (sH4.trans (sH5.trans (sH6.trans (sH7.trans (sH8)))))).at ep2) .nil) .nil))), .inr (.inl ⟨0, [], rfl, by decide, (fun x hx => by cases hx), by simp⟩)⟩
            | 2, _ => exact ⟨_, .tuple [.str "put", .int (-1), .tuple [.int 1]], rfl, .tup ((sH6.trans (sH7.trans (sH8))).at ep5) (.cons (.str _) (.cons (.int _) (.cons (.tup ((sH5.trans (sH6.trans (sH7.trans (sH8)))).at ep4) (.cons (.int _) .nil)) .nil))), .inr (.inl ⟨-1, [1], rfl, by decide, (fun x hx => by rw [List.mem_singleton.mp hx]; exact small_sign (by decide)), by simp⟩)⟩
            | 3, _ => exact ⟨_, .list [.str "put", .int 0, .tuple [.int 1]], rfl, .lst ((sH8).at ep7) (.cons (.str _) (.cons (.int _) (.cons (.tup ((sH7.trans (sH8)).at ep6) (.cons (.int _) .nil)) .nil))), .inr (.inr (.inl rfl))⟩
            | 4, _ => exact ⟨_, .none, rfl, .non, .inr (.inr (.inr rfl))⟩
            | j + 5, z => exact absurd z (by (first | lia | omega))
          refine ⟨pl, _, k6, v1, rfl, (by show V.int (draw / 7 % 5) = V.int k6; rw [hk6]), SqL.of epl, hv1, ?_⟩
          exact q v1 d1 H8 (sH1.trans (sH2.trans (sH3.trans (sH4.trans (sH5.trans (sH6.trans (sH7.trans (sH8)))))))) hd1 g1
        by_cases e3 : draw % 7 = 3
        · have e0 : ¬ draw % 7 = 0 := by (first | lia | omega)
          have e1 : ¬ draw % 7 = 1 := by (first | lia | omega)
          have e2 : ¬ draw % 7 = 2 := by (first | lia | omega)
          refine ⟨fun z => absurd (of_decide_eq_true z) e0, fun _ => ?_⟩
          walk_at "w"
          refine ⟨by walk_at "no", fun _ => ?_⟩
          walk_at "w"
          refine ⟨fun z => absurd (of_decide_eq_true z) e1, fun _ => ?_⟩
          walk_at "w"
          refine ⟨by walk_at "no", fun _ => ?_⟩
          walk_at "w"
          refine ⟨fun z => absurd (of_decide_eq_true z) e1, fun _ => ?_⟩
          walk_at "w"
          refine ⟨fun z => absurd (of_decide_eq_true z) e2, fun _ => ?_⟩
          walk_at "w"
          refine ⟨fun _ => ?_, fun z => absurd e3 (of_decide_eq_false z)⟩
          walk_at "w"
          refine ⟨t, _, _, .str "take", rfl, rfl, SqT.of e, rfl, ?_⟩
          walk_at "w"
          refine ⟨t, _, _, .int to, rfl, rfl, SqT.of e, rfl, ?_⟩
          walk_at "w"
          walk_at "ss"
          intro p1 hp1
          generalize hUp1 : upd H p1 _ = H1
          have sH1 := Same.of_eq hp1 hUp1
          have ep1 := at_of_eq hUp1
          clear hUp1
          walk_at "w"
          refine ⟨_, rfl, ?_⟩
          walk_at "w"
          refine ⟨t, _, rfl, SqT.of (sH1.at e), (by show ¬ (HT.sIx 4 0 (some 2) = 0 ∧ HT.sIx 4 4 none = 4); decide), ?_⟩
          intro p2 hp2
          generalize hUp2 : upd H1 p2 _ = H2
          have sH2 := Same.of_eq hp2 hUp2
          have ep2 := at_of_eq hUp2
          clear hUp2
          walk_at "w"
          have ep2 : H2 p2 = some (.tup [.int st, .int c]) := ep2
          refine ⟨p1, p2, _, _, rfl, rfl, SqT.of (sH2.at ep1), SqT.of ep2, (by simp [sizeLine_eq]), (fun z => by cases z), (fun _ z => by cases z), fun _ _ => ?_⟩
          intro p3 hp3
          generalize hUp3 : upd H2 p3 _ = H3
          have sH3 := Same.of_eq hp3 hUp3
          have ep3 := at_of_eq hUp3
          clear hUp3
          walk_at "w"
          exact q _ (.tuple [.str "take", .int (max 0 (to - 1)), .int st, .int c]) H3 (sH1.trans (sH2.trans (sH3))) (.tup ep3 (.cons (.str _) (.cons (.int _) (.cons (.int _) (.cons (.int _) .nil))))) (.inl ⟨_, st, c, rfl, by (first | lia | omega), k2, k3⟩)
        refine ⟨fun z => absurd (of_decide_eq_true z) e0, fun _ => ?_⟩
        walk_at "w"
        refine ⟨by walk_at "no", fun _ => ?_⟩
        walk_at "w"
        refine ⟨fun z => absurd (of_decide_eq_true z) e1, fun _ => ?_⟩
        walk_at "w"
        refine ⟨by walk_at "no", fun _ => ?_⟩
        walk_at "w"
        refine ⟨fun z => absurd (of_decide_eq_true z) e1, fun _ => ?_⟩
        walk_at "w"
        refine ⟨fun z => absurd (of_decide_eq_true z) e2, fun _ => ?_⟩
        walk_at "w"
        refine ⟨fun z => absurd (of_decide_eq_true z) e3, fun _ => ?_⟩
        walk_at "w"
        refine ⟨t, _, _, .str "take", rfl, rfl, SqT.of e, rfl, ?_⟩
        walk_at "w"
        refine ⟨t, _, _, .int to, rfl, rfl, SqT.of e, rfl, ?_⟩
        walk_at "w"
        walk_at "ss"
        intro p1 hp1
        generalize hUp1 : upd H p1 _ = H1
        have sH1 := Same.of_eq hp1 hUp1
        have ep1 := at_of_eq hUp1
        clear hUp1
        walk_at "w"
        refine ⟨_, rfl, ?_⟩
        walk_at "w"
        refine ⟨t, _, rfl, SqT.of (sH1.at e), (by show ¬ (HT.sIx 4 0 (some 2) = 0 ∧ HT.sIx 4 4 none = 4); decide), ?_⟩
        intro p2 hp2
        generalize hUp2 : upd H1 p2 _ = H2
        have sH2 := Same.of_eq hp2 hUp2
        have ep2 := at_of_eq hUp2
        clear hUp2
        walk_at "w"
        have ep2 : H2 p2 = some (.tup [.int st, .int c]) := ep2
        refine ⟨p1, p2, _, _, rfl, rfl, SqT.of (sH2.at ep1), SqT.of ep2, (by simp [sizeLine_eq]), (fun z => by cases z), (fun _ z => by cases z), fun _ _ => ?_⟩
        intro p3 hp3
        generalize hUp3 : upd H2 p3 _ = H3
        have sH3 := Same.of_eq hp3 hUp3
        have ep3 := at_of_eq hUp3
        clear hUp3
        walk_at "w"
        exact q _ (.tuple [.str "take", .int (to + 1 + draw / 7 % 2), .int st, .int c]) H3 (sH1.trans (sH2.trans (sH3))) (.tup ep3 (.cons (.str _) (.cons (.int _) (.cons (.int _) (.cons (.int _) .nil))))) (.inl ⟨_, st, c, rfl, by (first | lia | omega), k2, k3⟩)
    · cases hd with
      | tup e r =>
        rename_i t xs
        obtain ⟨u, rfl, hu⟩ := r.put3
        walk_at "w"
        refine ⟨_, _, _, _, true, rfl, rfl, TyOf.tup e, rfl, ?_⟩
        walk_at "w"
        refine ⟨by walk_at "no", fun _ => ?_⟩
        walk_at "w"
        walk_at "ss"
        have b3 := Int.emod_nonneg (draw / 7) (show (3 : Int) ≠ 0 by decide)
        have b2 := Int.emod_nonneg (draw / 7) (show (2 : Int) ≠ 0 by decide)
        by_cases e0 : draw % 7 = 0
        · have e1 : ¬ draw % 7 = 1 := by (first | lia | omega)
          have e2 : ¬ draw % 7 = 2 := by (first | lia | omega)
          have e3 : ¬ draw % 7 = 3 := by (first | lia | omega)
          refine ⟨fun _ => ?_, fun z => absurd e0 (of_decide_eq_false z)⟩
          walk_at "w"
          refine ⟨t, _, _, .str "put", rfl, rfl, SqT.of e, rfl, ?_⟩
          walk_at "w"
          refine ⟨by walk_at "no", fun _ => ?_⟩
          walk_at "w"
          refine ⟨fun z => absurd (of_decide_eq_true z) e1, fun _ => ?_⟩
          walk_at "w"
          refine ⟨by walk_at "no", fun _ => ?_⟩
          walk_at "w"
          refine ⟨fun z => absurd (of_decide_eq_true z) e1, fun _ => ?_⟩
          walk_at "w"
          refine ⟨fun z => absurd (of_decide_eq_true z) e2, fun _ => ?_⟩
          walk_at "w"
          refine ⟨fun z => absurd (of_decide_eq_true z) e3, fun _ => ?_⟩
          walk_at "w"
          refine ⟨t, _, _, .str "put", rfl, rfl, SqT.of e, rfl, ?_⟩
          walk_at "w"
          refine ⟨t, _, _, .int to, rfl, rfl, SqT.of e, rfl, ?_⟩
          walk_at "w"
          walk_at "ss"
          intro p1 hp1
          generalize hUp1 : upd H p1 _ = H1
          have sH1 := Same.of_eq hp1 hUp1
          have ep1 := at_of_eq hUp1
          clear hUp1
          walk_at "w"
          refine ⟨_, rfl, ?_⟩
          walk_at "w"
          refine ⟨t, _, rfl, SqT.of (sH1.at e), (by show ¬ (HT.sIx 3 0 (some 2) = 0 ∧ HT.sIx 3 3 none = 3); decide), ?_⟩
          intro p2 hp2
          generalize hUp2 : upd H1 p2 _ = H2
          have sH2 := Same.of_eq hp2 hUp2
          have ep2 := at_of_eq hUp2
          clear hUp2
          walk_at "w"
          have ep2 : H2 p2 = some (.tup [.ref u]) := ep2
          refine ⟨p1, p2, _, _, rfl, rfl, SqT.of (sH2.at ep1), SqT.of ep2, (by simp [sizeLine_eq]), (fun z => by cases z), (fun _ z => by cases z), fun _ _ => ?_⟩
          intro p3 hp3
          generalize hUp3 : upd H2 p3 _ = H3
          have sH3 := Same.of_eq hp3 hUp3
          have ep3 := at_of_eq hUp3
          clear hUp3
          walk_at "w"
          exact q _ (.tuple [.str "put", .int (to + 1 + draw / 7 % 2), .tuple (sg.map PyData.int)]) H3 (sH1.trans (sH2.trans (sH3))) (.tup ep3 (.cons (.str _) (.cons (.int _) (.cons (.tup ((sH1.trans (sH2.trans (sH3))).at hu) (Dvs.ints sg)) .nil)))) (.inr (.inl ⟨_, sg, rfl, by (first | lia | omega), k2, Nat.le_succ_of_le k3⟩))
        by_cases e1 : draw % 7 = 1
        · have e0 : ¬ draw % 7 = 0 := by (first | lia | omega)
          have e2 : ¬ draw % 7 = 2 := by (first | lia | omega)
          have e3 : ¬ draw % 7 = 3 := by (first | lia | omega)
          refine ⟨fun z => absurd (of_decide_eq_true z) e0, fun _ => ?_⟩
          walk_at "w"
          refine ⟨by walk_at "no", fun _ => ?_⟩
          walk_at "w"
          refine ⟨fun _ => ?_, fun z => absurd e1 (of_decide_eq_false z)⟩
          walk_at "w"
          refine ⟨t, _, _, .str "put", rfl, rfl, SqT.of e, rfl, ?_⟩
          walk_at "w"
          refine ⟨by walk_at "no", fun _ => ?_⟩
          walk_at "w"
          refine ⟨fun _ => ?_, fun z => absurd e1 (of_decide_eq_false z)⟩
          walk_at "w"
          refine ⟨t, _, _, .str "put", rfl, rfl, SqT.of e, rfl, ?_⟩
          walk_at "w"
          refine ⟨t, _, _, .int to, rfl, rfl, SqT.of e, rfl, ?_⟩
          walk_at "w"
          refine ⟨t, _, _, .ref u, rfl, rfl, SqT.of e, rfl, ?_⟩
          walk_at "w"
          walk_at "ss"
          intro p1 hp1
          generalize hUp1 : upd H p1 _ = H1
          have sH1 := Same.of_eq hp1 hUp1
          have ep1 := at_of_eq hUp1
          clear hUp1
          walk_at "w"
          refine ⟨u, p1, _, _, rfl, rfl, SqT.of (sH1.at hu), SqT.of ep1, (by rw [List.length_map, sizeLine_eq]; simp; (first | lia | omega)), (fun z => ?_), (fun _ z => by cases z), fun _ _ => ?_⟩
          · walk_at "w"
            walk_at "ss"
            intro p3 hp3
            generalize hUp3 : upd H1 p3 _ = H2
            have sH2 := Same.of_eq hp3 hUp3
            have ep3 := at_of_eq hUp3
            clear hUp3
            walk_at "w"
            exact q _ (.tuple [.str "put", .int to, .tuple [.int 5]]) H2 (sH1.trans sH2) (.tup ep3 (.cons (.str _) (.cons (.int _) (.cons (.tup (sH2.at ep1) (.cons (.int _) .nil)) .nil)))) (.inr (.inl ⟨to, [5], rfl, k1, (fun x hx => by rw [List.mem_singleton.mp hx]; exact small_sign (by decide)), by simp⟩))
          intro p2 hp2
          generalize hUp2 : upd H1 p2 _ = H2
          have sH2 := Same.of_eq hp2 hUp2
          have ep2 := at_of_eq hUp2
          clear hUp2
          walk_at "w"
          walk_at "ss"
          intro p3 hp3
          generalize hUp3 : upd H2 p3 _ = H3
          have sH3 := Same.of_eq hp3 hUp3
          have ep3 := at_of_eq hUp3
          clear hUp3
          walk_at "w"
          have ep2 : H2 p2 = some (.tup ((sg ++ [5]).map V.int)) := by rw [List.map_append]; exact ep2
          refine q _ (.tuple [.str "put", .int to, .tuple ((sg ++ [5]).map PyData.int)]) H3 (sH1.trans (sH2.trans (sH3))) (.tup ep3 (.cons (.str _) (.cons (.int _) (.cons (.tup (sH3.at ep2) (Dvs.ints _)) .nil)))) (.inr (.inl ⟨to, sg ++ [5], rfl, k1, (fun x hx => ?_), (by simp; (first | lia | omega))⟩))
          rcases List.mem_append.mp hx with z | z
          · exact k2 x z
          · rw [List.mem_singleton.mp z]; exact small_sign (by decide)
        by_cases e2 : draw % 7 = 2
        · have e0 : ¬ draw % 7 = 0 := by (first | lia | omega)
          have e1 : ¬ draw % 7 = 1 := by (first | lia | omega)
          have e3 : ¬ draw % 7 = 3 := by (first | lia | omega)
          refine ⟨fun z => absurd (of_decide_eq_true z) e0, fun _ => ?_⟩
          walk_at "w"
          refine ⟨by walk_at "no", fun _ => ?_⟩
          walk_at "w"
          refine ⟨fun z => absurd (of_decide_eq_true z) e1, fun _ => ?_⟩
          walk_at "w"
          refine ⟨by walk_at "no", fun _ => ?_⟩
          walk_at "w"
          refine ⟨fun z => absurd (of_decide_eq_true z) e1, fun _ => ?_⟩
          walk_at "w"
          refine ⟨fun _ => ?_, fun z => absurd e2 (of_decide_eq_false z)⟩
          walk_at "w"
          walk_at "ss"
          intro p1 hp1
          generalize hUp1 : upd H p1 _ = H1
          have sH1 := Same.of_eq hp1 hUp1
          have ep1 := at_of_eq hUp1
          clear hUp1
          walk_at "w"
          walk_at "ss"
          intro p2 hp2
          generalize hUp2 : upd H1 p2 _ = H2
          have sH2 := Same.of_eq hp2 hUp2
          have ep2 := at_of_eq hUp2
          clear hUp2
          walk_at "w"
          walk_at "ss"
          intro p3 hp3
          generalize hUp3 : upd H2 p3 _ = H3
          have sH3 := Same.of_eq hp3 hUp3
          have ep3 := at_of_eq hUp3
          clear hUp3
          walk_at "w"
          walk_at "ss"
          intro p4 hp4
          generalize hUp4 : upd H3 p4 _ = H4
          have sH4 := Same.of_eq hp4 hUp4
          have ep4 := at_of_eq hUp4
          clear hUp4
          walk_at "w"
          walk_at "ss"
          intro p5 hp5
          generalize hUp5 : upd H4 p5 _ = H5
          have sH5 := Same.of_eq hp5 hUp5
          have ep5 := at_of_eq hUp5
          clear hUp5
          walk_at "w"
          walk_at "ss"
          intro p6 hp6
          generalize hUp6 : upd H5 p6 _ = H6
          have sH6 := Same.of_eq hp6 hUp6
          have ep6 := at_of_eq hUp6
          clear hUp6
          walk_at "w"
          walk_at "ss"
          intro p7 hp7
          generalize hUp7 : upd H6 p7 _ = H7
          have sH7 := Same.of_eq hp7 hUp7
          have ep7 := at_of_eq hUp7
          clear hUp7
          walk_at "w"
          walk_at "ss"
          intro pl hpl
          generalize hUpl : upd H7 pl _ = H8
          have sH8 := Same.of_eq hpl hUpl
          have epl := at_of_eq hUpl
          clear hUpl
          walk_at "w"
          walk_at "ss"
          have c1 := Int.emod_nonneg (draw / 7) (show (5 : Int) ≠ 0 by decide)
          have c2 := Int.emod_lt_of_pos (draw / 7) (show (0 : Int) < 5 by decide)
          obtain ⟨k6, hk6⟩ : ∃ k6 : Nat, draw / 7 % 5 = k6 := ⟨(draw / 7 % 5).toNat, (Int.toNat_of_nonneg c1).symm⟩
          obtain ⟨v1, d1, hv1, hd1, g1⟩ : ∃ v1 d1, atI [V.ref p1, V.ref p3, V.ref p5, V.ref p7, V.non] (k6 : Int) = some v1 ∧ Dv H8 v1 d1 ∧ GRow (m + 1) d1 := by
            rw [hk6] at c2
            match k6, c2 with
            | 0, _ => exact ⟨_, .tuple [.str "take", .int 0, .int 0, .int 0], rfl, .tup ((sH2.trans (sH3.trans (sH4.trans (sH5.trans (sH6.trans (sH7.trans (sH8))))))).at ep1) (.cons (.str _) (.cons (.int _) (.cons (.int _) (.cons (.int _) .nil)))), .inl ⟨0, 0, 0, rfl, by decide, by decide, by decide⟩⟩
            | 1, _ => exact ⟨_, .tuple [.str "put", .int 0, .tuple []], rfl, .tup ((sH4.trans (sH5.trans (sH6.trans (sH7.trans (sH8))))).at ep3) (.cons (.str _) (.cons (.int _) (.cons (.tup ((sH3.trans (sH4.trans (sH5.trans (sH6.trans (sH7.trans (sH8)))))).at ep2) .nil) .nil))), .inr (.inl ⟨0, [], rfl, by decide, (fun x hx => by cases hx), by simp⟩)⟩
            | 2, _ => exact ⟨_, .tuple [.str "put", .int (-1), .tuple [.int 1]], rfl, .tup ((sH6.trans (sH7.trans (sH8))).at ep5) (.cons (.str _) (.cons (.int _) (.cons (.tup ((sH5.trans (sH6.trans (sH7.trans (sH8)))).at ep4) (.cons (.int _) .nil)) .nil))), .inr (.inl ⟨-1, [1], rfl, by decide, (fun x hx => by rw [List.mem_singleton.mp hx]; exact small_sign (by decide)), by simp⟩)⟩
            | 3, _ => exact ⟨_, .list [.str "put", .int 0, .tuple [.int 1]], rfl, .lst ((sH8).at ep7) (.cons (.str _) (.cons (.int _) (.cons (.tup ((sH7.trans (sH8)).at ep6) (.cons (.int _) .nil)) .nil))), .inr (.inr (.inl rfl))⟩
            | 4, _ => exact ⟨_, .none, rfl, .non, .inr (.inr (.inr rfl))⟩
            | j + 5, z => exact absurd z (by (first | lia | omega))
          refine ⟨pl, _, k6, v1, rfl, (by show V.int (draw / 7 % 5) = V.int k6; rw [hk6]), SqL.of epl, hv1, ?_⟩
          exact q v1 d1 H8 (sH1.trans (sH2.trans (sH3.trans (sH4.trans (sH5.trans (sH6.trans (sH7.trans (sH8)))))))) hd1 g1
        by_cases e3 : draw % 7 = 3
        · have e0 : ¬ draw % 7 = 0 := by (first | lia | omega)
          have e1 : ¬ draw % 7 = 1 := by (first | lia | omega)
          have e2 : ¬ draw % 7 = 2 := by (first | lia | omega)
          refine ⟨fun z => absurd (of_decide_eq_true z) e0, fun _ => ?_⟩
          walk_at "w"
          refine ⟨by walk_at "no", fun _ => ?_⟩
          walk_at "w"
          refine ⟨fun z => absurd (of_decide_eq_true z) e1, fun _ => ?_⟩
          walk_at "w"
          refine ⟨by walk_at "no", fun _ => ?_⟩
          walk_at "w"
          refine ⟨fun z => absurd (of_decide_eq_true z) e1, fun _ => ?_⟩
          walk_at "w"
          refine ⟨fun z => absurd (of_decide_eq_true z) e2, fun _ => ?_⟩
          walk_at "w"
          refine ⟨fun _ => ?_, fun z => absurd e3 (of_decide_eq_false z)⟩
          walk_at "w"
          refine ⟨t, _, _, .str "put", rfl, rfl, SqT.of e, rfl, ?_⟩
          walk_at "w"
          refine ⟨t, _, _, .int to, rfl, rfl, SqT.of e, rfl, ?_⟩
          walk_at "w"
          walk_at "ss"
          intro p1 hp1
          generalize hUp1 : upd H p1 _ = H1
          have sH1 := Same.of_eq hp1 hUp1
          have ep1 := at_of_eq hUp1
          clear hUp1
          walk_at "w"
          refine ⟨_, rfl, ?_⟩
          walk_at "w"
          refine ⟨t, _, rfl, SqT.of (sH1.at e), (by show ¬ (HT.sIx 3 0 (some 2) = 0 ∧ HT.sIx 3 3 none = 3); decide), ?_⟩
          intro p2 hp2
          generalize hUp2 : upd H1 p2 _ = H2
          have sH2 := Same.of_eq hp2 hUp2
          have ep2 := at_of_eq hUp2
          clear hUp2
          walk_at "w"
          have ep2 : H2 p2 = some (.tup [.ref u]) := ep2
          refine ⟨p1, p2, _, _, rfl, rfl, SqT.of (sH2.at ep1), SqT.of ep2, (by simp [sizeLine_eq]), (fun z => by cases z), (fun _ z => by cases z), fun _ _ => ?_⟩
          intro p3 hp3
          generalize hUp3 : upd H2 p3 _ = H3
          have sH3 := Same.of_eq hp3 hUp3
          have ep3 := at_of_eq hUp3
          clear hUp3
          walk_at "w"
          exact q _ (.tuple [.str "put", .int (max 0 (to - 1)), .tuple (sg.map PyData.int)]) H3 (sH1.trans (sH2.trans (sH3))) (.tup ep3 (.cons (.str _) (.cons (.int _) (.cons (.tup ((sH1.trans (sH2.trans (sH3))).at hu) (Dvs.ints sg)) .nil)))) (.inr (.inl ⟨_, sg, rfl, by (first | lia | omega), k2, Nat.le_succ_of_le k3⟩))
        refine ⟨fun z => absurd (of_decide_eq_true z) e0, fun _ => ?_⟩
        walk_at "w"
        refine ⟨by walk_at "no", fun _ => ?_⟩
        walk_at "w"
        refine ⟨fun z => absurd (of_decide_eq_true z) e1, fun _ => ?_⟩
        walk_at "w"
        refine ⟨by walk_at "no", fun _ => ?_⟩
        walk_at "w"
        refine ⟨fun z => absurd (of_decide_eq_true z) e1, fun _ => ?_⟩
        walk_at "w"
        refine ⟨fun z => absurd (of_decide_eq_true z) e2, fun _ => ?_⟩
        walk_at "w"
        refine ⟨fun z => absurd (of_decide_eq_true z) e3, fun _ => ?_⟩
        walk_at "w"
        refine ⟨t, _, _, .str "put", rfl, rfl, SqT.of e, rfl, ?_⟩
        walk_at "w"
        refine ⟨t, _, _, .int to, rfl, rfl, SqT.of e, rfl, ?_⟩
        walk_at "w"
        walk_at "ss"
        intro p1 hp1
        generalize hUp1 : upd H p1 _ = H1
        have sH1 := Same.of_eq hp1 hUp1
        have ep1 := at_of_eq hUp1
        clear hUp1
        walk_at "w"
        refine ⟨_, rfl, ?_⟩
        walk_at "w"
        refine ⟨t, _, rfl, SqT.of (sH1.at e), (by show ¬ (HT.sIx 3 0 (some 2) = 0 ∧ HT.sIx 3 3 none = 3); decide), ?_⟩
        intro p2 hp2
        generalize hUp2 : upd H1 p2 _ = H2
        have sH2 := Same.of_eq hp2 hUp2
        have ep2 := at_of_eq hUp2
        clear hUp2
        walk_at "w"
        have ep2 : H2 p2 = some (.tup [.ref u]) := ep2
        refine ⟨p1, p2, _, _, rfl, rfl, SqT.of (sH2.at ep1), SqT.of ep2, (by simp [sizeLine_eq]), (fun z => by cases z), (fun _ z => by cases z), fun _ _ => ?_⟩
        intro p3 hp3
        generalize hUp3 : upd H2 p3 _ = H3
        have sH3 := Same.of_eq hp3 hUp3
        have ep3 := at_of_eq hUp3
        clear hUp3
        walk_at "w"
        exact q _ (.tuple [.str "put", .int (to + 1 + draw / 7 % 2), .tuple (sg.map PyData.int)]) H3 (sH1.trans (sH2.trans (sH3))) (.tup ep3 (.cons (.str _) (.cons (.int _) (.cons (.tup ((sH1.trans (sH2.trans (sH3))).at hu) (Dvs.ints sg)) .nil)))) (.inr (.inl ⟨_, sg, rfl, by (first | lia | omega), k2, Nat.le_succ_of_le k3⟩))
    · cases hd with
      | lst e r =>
        walk_at "w"
        refine ⟨_, _, _, _, false, rfl, rfl, TyOf.lst e, rfl, ?_⟩
        walk_at "w"
        exact ⟨fun _ => q _ _ H (Same.refl _) (.lst e r) (.inr (.inr (.inl rfl))), by walk_at "no"⟩
    · cases hd with
      | non =>
        walk_at "w"
        refine ⟨_, _, _, _, false, rfl, rfl, TyOf.non, rfl, ?_⟩
        walk_at "w"
        exact ⟨fun _ => q _ _ H (Same.refl _) .non (.inr (.inr (.inr rfl))), by walk_at "no"⟩
def endR : RowD → Int
  | .take to _ c => to + c
  | .put to sg => to + sg.length
def stR : RowD → Bool
  | .take to st _ => decide (to = st)
  | .put _ _ => false
def sp_end : Sp := fun vs H Q _ => ∃ (v : V) (r : RowD), vs = [v] ∧ Dv H v r.dat ∧ Q (.int (endR r)) H
def sp_stays41 : Sp := fun vs H Q _ => ∃ (v : V) (r : RowD), vs = [v] ∧ Dv H v r.dat ∧ Q (.bl (stR r)) H
def sp_is_row : Sp := fun vs H Q _ => ∃ (v : V) (d : PyData) (m : Nat), vs = [v] ∧ Dv H v d ∧ GRow m d ∧ m ≤ 100000 ∧ ∀ H', Same H H' → Q (.bl (rowD d).isSome) H'
def LenData (d : PyData) : Prop := (∃ i, d = .int i) ∨ (∃ b, d = .bool b) ∨ d = .none ∨ d = .str "1"
def sp_length : Sp := fun vs H Q _ => ∃ n c : Int, vs = [.int n, .int c] ∧ ∀ v d H', Same H H' → Dv H' v d → LenData d → Q v H'
theorem ok_end (T : Txt K mg a) : FnOk P w K mg base CX0 1 a.f_end a.d_end ["_law_row"] sp_end := by
  refine T.F_end.ok sc_end (fun vs H Q E h => ?_) (fun cdv A outer s H vs Q E hr h => ?_)
  · obtain ⟨v, r, rfl, _⟩ := h; rfl
  · obtain ⟨v, r, rfl, hd, q⟩ := h
    have nd := sc_end.nd
    refine ⟨_, (pss_cons (cs_if (ct_cmp o_eqS (pe_ix (ix_tupK (K := K) rfl) (cv 0) pe_int (fun _ _ => rfl)) pe_str) (pss_one (ps_ret (pe_op o_add (pe_ix (ix_tupK (K := K) rfl) (cv 0) pe_int (fun _ _ => rfl)) (pe_ix (ix_tupK (K := K) rfl) (cv 0) pe_int (fun _ _ => rfl))))) pss_nil)
    (pss_one (ps_ret (pe_op o_add (pe_ix (ix_tupK (K := K) rfl) (cv 0) pe_int (fun _ _ => rfl)) (pe_callB (lenqK (K := K) rfl) (by rfl) T.n_len bt_len (pa_cons (pe_ix (ix_tupK (K := K) rfl) (cv 0) pe_int (fun _ _ => rfl)) pa_nil)))))), ?_⟩
    obtain ⟨t, rfl, ht⟩ := Dv.tupAt (K := K) hd
    cases r with
    | take to st c =>
      walk_at "w"
      refine ⟨t, _, _, .str "take", rfl, rfl, SqT.of ht, rfl, ?_⟩
      walk_at "w"
      refine ⟨fun _ => ?_, by walk_at "no"⟩
      walk_at "w"
      refine ⟨t, _, _, .int to, rfl, rfl, SqT.of ht, rfl, ?_⟩
      walk_at "w"
      exact ⟨t, _, _, .int c, rfl, rfl, SqT.of ht, rfl, q⟩
    | put to sg =>
      obtain ⟨u, ht, hu⟩ := ht
      walk_at "w"
      refine ⟨t, _, _, .str "put", rfl, rfl, SqT.of ht, rfl, ?_⟩
      walk_at "w"
      refine ⟨by walk_at "no", fun _ => ?_⟩
      walk_at "w"
      refine ⟨t, _, _, .int to, rfl, rfl, SqT.of ht, rfl, ?_⟩
      walk_at "w"
      refine ⟨t, _, _, .ref u, rfl, rfl, SqT.of ht, rfl, ?_⟩
      walk_at "w"
      refine ⟨u, _, rfl, .inr (SqT.of hu), ?_⟩
      walk_at "w"
      rw [List.length_map]
      exact q
theorem ok_stays (T : Txt K mg a) : FnOk P w K mg base CX0 1 a.f_stays a.d_stays ["_law_row"] sp_stays41 := by
  refine T.F_stays.ok sc_stays (fun vs H Q E h => ?_) (fun cdv A outer s H vs Q E hr h => ?_)
  · obtain ⟨v, r, rfl, _⟩ := h; rfl
  · obtain ⟨v, r, rfl, hd, q⟩ := h
    have nd := sc_stays.nd
    refine ⟨_, (pss_one (ps_ret (ce_and (ce_cmp o_eqS (pe_ix (ix_tupK (K := K) rfl) (cv 0) pe_int (fun _ _ => rfl)) pe_str) (pe_one (ce_cmp o_eqI (pe_ix (ix_tupK (K := K) rfl) (cv 0) pe_int (fun _ _ => rfl)) (pe_ix (ix_tupK (K := K) rfl) (cv 0) pe_int (fun _ _ => rfl))))))), ?_⟩
    obtain ⟨t, rfl, ht⟩ := Dv.tupAt (K := K) hd
    cases r with
    | take to st c =>
      walk_at "w"
      refine ⟨t, _, _, .str "take", rfl, rfl, SqT.of ht, rfl, ?_⟩
      walk_at "w"
      refine ⟨fun _ => ?_, by walk_at "no"⟩
      walk_at "w"
      refine ⟨t, _, _, .int to, rfl, rfl, SqT.of ht, rfl, ?_⟩
      walk_at "w"
      exact ⟨t, _, _, .int st, rfl, rfl, SqT.of ht, rfl, q⟩
    | put to sg =>
      obtain ⟨u, ht, hu⟩ := ht
      walk_at "w"
      refine ⟨t, _, _, .str "put", rfl, rfl, SqT.of ht, rfl, ?_⟩
      walk_at "w"
      exact ⟨by walk_at "no", fun _ => q⟩
theorem ok_is_row (T : Txt K mg a) : FnOk P w K mg base CX0 1 a.f_is_row a.d_is_row ["_law_row"] sp_is_row := by
  refine T.F_is_row.ok sc_is_row (fun vs H Q E h => ?_) (fun cdv A outer s H vs Q E hr h => ?_)
  · obtain ⟨v, d, m, rfl, _⟩ := h; rfl
  · obtain ⟨v, d, m, rfl, hd, hg, hm, q⟩ := h
    have nd := sc_is_row.nd
    refine ⟨_, (pss_cons (cs_if (PW.pt (cw_or (pt_not (ct_val (pe_callB (isiK (K := K) rfl) (by rfl) T.n_isinstance bt_isinstance (pa_cons (cv 0) (pa_cons (pe_bltn (v := .ty "tuple") (by rfl) T.n_tuple bt_tuple rfl) pa_nil))))) (cw_or (ct_cmp o_lt (pe_callB (lenqK (K := K) rfl) (by rfl) T.n_len bt_len (pa_cons (cv 0) pa_nil)) pe_int) (cw_or (ct_val (pe_callB (isiK (K := K) rfl) (by rfl) T.n_isinstance bt_isinstance (pa_cons (pe_ix (ix_tupK (K := K) rfl) (cv 0) pe_int (fun _ _ => rfl)) (pa_cons (pe_bltn (v := .ty "bool") (by rfl) T.n_bool bt_bool rfl) pa_nil)))) (pw_or1 (ct_cmp o_lt (pe_ix (ix_tupK (K := K) rfl) (cv 0) pe_int (fun _ _ => rfl)) pe_int)))))) (pss_one (ps_ret pe_bl)) pss_nil)
    (pss_cons (cs_if (ct_cmp o_eqS (pe_ix (ix_tupK (K := K) rfl) (cv 0) pe_int (fun _ _ => rfl)) pe_str) (pss_one (ps_ret (ce_cmp o_gt (pe_ix (ix_tupK (K := K) rfl) (cv 0) pe_int (fun _ _ => rfl)) pe_int))) pss_nil)
    (pss_one (ps_ret (ce_cmp (dneK (K := K) rfl hr.units) (pe_ix (ix_tupK (K := K) rfl) (cv 0) pe_int (fun _ _ => rfl)) (pe_tup pa_nil)))))), ?_⟩
    rcases hg with ⟨to, st, c, rfl, k1, k2, k3⟩ | ⟨to, sg, rfl, k1, k2, k3⟩ | rfl | rfl
    · cases hd with
      | tup e r =>
        rename_i t xs
        have ex := r.take4
        subst ex
        walk_at "w"
        refine ⟨_, _, _, _, true, rfl, rfl, TyOf.tup e, rfl, ?_⟩
        walk_at "w"
        refine ⟨by walk_at "no", fun _ => ?_⟩
        walk_at "w"
        refine ⟨t, _, rfl, .inr (SqT.of e), ?_⟩
        walk_at "w"
        refine ⟨by walk_at "no", fun _ => ?_⟩
        walk_at "w"
        refine ⟨t, _, _, .int to, rfl, rfl, SqT.of e, rfl, ?_⟩
        walk_at "w"
        refine ⟨_, _, _, _, false, rfl, rfl, TyOf.int _, rfl, ?_⟩
        walk_at "w"
        refine ⟨by walk_at "no", fun _ => ?_⟩
        walk_at "w"
        refine ⟨t, _, _, .int to, rfl, rfl, SqT.of e, rfl, ?_⟩
        walk_at "w"
        refine ⟨fun z => absurd (of_decide_eq_true z) (by (first | lia | omega)), fun _ => ?_⟩
        walk_at "w"
        refine ⟨t, _, _, .str "take", rfl, rfl, SqT.of e, rfl, ?_⟩
        walk_at "w"
        refine ⟨fun _ => ?_, by walk_at "no"⟩
        walk_at "w"
        refine ⟨t, _, _, .int c, rfl, rfl, SqT.of e, rfl, ?_⟩
        have z := q H (Same.refl _)
        by_cases hc : 1 ≤ c
        · rw [rowD_take k1 k2 hc] at z
          have e2 : decide ((0 : Int) < c) = true := decide_eq_true (by (first | lia | omega))
          show Q (.bl (decide ((0 : Int) < c))) H
          rw [e2]; exact z
        · have e3 : takeD (.tuple [.str "take", .int to, .int st, .int c]) = false := by
            rw [takeD_cons, show wholeFrom 1 (.int c) = false from decide_eq_false hc]; simp
          rw [rowD_none e3 rfl] at z
          have e2 : decide ((0 : Int) < c) = false := decide_eq_false (by (first | lia | omega))
          show Q (.bl (decide ((0 : Int) < c))) H
          rw [e2]; exact z
    · cases hd with
      | tup e r =>
        rename_i t xs
        obtain ⟨u, rfl, hu⟩ := r.put3
        walk_at "w"
        refine ⟨_, _, _, _, true, rfl, rfl, TyOf.tup e, rfl, ?_⟩
        walk_at "w"
        refine ⟨by walk_at "no", fun _ => ?_⟩
        walk_at "w"
        refine ⟨t, _, rfl, .inr (SqT.of e), ?_⟩
        walk_at "w"
        refine ⟨by walk_at "no", fun _ => ?_⟩
        walk_at "w"
        refine ⟨t, _, _, .int to, rfl, rfl, SqT.of e, rfl, ?_⟩
        walk_at "w"
        refine ⟨_, _, _, _, false, rfl, rfl, TyOf.int _, rfl, ?_⟩
        walk_at "w"
        refine ⟨by walk_at "no", fun _ => ?_⟩
        walk_at "w"
        refine ⟨t, _, _, .int to, rfl, rfl, SqT.of e, rfl, ?_⟩
        walk_at "w"
        refine ⟨fun z => ?_, fun z => ?_⟩
        · have hto : ¬ 0 ≤ to := by have := of_decide_eq_true z; (first | lia | omega)
          have e3 : putD (.tuple [.str "put", .int to, .tuple (sg.map PyData.int)]) = false := by
            rw [putD_cons, show wholeFrom 0 (.int to) = false from decide_eq_false hto]; simp
          have z := q H (Same.refl _)
          rw [rowD_none rfl e3] at z
          exact z
        · have hto : 0 ≤ to := by have := of_decide_eq_false z; (first | lia | omega)
          walk_at "w"
          refine ⟨t, _, _, .str "put", rfl, rfl, SqT.of e, rfl, ?_⟩
          walk_at "w"
          refine ⟨by walk_at "no", fun _ => ?_⟩
          walk_at "w"
          refine ⟨t, _, _, .ref u, rfl, rfl, SqT.of e, rfl, ?_⟩
          walk_at "w"
          walk_at "ss"
          intro p1 hp1
          generalize hUp1 : upd H p1 _ = H1
          have sH1 := Same.of_eq hp1 hUp1
          have ep1 := at_of_eq hUp1
          clear hUp1
          walk_at "w"
          have hsh : SeqAt.shaped (.tuple (sg.map PyData.int)) = true := by
            unfold SeqAt.shaped
            have h1 : PyData.canLay0 (.tuple (sg.map PyData.int)) = true := by unfold PyData.canLay0; exact PySem.W.ke_canLayAll0 sg
            have h2 : PyData.depth (.tuple (sg.map PyData.int)) ≤ 64 := by unfold PyData.depth; rw [PySem.W.ke_depthAll sg]; (first | lia | omega)
            rw [h1, decide_eq_true h2]; rfl
          refine ⟨.tuple (sg.map PyData.int), .tuple [], .tup (SqT.of (sH1.at hu)) (rps_ints sg), .tup (SqT.of ep1) .nil, hsh, by decide +kernel, ?_⟩
          walk_at "w"
          have z := q H1 sH1
          cases sg with
          | nil =>
            have e3 : putD (.tuple [.str "put", .int to, .tuple (([] : List Int).map PyData.int)]) = false := by
              rw [putD_cons, show signsD (.tuple (([] : List Int).map PyData.int)) = false from rfl]; simp
            rw [rowD_none rfl e3] at z
            exact z
          | cons x r2 =>
            rw [rowD_put hto (List.cons_ne_nil _ _) k2] at z
            exact z
    · cases hd with
      | lst e r =>
        walk_at "w"
        refine ⟨_, _, _, _, false, rfl, rfl, TyOf.lst e, rfl, ?_⟩
        walk_at "w"
        exact ⟨fun _ => ⟨fun _ => q H (Same.refl _), by walk_at "no"⟩, by walk_at "no"⟩
    · cases hd with
      | non =>
        walk_at "w"
        refine ⟨_, _, _, _, false, rfl, rfl, TyOf.non, rfl, ?_⟩
        walk_at "w"
        exact ⟨fun _ => ⟨fun _ => q H (Same.refl _), by walk_at "no"⟩, by walk_at "no"⟩
theorem ok_length (T : Txt K mg a) : FnOk P w K mg base CX0 1 a.f_length a.d_length ["_law_length_here", "_law_cell"] sp_length := by
  refine T.F_length.ok sc_length (fun vs H Q E h => ?_) (fun cdv A outer s H vs Q E hr h => ?_)
  · obtain ⟨n, c, rfl, _⟩ := h; rfl
  · obtain ⟨n, c, rfl, q⟩ := h
    have nd := sc_length.nd
    refine ⟨_, (pss_cons (cs_if (ct_cmp o_gt (pe_op o_mod (cv 1) pe_int) pe_int) (pss_one (ps_ret (cv 0))) pss_nil)
    (pss_cons (ps_set (i := 2) nd rfl (Or.inl rfl) (pe_op o_mod (pe_op o_fdiv (cv 1) pe_int) (pe_op o_pow pe_int pe_int)))
    (pss_one (ps_ret (pe_ix (ix_listK (K := K) rfl) (pe_lst (pa_cons (pe_op o_add (cv 0) pe_int) (pa_cons (pe_ix (ix_listK (K := K) rfl) (pe_lst (pa_cons (pe_op o_add pe_int (cv 2)) (pa_cons (pe_op o_sub (pe_op o_sub pe_int pe_int) (cv 2)) pa_nil))) (pe_op o_mod (cv 2) pe_int) (fun _ _ => rfl)) (pa_cons (pe_ix (ix_listK (K := K) rfl) (pe_lst (pa_cons pe_bl (pa_cons pe_non (pa_cons pe_str pa_nil)))) (pe_op o_mod (cv 2) pe_int) (fun _ _ => rfl)) (pa_cons (pe_callB (c_max2 rfl) (by rfl) T.n_max bt_max (pa_cons pe_int (pa_cons (pe_op o_sub (cv 0) pe_int) pa_nil))) pa_nil))))) (pe_op o_mod (cv 1) pe_int) (fun _ _ => rfl)))))), ?_⟩
    walk_at "w"
    walk_at "ss"
    refine ⟨fun _ => q _ _ H (Same.refl _) (.int n) (.inl ⟨n, rfl⟩), fun e9 => ?_⟩
    have h9 : c % 9 ≤ 3 := by have := of_decide_eq_false e9; (first | lia | omega)
    have h90 := Int.emod_nonneg c (show (9 : Int) ≠ 0 by decide)
    walk_at "w"
    walk_at "ss"
    have efar : ∃ far : Int, far = c / 9 % 10 ^ Int.toNat 40 := ⟨_, rfl⟩
    obtain ⟨far, hfar⟩ := efar
    walk_at "w"
    walk_at "ss"
    intro p1 hp1
    generalize hUp1 : upd H p1 _ = H1
    have sH1 := Same.of_eq hp1 hUp1
    have ep1 := at_of_eq hUp1
    clear hUp1
    walk_at "w"
    walk_at "ss"
    have ep1 : H1 p1 = some (.lst [.int (301 + far), .int (0 - 1 - far)]) := by rw [hfar]; exact ep1
    have c1 := Int.emod_nonneg far (show (2 : Int) ≠ 0 by decide)
    have c2 := Int.emod_lt_of_pos far (show (0 : Int) < 2 by decide)
    obtain ⟨k2, hk2⟩ : ∃ k : Nat, far % 2 = k := ⟨(far % 2).toNat, (Int.toNat_of_nonneg c1).symm⟩
    obtain ⟨i1, hi1⟩ : ∃ i1 : Int, atI [V.int (301 + far), V.int (0 - 1 - far)] (k2 : Int) = some (.int i1) := by
      rw [hk2] at c2
      match k2, c2 with
      | 0, _ => exact ⟨_, rfl⟩
      | 1, _ => exact ⟨_, rfl⟩
      | j + 2, z => exact absurd z (by (first | lia | omega))
    refine ⟨p1, _, k2, .int i1, rfl, (by show V.int (c / 9 % 10 ^ Int.toNat 40 % 2) = V.int k2; rw [← hfar, hk2]), SqL.of ep1, hi1, ?_⟩
    walk_at "w"
    walk_at "ss"
    intro p2 hp2
    generalize hUp2 : upd H1 p2 _ = H2
    have sH2 := Same.of_eq hp2 hUp2
    have ep2 := at_of_eq hUp2
    clear hUp2
    walk_at "w"
    walk_at "ss"
    have c3 := Int.emod_nonneg far (show (3 : Int) ≠ 0 by decide)
    have c4 := Int.emod_lt_of_pos far (show (0 : Int) < 3 by decide)
    obtain ⟨k3, hk3⟩ : ∃ k : Nat, far % 3 = k := ⟨(far % 3).toNat, (Int.toNat_of_nonneg c3).symm⟩
    obtain ⟨v2, d2, hv2, hd2, hl2⟩ : ∃ v2 d2, atI [V.bl true, V.non, V.str "1"] (k3 : Int) = some v2 ∧ (∀ G, Dv G v2 d2) ∧ LenData d2 := by
      rw [hk3] at c4
      match k3, c4 with
      | 0, _ => exact ⟨_, .bool true, rfl, fun G => .bl _, .inr (.inl ⟨_, rfl⟩)⟩
      | 1, _ => exact ⟨_, .none, rfl, fun G => .non, .inr (.inr (.inl rfl))⟩
      | 2, _ => exact ⟨_, .str "1", rfl, fun G => .str _, .inr (.inr (.inr rfl))⟩
      | j + 3, z => exact absurd z (by (first | lia | omega))
    refine ⟨p2, _, k3, v2, rfl, (by show V.int (c / 9 % 10 ^ Int.toNat 40 % 3) = V.int k3; rw [← hfar, hk3]), SqL.of ep2, hv2, ?_⟩
    walk_at "w"
    walk_at "ss"
    intro p3 hp3
    generalize hUp3 : upd H2 p3 _ = H3
    have sH3 := Same.of_eq hp3 hUp3
    have ep3 := at_of_eq hUp3
    clear hUp3
    walk_at "w"
    walk_at "ss"
    have sA : Same H H3 := sH1.trans (sH2.trans sH3)
    obtain ⟨k9, hk9⟩ : ∃ k : Nat, c % 9 = k := ⟨(c % 9).toNat, (Int.toNat_of_nonneg h90).symm⟩
    obtain ⟨v3, d3, hv3, hd3, hl3⟩ : ∃ v3 d3, atI [V.int (n + 1), V.int i1, v2, V.int (max 0 (n - 1))] (k9 : Int) = some v3 ∧ (∀ G, Dv G v3 d3) ∧ LenData d3 := by
      rw [hk9] at h9
      match k9, h9 with
      | 0, _ => exact ⟨_, .int _, rfl, fun G => .int _, .inl ⟨_, rfl⟩⟩
      | 1, _ => exact ⟨_, .int _, rfl, fun G => .int _, .inl ⟨_, rfl⟩⟩
      | 2, _ => exact ⟨_, _, rfl, hd2, hl2⟩
      | 3, _ => exact ⟨_, .int _, rfl, fun G => .int _, .inl ⟨_, rfl⟩⟩
      | j + 4, z => exact absurd z (by (first | lia | omega))
    exact ⟨p3, _, k9, v3, rfl, (by show V.int (c % 9) = V.int k9; rw [hk9]), SqL.of ep3, hv3, q v3 d3 H3 sA (hd3 _) hl3⟩
/-! the changes -/
def GX (m : Nat) (H : Hp) (x : V) : Prop := ∃ d, Dv H x d ∧ GRow m d
theorem GX.same {m : Nat} {H H' : Hp} {x : V} (h : GX m H x) (s : Same H H') : GX m H' x := by
  obtain ⟨d, h1, h2⟩ := h; exact ⟨d, Dv.same s h1, h2⟩
theorem GX.mono {m n : Nat} {H : Hp} {x : V} (h : GX m H x) (l : m ≤ n) : GX n H x := by
  obtain ⟨d, h1, h2⟩ := h; exact ⟨d, h1, h2.mono l⟩
theorem cutV_mem {xs : List V} {lo hi : Option Int} {x : V} (h : x ∈ cutV xs lo hi) : x ∈ xs := by
  unfold cutV at h
  exact List.mem_of_mem_drop (List.mem_of_mem_take h)
theorem GX.all {m : Nat} {H : Hp} : ∀ {xs : List V}, (∀ x ∈ xs, GX m H x) → ∃ ds, Dvs H xs ds ∧ ∀ d ∈ ds, GRow m d
  | [], _ => ⟨[], .nil, fun _ z => by cases z⟩
  | x :: r, h => by
    obtain ⟨ds, h1, h2⟩ := GX.all (xs := r) fun y hy => h y (List.mem_cons_of_mem _ hy)
    obtain ⟨d, h3, h4⟩ := h x List.mem_cons_self
    exact ⟨d :: ds, .cons h3 h1, fun e he => by
      rcases List.mem_cons.mp he with z | z
      · rw [z]; exact h4
      · exact h2 e z⟩
inductive Sp_changed (vs : List V) (H : Hp) (Q : VK) : Prop
  | mk (l : Addr) (xs : List V) (draw : Int) (m : Nat) : (vs = [.ref l, .int draw]) → (H l = some (.lst xs)) → ((∀ x ∈ xs, GX m H x)) → (xs ≠ []) → (xs.length < 300) → (1 ≤ m) → (m ≤ 1000) → (∀ l' xs' H', Same H H' → H' l' = some (.lst xs') → (∀ x ∈ xs', GX (m + 1) H' x) → xs'.length ≤ 90300 → Q (.ref l') H') → Sp_changed  vs H Q
def sp_changed : Sp := fun vs H Q _ => Sp_changed  vs H Q
theorem ok_changed (T : Txt K mg a) : FnOk P w K mg base CX0 2 a.f_changed a.d_changed ["_law_rows_here", "_law_draw"] sp_changed := by
  refine T.F_changed.ok sc_changed (fun vs H Q E h => ?_) (fun cdv A outer s H vs Q E hr h => ?_)
  · obtain ⟨l, xs, draw, m, rfl, _⟩ := h; rfl
  · obtain ⟨l, xs, draw, m, rfl, hl, hx, hne, hlt, hm1, hm, q⟩ := h
    have nd := sc_changed.nd
    have hpos : 0 < xs.length := List.length_pos_iff.mpr hne
    refine ⟨_, (pss_cons (ps_set (i := 2) nd rfl (Or.inl rfl) (pe_op o_mod (pe_op o_fdiv (cv 1) pe_int) (pe_callB (lenqK (K := K) rfl) (by rfl) T.n_len bt_len (pa_cons (cv 0) pa_nil))))
    (pss_cons (cs_if (ct_cmp o_eqI (pe_op o_mod (cv 1) pe_int) pe_int) (pss_one (ps_ret (pe_op op_cat (pe_slice (sl_listK (K := K) rfl) (cv 0) po_none (po_some (cv 2))) (pe_slice (sl_listK (K := K) rfl) (cv 0) (po_some (pe_op o_add (cv 2) pe_int)) po_none)))) pss_nil)
    (pss_cons (cs_if (ct_cmp o_eqI (pe_op o_mod (cv 1) pe_int) pe_int) (pss_one (ps_ret (pe_op op_cat (cv 0) (pe_lst (pa_cons (pe_ix (ix_listK (K := K) rfl) (cv 0) (cv 2) (fun _ _ => rfl)) pa_nil))))) pss_nil)
    (pss_cons (cs_if (PW.pt (cw_and (ct_cmp o_eqI (pe_op o_mod (cv 1) pe_int) pe_int) (pw_and1 (ct_cmp o_eqI (pe_op o_mod (pe_op o_fdiv (cv 1) pe_int) pe_int) pe_int)))) (pss_one (ps_ret (pe_op op_rep (cv 0) pe_int))) pss_nil)
    (pss_cons (cs_if (ct_cmp o_lt (pe_op o_mod (cv 1) pe_int) pe_int) (pss_one (ps_ret (pe_op op_cat (pe_op op_cat (pe_slice (sl_listK (K := K) rfl) (cv 0) po_none (po_some (cv 2))) (pe_lst (pa_cons (pe_call (ok_other (P := P) (w := w) (K := K) (mg := mg) (base := base) T) (hr.mono (by decide)) (by rfl) T.m_other T.F_other.kp T.b_other .nil pass0 (pa_cons (pe_ix (ix_listK (K := K) rfl) (cv 0) (cv 2) (fun _ _ => rfl)) (pa_cons (pe_op o_fdiv (cv 1) pe_int) pa_nil))) pa_nil))) (pe_slice (sl_listK (K := K) rfl) (cv 0) (po_some (pe_op o_add (cv 2) pe_int)) po_none)))) pss_nil)
    (pss_cons (ps_set (i := 3) nd rfl (Or.inl rfl) (pe_op o_mod (pe_op o_fdiv (cv 1) pe_int) (pe_callB (lenqK (K := K) rfl) (by rfl) T.n_len bt_len (pa_cons (cv 0) pa_nil))))
    (pss_cons (ps_set (i := 4) nd rfl (Or.inl rfl) (pe_op op_cat (pe_slice (sl_listK (K := K) rfl) (cv 0) po_none (po_some (cv 2))) (pe_slice (sl_listK (K := K) rfl) (cv 0) (po_some (pe_op o_add (cv 2) pe_int)) po_none)))
    (pss_one (ps_ret (pe_op op_cat (pe_op op_cat (pe_slice (sl_listK (K := K) rfl) (cv 4) po_none (po_some (cv 3))) (pe_lst (pa_cons (pe_ix (ix_listK (K := K) rfl) (cv 0) (cv 2) (fun _ _ => rfl)) pa_nil))) (pe_slice (sl_listK (K := K) rfl) (cv 4) (po_some (cv 3)) po_none))))))))))), ?_⟩
    walk_at "w"
    walk_at "ss"
    refine ⟨l, _, rfl, .inl (SqL.of hl), ?_⟩
    walk_at "w"
    refine And.intro (by (first | lia | omega)) ?_
    walk_at "w"
    walk_at "ss"
    obtain ⟨at', hat⟩ : ∃ k : Nat, draw / 8 % (xs.length : Int) = k := ⟨(draw / 8 % (xs.length : Int)).toNat, (Int.toNat_of_nonneg (Int.emod_nonneg _ (by (first | lia | omega)))).symm⟩
    have hat2 : at' < xs.length := by
      have := Int.emod_lt_of_pos (draw / 8) (show (0 : Int) < xs.length by (first | lia | omega))
      (first | lia | omega)
    have hxa : xs[at']? = some xs[at'] := List.getElem?_eq_getElem hat2
    have hga := hx _ (List.mem_of_getElem? hxa)
    have hix : atI xs (at' : Int) = some xs[at'] := atI_nat hxa
    have hix : atI xs (draw / 8 % (xs.length : Int)) = some xs[at'] := by rw [hat]; exact hix
    have hcl := fun lo hi => cutV_length xs lo hi
    refine ⟨fun e0 => ?_, fun e0 => ?_⟩
    · walk_at "w"
      refine ⟨_, rfl, ?_⟩
      walk_at "w"
      refine ⟨l, _, rfl, SqL.of hl, ?_⟩
      intro p1 hp1
      generalize hUp1 : upd H p1 _ = H1
      have sH1 := Same.of_eq hp1 hUp1
      have ep1 := at_of_eq hUp1
      clear hUp1
      walk_at "w"
      refine ⟨_, rfl, ?_⟩
      walk_at "w"
      refine ⟨l, _, rfl, SqL.of (sH1.at hl), ?_⟩
      intro p2 hp2
      generalize hUp2 : upd H1 p2 _ = H2
      have sH2 := Same.of_eq hp2 hUp2
      have ep2 := at_of_eq hUp2
      clear hUp2
      walk_at "w"
      have z1 := cutV_length xs none (some (draw / 8 % (xs.length : Int)))
      have z2 := cutV_length xs (some (draw / 8 % (xs.length : Int) + 1)) none
      refine ⟨p1, p2, _, _, rfl, rfl, sH2.at ep1, ep2, (by rw [sizeLine_eq]; exact Nat.le_trans (Nat.add_le_add z1 z2) (by (first | lia | omega))), ?_⟩
      intro p3 hp3
      generalize hUp3 : upd H2 p3 _ = H3
      have sH3 := Same.of_eq hp3 hUp3
      have ep3 := at_of_eq hUp3
      clear hUp3
      walk_at "w"
      have sA : Same H H3 := sH1.trans (sH2.trans sH3)
      refine q _ _ _ sA ep3 (fun x hxm => ?_) (by rw [List.length_append]; exact Nat.le_trans (Nat.add_le_add z1 z2) (by (first | lia | omega)))
      refine ((hx x ?_).same sA).mono (Nat.le_succ _)
      rcases List.mem_append.mp hxm with z | z
      · exact cutV_mem z
      · exact cutV_mem z
    walk_at "w"
    walk_at "ss"
    refine ⟨fun e1 => ?_, fun e1 => ?_⟩
    · walk_at "w"
      refine ⟨l, _, _, xs[at'], rfl, rfl, SqL.of hl, hix, ?_⟩
      walk_at "w"
      walk_at "ss"
      intro p1 hp1
      generalize hUp1 : upd H p1 _ = H1
      have sH1 := Same.of_eq hp1 hUp1
      have ep1 := at_of_eq hUp1
      clear hUp1
      walk_at "w"
      refine ⟨l, p1, _, _, rfl, rfl, sH1.at hl, ep1, (by rw [sizeLine_eq]; show xs.length + 1 ≤ _; (first | lia | omega)), ?_⟩
      intro p3 hp3
      generalize hUp3 : upd H1 p3 _ = H2
      have sH2 := Same.of_eq hp3 hUp3
      have ep3 := at_of_eq hUp3
      clear hUp3
      walk_at "w"
      have sA : Same H H2 := sH1.trans sH2
      refine q _ _ _ sA ep3 (fun x hxm => ?_) (by rw [List.length_append]; show xs.length + 1 ≤ _; (first | lia | omega))
      refine ((hx x ?_).same sA).mono (Nat.le_succ _)
      rcases List.mem_append.mp hxm with z | z
      · exact z
      · rw [List.mem_singleton.mp z]; exact List.mem_of_getElem? hxa
    walk_at "w"
    walk_at "ss"
    have hrest : True := trivial
    refine ⟨fun e2 => ?_, fun e2 => ?_⟩
    · have e2' : draw % 8 = 2 := of_decide_eq_true e2
      walk_at "w"
      walk_at "ss"
      refine ⟨fun e3 => ?_, fun e3 => ?_⟩
      · walk_at "w"
        refine ⟨l, _, _, rfl, rfl, hl, by decide, by decide, (by rw [sizeLine_eq]; show xs.length * 301 ≤ _; (first | lia | omega)), ?_⟩
        intro p1 hp1
        generalize hUp1 : upd H p1 _ = H1
        have sH1 := Same.of_eq hp1 hUp1
        have ep1 := at_of_eq hUp1
        clear hUp1
        walk_at "w"
        have ez : (List.replicate (301 : Int).toNat xs).flatten.length = 301 * xs.length := len_rep xs 301
        refine q _ _ _ sH1 ep1 (fun x hxm => ?_) (by rw [ez]; (first | lia | omega))
        obtain ⟨ys, hy1, hy2⟩ := List.mem_flatten.mp hxm
        rw [(List.mem_replicate.mp hy1).2] at hy2
        exact ((hx x hy2).same sH1).mono (Nat.le_succ _)
      walk_at "w"
      walk_at "ss"
      refine ⟨fun e5 => ?_, fun e5 => absurd (of_decide_eq_false e5) (by (first | lia | omega))⟩
      walk_at "w"
      refine ⟨_, rfl, ?_⟩
      walk_at "w"
      refine ⟨l, _, rfl, SqL.of hl, ?_⟩
      intro p1 hp1
      generalize hUp1 : upd H p1 _ = H1
      have sH1 := Same.of_eq hp1 hUp1
      have ep1 := at_of_eq hUp1
      clear hUp1
      walk_at "w"
      refine ⟨l, _, _, xs[at'], rfl, rfl, SqL.of (sH1.at hl), hix, ?_⟩
      walk_at "w"
      walk_at "ss"
      obtain ⟨d, hd, hg⟩ := hga
      refine ⟨_, d, _, m, rfl, Dv.same sH1 hd, hg, hm1, hm, fun v' d' H2 s2 hd' hg' => ?_⟩
      walk_at "w"
      walk_at "ss"
      intro p2 hp2
      generalize hUp2 : upd H2 p2 _ = H3
      have sH3 := Same.of_eq hp2 hUp2
      have ep2 := at_of_eq hUp2
      clear hUp2
      walk_at "w"
      have z1 := cutV_length xs none (some (draw / 8 % (xs.length : Int)))
      have z2 := cutV_length xs (some (draw / 8 % (xs.length : Int) + 1)) none
      refine ⟨p1, p2, _, _, rfl, rfl, (s2.trans sH3).at ep1, ep2, (by rw [sizeLine_eq]; exact Nat.le_trans (Nat.add_le_add_right z1 1) (by (first | lia | omega))), ?_⟩
      intro p3 hp3
      generalize hUp3 : upd H3 p3 _ = H4
      have sH4 := Same.of_eq hp3 hUp3
      have ep3 := at_of_eq hUp3
      clear hUp3
      walk_at "w"
      have sB : Same H H4 := sH1.trans (s2.trans (sH3.trans sH4))
      refine ⟨_, rfl, ?_⟩
      walk_at "w"
      refine ⟨l, _, rfl, SqL.of (sB.at hl), ?_⟩
      intro p4 hp4
      generalize hUp4 : upd H4 p4 _ = H5
      have sH5 := Same.of_eq hp4 hUp4
      have ep4 := at_of_eq hUp4
      clear hUp4
      walk_at "w"
      refine ⟨p3, p4, _, _, rfl, rfl, sH5.at ep3, ep4, (by rw [sizeLine_eq, List.length_append]; exact Nat.le_trans (Nat.add_le_add (Nat.add_le_add_right z1 1) z2) (by (first | lia | omega))), ?_⟩
      intro p5 hp5
      generalize hUp5 : upd H5 p5 _ = H6
      have sH6 := Same.of_eq hp5 hUp5
      have ep5 := at_of_eq hUp5
      clear hUp5
      walk_at "w"
      have sA : Same H H6 := sB.trans (sH5.trans sH6)
      refine q _ _ _ sA ep5 (fun x hxm => ?_) (by rw [List.length_append, List.length_append]; exact Nat.le_trans (Nat.add_le_add (Nat.add_le_add_right z1 1) z2) (by (first | lia | omega)))
      rcases List.mem_append.mp hxm with z | z
      · rcases List.mem_append.mp z with z | z
        · exact ((hx x (cutV_mem z)).same sA).mono (Nat.le_succ _)
        · rw [List.mem_singleton.mp z]
          exact ⟨d', Dv.same (sH3.trans (sH4.trans (sH5.trans sH6))) hd', hg'⟩
      · exact ((hx x (cutV_mem z)).same sA).mono (Nat.le_succ _)
    walk_at "w"
    walk_at "ss"
    refine ⟨by walk_at "no", fun _ => ?_⟩
    walk_at "w"
    walk_at "ss"
    refine ⟨fun e5 => ?_, fun e5 => ?_⟩
    · skip
      walk_at "w"
      refine ⟨_, rfl, ?_⟩
      walk_at "w"
      refine ⟨l, _, rfl, SqL.of hl, ?_⟩
      intro p1 hp1
      generalize hUp1 : upd H p1 _ = H1
      have sH1 := Same.of_eq hp1 hUp1
      have ep1 := at_of_eq hUp1
      clear hUp1
      walk_at "w"
      refine ⟨l, _, _, xs[at'], rfl, rfl, SqL.of (sH1.at hl), hix, ?_⟩
      walk_at "w"
      walk_at "ss"
      obtain ⟨d, hd, hg⟩ := hga
      refine ⟨_, d, _, m, rfl, Dv.same sH1 hd, hg, hm1, hm, fun v' d' H2 s2 hd' hg' => ?_⟩
      walk_at "w"
      walk_at "ss"
      intro p2 hp2
      generalize hUp2 : upd H2 p2 _ = H3
      have sH3 := Same.of_eq hp2 hUp2
      have ep2 := at_of_eq hUp2
      clear hUp2
      walk_at "w"
      have z1 := cutV_length xs none (some (draw / 8 % (xs.length : Int)))
      have z2 := cutV_length xs (some (draw / 8 % (xs.length : Int) + 1)) none
      refine ⟨p1, p2, _, _, rfl, rfl, (s2.trans sH3).at ep1, ep2, (by rw [sizeLine_eq]; exact Nat.le_trans (Nat.add_le_add_right z1 1) (by (first | lia | omega))), ?_⟩
      intro p3 hp3
      generalize hUp3 : upd H3 p3 _ = H4
      have sH4 := Same.of_eq hp3 hUp3
      have ep3 := at_of_eq hUp3
      clear hUp3
      walk_at "w"
      have sB : Same H H4 := sH1.trans (s2.trans (sH3.trans sH4))
      refine ⟨_, rfl, ?_⟩
      walk_at "w"
      refine ⟨l, _, rfl, SqL.of (sB.at hl), ?_⟩
      intro p4 hp4
      generalize hUp4 : upd H4 p4 _ = H5
      have sH5 := Same.of_eq hp4 hUp4
      have ep4 := at_of_eq hUp4
      clear hUp4
      walk_at "w"
      refine ⟨p3, p4, _, _, rfl, rfl, sH5.at ep3, ep4, (by rw [sizeLine_eq, List.length_append]; exact Nat.le_trans (Nat.add_le_add (Nat.add_le_add_right z1 1) z2) (by (first | lia | omega))), ?_⟩
      intro p5 hp5
      generalize hUp5 : upd H5 p5 _ = H6
      have sH6 := Same.of_eq hp5 hUp5
      have ep5 := at_of_eq hUp5
      clear hUp5
      walk_at "w"
      have sA : Same H H6 := sB.trans (sH5.trans sH6)
      refine q _ _ _ sA ep5 (fun x hxm => ?_) (by rw [List.length_append, List.length_append]; exact Nat.le_trans (Nat.add_le_add (Nat.add_le_add_right z1 1) z2) (by (first | lia | omega)))
      rcases List.mem_append.mp hxm with z | z
      · rcases List.mem_append.mp z with z | z
        · exact ((hx x (cutV_mem z)).same sA).mono (Nat.le_succ _)
        · rw [List.mem_singleton.mp z]
          exact ⟨d', Dv.same (sH3.trans (sH4.trans (sH5.trans sH6))) hd', hg'⟩
      · exact ((hx x (cutV_mem z)).same sA).mono (Nat.le_succ _)
    walk_at "w"
    walk_at "ss"
    refine ⟨l, _, rfl, .inl (SqL.of hl), ?_⟩
    walk_at "w"
    refine And.intro (by (first | lia | omega)) ?_
    walk_at "w"
    refine ⟨_, rfl, ?_⟩
    walk_at "w"
    refine ⟨l, _, rfl, SqL.of hl, ?_⟩
    intro p1 hp1
    generalize hUp1 : upd H p1 _ = H1
    have sH1 := Same.of_eq hp1 hUp1
    have ep1 := at_of_eq hUp1
    clear hUp1
    walk_at "w"
    refine ⟨_, rfl, ?_⟩
    walk_at "w"
    refine ⟨l, _, rfl, SqL.of (sH1.at hl), ?_⟩
    intro p2 hp2
    generalize hUp2 : upd H1 p2 _ = H2
    have sH2 := Same.of_eq hp2 hUp2
    have ep2 := at_of_eq hUp2
    clear hUp2
    walk_at "w"
    have z1 := cutV_length xs none (some (draw / 8 % (xs.length : Int)))
    have z2 := cutV_length xs (some (draw / 8 % (xs.length : Int) + 1)) none
    refine ⟨p1, p2, _, _, rfl, rfl, sH2.at ep1, ep2, (by rw [sizeLine_eq]; exact Nat.le_trans (Nat.add_le_add z1 z2) (by (first | lia | omega))), ?_⟩
    intro p3 hp3
    generalize hUp3 : upd H2 p3 _ = H3
    have sH3 := Same.of_eq hp3 hUp3
    have ep3 := at_of_eq hUp3
    clear hUp3
    walk_at "w"
    obtain ⟨rest, hrest⟩ : ∃ rest, rest = cutV xs none (some (draw / 8 % (xs.length : Int))) ++ cutV xs (some (draw / 8 % (xs.length : Int) + 1)) none := ⟨_, rfl⟩
    have ep3 : H3 p3 = some (.lst rest) := by rw [hrest]; exact ep3
    have hrl : rest.length ≤ 600 := by rw [hrest, List.length_append]; (first | lia | omega)
    have hrm : ∀ x ∈ rest, x ∈ xs := fun x hxm => by
      rw [hrest] at hxm
      rcases List.mem_append.mp hxm with z | z
      · exact cutV_mem z
      · exact cutV_mem z
    have sB : Same H H3 := sH1.trans (sH2.trans sH3)
    refine ⟨_, rfl, ?_⟩
    walk_at "w"
    refine ⟨p3, _, rfl, SqL.of ep3, ?_⟩
    intro p4 hp4
    generalize hUp4 : upd H3 p4 _ = H4
    have sH4 := Same.of_eq hp4 hUp4
    have ep4 := at_of_eq hUp4
    clear hUp4
    walk_at "w"
    refine ⟨l, _, _, xs[at'], rfl, rfl, SqL.of ((sB.trans sH4).at hl), hix, ?_⟩
    walk_at "w"
    walk_at "ss"
    intro p5 hp5
    generalize hUp5 : upd H4 p5 _ = H5
    have sH5 := Same.of_eq hp5 hUp5
    have ep5 := at_of_eq hUp5
    clear hUp5
    walk_at "w"
    have y1 := cutV_length rest none (some (draw / 64 % (xs.length : Int)))
    have y2 := cutV_length rest (some (draw / 64 % (xs.length : Int))) none
    refine ⟨p4, p5, _, _, rfl, rfl, sH5.at ep4, ep5, (by rw [sizeLine_eq]; exact Nat.le_trans (Nat.add_le_add_right y1 1) (by (first | lia | omega))), ?_⟩
    intro p6 hp6
    generalize hUp6 : upd H5 p6 _ = H6
    have sH6 := Same.of_eq hp6 hUp6
    have ep6 := at_of_eq hUp6
    clear hUp6
    walk_at "w"
    refine ⟨_, rfl, ?_⟩
    walk_at "w"
    refine ⟨p3, _, rfl, SqL.of ((sH4.trans (sH5.trans sH6)).at ep3), ?_⟩
    intro p7 hp7
    generalize hUp7 : upd H6 p7 _ = H7
    have sH7 := Same.of_eq hp7 hUp7
    have ep7 := at_of_eq hUp7
    clear hUp7
    walk_at "w"
    refine ⟨p6, p7, _, _, rfl, rfl, sH7.at ep6, ep7, (by rw [sizeLine_eq, List.length_append]; exact Nat.le_trans (Nat.add_le_add (Nat.add_le_add_right y1 1) y2) (by (first | lia | omega))), ?_⟩
    intro p8 hp8
    generalize hUp8 : upd H7 p8 _ = H8
    have sH8 := Same.of_eq hp8 hUp8
    have ep8 := at_of_eq hUp8
    clear hUp8
    walk_at "w"
    have sA : Same H H8 := sB.trans (sH4.trans (sH5.trans (sH6.trans (sH7.trans sH8))))
    refine q _ _ _ sA ep8 (fun x hxm => ?_) (by rw [List.length_append, List.length_append]; exact Nat.le_trans (Nat.add_le_add (Nat.add_le_add_right y1 1) y2) (by (first | lia | omega)))
    refine ((hx x ?_).same sA).mono (Nat.le_succ _)
    rcases List.mem_append.mp hxm with z | z
    · rcases List.mem_append.mp z with z | z
      · exact hrm x (cutV_mem z)
      · rw [List.mem_singleton.mp z]; exact List.mem_of_getElem? hxa
    · exact hrm x (cutV_mem z)
theorem ok_cell_at (T : Txt K mg a) : FnOk P w K mg base CX0 1 a.f_cell_at a.d_cell_at ["_law_script", "_law_k"] (sp_cell_at K) := by
  refine T.F_cell_at.ok sc_cell_at (fun vs H Q E h => ?_) (fun cdv A outer s H vs Q E hr h => ?_)
  · obtain ⟨l, ns, k, rfl, _⟩ := h; rfl
  · obtain ⟨l, ns, k, rfl, hl, hk, q⟩ := h
    have nd := sc_cell_at.nd
    refine ⟨_, (pss_cons (cs_if (ct_cmp o_lt (cv 1) (pe_callB (lenqK (K := K) rfl) (by rfl) T.n_len bt_len (pa_cons (cv 0) pa_nil))) (pss_one (ps_ret (pe_ix (ix_listK (K := K) rfl) (cv 0) (cv 1) (fun _ _ => rfl)))) pss_nil)
    (pss_one (ps_ret pe_int))), ?_⟩
    walk_at "w"
    refine ⟨l, _, rfl, .inl hl, ?_⟩
    walk_at "w"
    refine ⟨fun e => ?_, fun e => ?_⟩
    · have e' := of_decide_eq_true e
      rw [List.length_map] at e'
      walk_at "w"
      refine ⟨l, _, k, .int (ns.getD k.toNat 0), rfl, rfl, hl, ?_, ?_⟩
      · have hk' : k.toNat < ns.length := by (first | lia | omega)
        have := atI_nat (xs := ns.map V.int) (j := k.toNat) (v := .int (ns.getD k.toNat 0)) (by simp [hk'])
        rwa [Int.toNat_of_nonneg hk] at this
      · walk_at "w"
        rw [cellAt, if_pos e'] at q
        exact q
    · have e' := of_decide_eq_false e
      rw [List.length_map] at e'
      rw [cellAt, if_neg e'] at q
      exact q
theorem mod_bounds (x : Int) : 0 ≤ x % 2147483647 ∧ x % 2147483647 < 2147483647 := ⟨Int.emod_nonneg _ (by decide), Int.emod_lt_of_pos _ (by decide)⟩
theorem ok_mixed (T : Txt K mg a) : FnOk P w K mg base CX0 1 a.f_mixed a.d_mixed ["_law_cell", "_law_k"] sp_mixed := by
  refine T.F_mixed.ok sc_mixed (fun vs H Q E h => ?_) (fun cdv A outer s H vs Q E hr h => ?_)
  · obtain ⟨c, k, rfl, _⟩ := h; rfl
  · obtain ⟨c, k, rfl, q⟩ := h
    have nd := sc_mixed.nd
    refine ⟨_, (pss_cons (ps_set (i := 2) nd rfl (Or.inl rfl) (pe_op o_mod (pe_op o_mul (pe_op o_add (pe_op o_add (pe_op o_mod (cv 0) pe_int) (pe_op o_mul pe_int (cv 1))) pe_int) pe_int) pe_int))
    (pss_one (ps_ret (pe_op o_mod (pe_op o_mul (cv 2) (pe_op o_add (pe_op o_fdiv (cv 2) pe_int) pe_int)) pe_int)))), ?_⟩
    have b := mod_bounds ((c % 2147483647 + 7919 * k + 1) * 48271)
    walk_at "w"
    refine ⟨by walk_at "pos", ?_⟩
    walk_at "w"
    refine ⟨.inl ⟨by decide, by decide⟩, ?_⟩
    walk_at "w"
    refine ⟨.inr ⟨by decide, by decide⟩, ?_⟩
    walk_at "w"
    refine ⟨by walk_at "pos", ?_⟩
    walk_at "w"
    refine ⟨⟨by decide, by decide⟩, ?_⟩
    walk_at "w"
    refine ⟨.inl ⟨by (first | lia | omega), by (first | lia | omega)⟩, ?_⟩
    walk_at "w"
    refine ⟨by walk_at "pos", ?_⟩
    exact q
theorem TupAt.off {K : PySem.W.Frag} {H : Hp} {t p : Addr} {r : RowD} {xs : List V} {o : HO} (h : TupAt K H t r) (hp : H p = some (.lst xs)) : TupAt K (upd H p o) t r := by
  have ne : ∀ {q : Addr} {ys : List V}, H q = some (.tup ys) → upd H p o q = some (.tup ys) := fun {q ys} e => by
    rw [upd_ne (fun z => by rw [z, hp] at e; cases e)]; exact e
  cases r with
  | take to st c => exact ne h
  | put to sg => obtain ⟨u, h1, h2⟩ := h; exact ⟨u, ne h1, ne h2⟩
def sp_rows41 : Sp := fun vs H Q _ => ∃ old new cell : Int, vs = [.int old, .int new, .int cell] ∧ 0 ≤ old ∧ 0 ≤ new ∧ new ≤ 300 ∧
  ∀ l xs H', Same H H' → H' l = some (.lst xs) → (∀ x ∈ xs, GX 4 H' x) → xs.length ≤ 300 → Q (.ref l) H'
theorem ok_rows (T : Txt K mg a) : FnOk P w K mg base CX0 2 a.f_rows a.d_rows ["_law_old", "_law_new", "_law_cell"] sp_rows41 := by
  refine T.F_rows.ok sc_rows (fun vs H Q E h => ?_) (fun cdv A outer s H vs Q E hr h => ?_)
  · obtain ⟨old, new, cell, rfl, _⟩ := h; rfl
  · obtain ⟨old, new, cell, rfl, ho, hn, hn3, q⟩ := h
    have nd := sc_rows.nd
    refine ⟨_, (pss_cons (ps_set (i := 3) nd rfl (Or.inl rfl) (pe_lst pa_nil))
    (pss_cons (ps_set (i := 4) nd rfl (Or.inl rfl) pe_int)
    (pss_cons (cs_while PassesOwn.never (ct_cmp o_lt (cv 4) (cv 1)) (pss_cons (ps_set (i := 5) nd rfl (Or.inr rfl) (pe_call (ok_mixed (P := P) (w := w) (K := K) (mg := mg) (base := base) T) (hr.mono (by decide)) (by rfl) T.m_mixed T.F_mixed.kp T.b_mixed .nil pass0 (pa_cons (cv 2) (pa_cons (cv 4) pa_nil))))
    (pss_cons (cs_cut (cs_if (PW.pt (cw_or (ct_cmp o_eqI (pe_op o_mod (cv 5) pe_int) pe_int) (pw_or1 (ct_cmp o_eqI (cv 0) pe_int)))) (pss_cons (ps_set (i := 6) nd rfl (Or.inl rfl) (pe_callB (c_min2 rfl) (by rfl) T.n_min bt_min (pa_cons (pe_op o_sub (cv 1) (cv 4)) (pa_cons (pe_op o_add pe_int (pe_op o_mod (pe_op o_fdiv (cv 5) pe_int) pe_int)) pa_nil))))
    (pss_one (ps_expr (pe_bm PySem.F.plainAttrs_list PySem.F.slot_list_append PySem.F.type_list_append mt_append (cv 3) (pa_cons (pe_tup (pa_cons pe_str (pa_cons (cv 4) (pa_cons (pe_callTy (tuple_ofK (K := K) rfl) (by rfl) T.n_tuple bt_tuple (pa_cons (pe_comp (blk_mk (cap := [5]) (ys := ["_law_draw"]) rfl rfl rfl rfl rfl ⟨⟨rfl, rfl, .inl rfl⟩, trivial⟩ (by decide +kernel)) rfl (ci_range1 (by rfl) T.n_range (pa_cons (cv 6) pa_nil)) (fun _ _ _ _ => (pe_op o_mul (pe_op o_mod (cv 1) pe_int) (pe_op o_sub (cv 0) pe_int))) (fun _ _ _ _ => cts_nil)) pa_nil)) pa_nil)))) pa_nil))))) (pss_cons (ps_set (i := 6) nd rfl (Or.inl rfl) (pe_callB (c_min3 rfl) (by rfl) T.n_min bt_min (pa_cons (pe_op o_sub (cv 1) (cv 4)) (pa_cons (cv 0) (pa_cons (pe_op o_add pe_int (pe_op o_mod (pe_op o_fdiv (cv 5) pe_int) pe_int)) pa_nil)))))
    (pss_cons (ps_set (i := 7) nd rfl (Or.inl rfl) (pe_ix (ix_listK (K := K) rfl) (pe_lst (pa_cons (pe_op o_mod (pe_op o_fdiv (cv 5) pe_int) (pe_op o_add (pe_op o_sub (cv 0) (cv 6)) pe_int)) (pa_cons (pe_callB (c_min2 rfl) (by rfl) T.n_min bt_min (pa_cons (cv 4) (pa_cons (pe_op o_sub (cv 0) (cv 6)) pa_nil))) pa_nil))) (pe_op o_fdiv (pe_op o_mod (pe_op o_fdiv (cv 5) pe_int) pe_int) pe_int) (fun _ _ => rfl)))
    (pss_one (ps_expr (pe_bm PySem.F.plainAttrs_list PySem.F.slot_list_append PySem.F.type_list_append mt_append (cv 3) (pa_cons (pe_tup (pa_cons pe_str (pa_cons (cv 4) (pa_cons (cv 7) (pa_cons (cv 6) pa_nil))))) pa_nil))))))))
    (pss_one (ps_set (i := 4) nd rfl (Or.inl rfl) (pe_op o_add (cv 4) (cv 6)))))))
    (pss_cons (ps_set (i := 8) nd rfl (Or.inl rfl) (pe_lst pa_nil))
    (pss_cons (cs_for PassesOwn.never rfl (ci_range1 (by rfl) T.n_range (pa_cons (pe_callB (lenqK (K := K) rfl) (by rfl) T.n_len bt_len (pa_cons (cv 3) pa_nil)) pa_nil)) (pg_name (i := 9) nd rfl (Or.inl rfl)) (pss_one (ps_expr (pe_bm PySem.F.plainAttrs_list PySem.F.slot_list_insert PySem.F.type_list_insert mt_insertN (cv 8) (pa_cons (pe_op o_mod (pe_call (ok_mixed (P := P) (w := w) (K := K) (mg := mg) (base := base) T) (hr.mono (by decide)) (by rfl) T.m_mixed T.F_mixed.kp T.b_mixed .nil pass0 (pa_cons (cv 2) (pa_cons (pe_op o_add pe_int (cv 9)) pa_nil))) (pe_op o_add (cv 9) pe_int)) (pa_cons (pe_ix (ix_listK (K := K) rfl) (cv 3) (cv 9) (fun _ _ => rfl)) pa_nil))))))
    (pss_one (ps_ret (cv 8)))))))), ?_⟩
    walk_at "w"
    walk_at "ss"
    intro rl hrl
    generalize hUrl : upd H rl _ = H1
    have sH1 := Same.of_eq hrl hUrl
    have erl := at_of_eq hUrl
    clear hUrl
    walk_at "w"
    refine whileAt_inv (m := new.toNat) (fun m σ G => Same H G ∧ ∃ (at' : Int) (ts : List Addr) (rs : List RowD) (x5 x6 x7 x8 x9 : Option V), m = (new - at').toNat ∧ σ = [some (.int old), some (.int new), some (.int cell), some (.ref rl), some (.int at'), x5, x6, x7, x8, x9] ∧ G rl = some (.lst (ts.map V.ref)) ∧ Paired (TupAt K G) ts rs ∧ (∀ r ∈ rs, GRow 4 r.dat) ∧ 0 ≤ at' ∧ at' ≤ new ∧ (ts.length : Int) ≤ at')
      ⟨sH1, 0, [], [], _, _, _, _, _, by (first | lia | omega), rfl, erl, .nil, (fun _ z => by cases z), by (first | lia | omega), hn, by simp⟩ (fun m σ G hP => ?_)
    obtain ⟨sG, at', ts, rs, x5, x6, x7, x8, x9, rfl, rfl, erl', hts, hrs, ha0, han, htl⟩ := hP
    have hrl0 := hts.length
    walk_at "w"
    refine ⟨fun e1 => ?_, fun e1 => ?_⟩
    · have h1 : at' < new := of_decide_eq_true e1
      refine ⟨fun σ' G' => ∃ m', m' < (new - at').toNat ∧ Same H G' ∧ ∃ (at' : Int) (ts : List Addr) (rs : List RowD) (x5 x6 x7 x8 x9 : Option V), m' = (new - at').toNat ∧ σ' = [some (.int old), some (.int new), some (.int cell), some (.ref rl), some (.int at'), x5, x6, x7, x8, x9] ∧ G' rl = some (.lst (ts.map V.ref)) ∧ Paired (TupAt K G') ts rs ∧ (∀ r ∈ rs, GRow 4 r.dat) ∧ 0 ≤ at' ∧ at' ≤ new ∧ (ts.length : Int) ≤ at', fun σ' G' z => z, ?_⟩
      walk_at "w"
      refine ⟨_, _, rfl, ?_⟩
      walk_at "w"
      generalize hdraw : mixed cell at' = draw
      clear hdraw
      refine ⟨fun σ' G' => Same H G' ∧ ∃ (t : Addr) (r : RowD) (n : Int) (x7 : Option V), σ' = [some (.int old), some (.int new), some (.int cell), some (.ref rl), some (.int at'), some (.int draw), some (.int n), x7, x8, x9] ∧ G' rl = some (.lst ((ts ++ [t]).map V.ref)) ∧ Paired (TupAt K G') (ts ++ [t]) (rs ++ [r]) ∧ GRow 4 r.dat ∧ 1 ≤ n ∧ at' + n ≤ new, ?_, ?_⟩
      · walk_at "w"
        walk_at "ss"
        refine ⟨fun e1 => ?_, fun e1 => ?_⟩
        · refine ⟨fun _ => ?_, by walk_at "no"⟩
          walk_at "w"
          walk_at "ss"
          have b1 : (0 : Int) ≤ draw / 3 % 4 ∧ draw / 3 % 4 < 4 := ⟨Int.emod_nonneg _ (by decide), Int.emod_lt_of_pos _ (by decide)⟩
          obtain ⟨n, hn'⟩ : ∃ n : Nat, min (new - at') (1 + draw / 3 % 4) = (n : Int) := ⟨(min (new - at') (1 + draw / 3 % 4)).toNat, by (first | lia | omega)⟩
          have bn : 1 ≤ n ∧ n ≤ 4 ∧ at' + n ≤ new := by (first | lia | omega)
          have er : rngN 0 (min (new - at') (1 + draw / 3 % 4)) 1 = n := by rw [rngN_one]; (first | lia | omega)
          refine ⟨.inl ⟨rfl, _, SqL.of erl'⟩, ?_⟩
          walk_at "w"
          walk_at "ss"
          rw [er]
          refine comp_itsP (fun i acc _ => ∃ sg : List Int, acc = sg.map V.int ∧ sg.length = i ∧ ∀ x ∈ sg, (x.natAbs : Int) < 10 ^ 60) (by rw [sizeLine_eq]; (first | lia | omega)) ⟨[], rfl, rfl, by simp⟩ (fun i acc H3 H3' hi s3 s3' hP R hR => ?_) (fun D acc H3 H3' hD hD3 s3 s3' hP hl hv => ?_)
          · obtain ⟨sg, rfl, hsl, hss⟩ := hP
            have c1 : (0 : Int) ≤ draw % 97 ∧ draw % 97 < 97 := ⟨Int.emod_nonneg _ (by decide), Int.emod_lt_of_pos _ (by decide)⟩
            walk_at "w"
            walk_at "ss"
            refine hR _ _ (Same.refl _) fun H6 _ _ => ⟨sg ++ [draw % 97 * (0 + i * 1 - 1)], by simp, by simp [hsl], fun x hx => ?_⟩
            rcases List.mem_append.mp hx with z | z
            · exact hss x z
            · rw [List.mem_singleton.mp z]
              refine small_sign ?_
              rw [Int.natAbs_mul]
              have z1 : (draw % 97).natAbs ≤ 97 := by (first | lia | omega)
              have z2 : (0 + (i : Int) * 1 - 1).natAbs ≤ 4 := by (first | lia | omega)
              exact Nat.le_trans (Nat.mul_le_mul z1 z2) (by decide)
          · obtain ⟨sg, rfl, hsl, hss⟩ := hP
            have sB : Same G H3' := s3.trans s3'
            walk_at "w"
            refine ⟨D, _, rfl, .inl ⟨SqL.of hv, ?_⟩⟩
            intro u hu
            generalize hUu : upd H3' u _ = H4
            have sH4 := Same.of_eq hu hUu
            have eu := at_of_eq hUu
            clear hUu
            walk_at "w"
            walk_at "ss"
            intro t ht
            generalize hUt : upd H4 t _ = H5
            have sH5 := Same.of_eq ht hUt
            have et := at_of_eq hUt
            clear hUt
            walk_at "w"
            have sC : Same G H5 := sB.trans (sH4.trans sH5)
            refine ⟨rl, _, _, rfl, rfl, sC.at erl', by rw [List.length_map, sizeLine_eq]; (first | lia | omega), ?_⟩
            have hrl5 := sC.at erl'
            have hT : TupAt K H5 t (.put at' sg) := ⟨u, et, sH5.at eu⟩
            generalize hU : upd H5 rl _ = H6
            refine ⟨Same.wr (sG.trans sC) hrl hU, t, .put at' sg, n, _, by rw [← hn']; rfl, ?_, ?_, ?_, by (first | lia | omega), by (first | lia | omega)⟩
            · rw [← hU, upd_same, List.map_append]; rfl
            · refine paired_snoc (L2.Paired.imp' (fun _ _ (z : TupAt K G _ _) => ?_) hts) ?_
              · rw [← hU]; exact (z.same sC).off hrl5
              · rw [← hU]; exact hT.off hrl5
            · exact .inr (.inl ⟨at', sg, rfl, by (first | lia | omega), hss, by (first | lia | omega)⟩)
        walk_at "w"
        refine ⟨fun e2 => ?_, fun e2 => ?_⟩
        · skip
          walk_at "w"
          walk_at "ss"
          have b1 : (0 : Int) ≤ draw / 3 % 4 ∧ draw / 3 % 4 < 4 := ⟨Int.emod_nonneg _ (by decide), Int.emod_lt_of_pos _ (by decide)⟩
          obtain ⟨n, hn'⟩ : ∃ n : Nat, min (new - at') (1 + draw / 3 % 4) = (n : Int) := ⟨(min (new - at') (1 + draw / 3 % 4)).toNat, by (first | lia | omega)⟩
          have bn : 1 ≤ n ∧ n ≤ 4 ∧ at' + n ≤ new := by (first | lia | omega)
          have er : rngN 0 (min (new - at') (1 + draw / 3 % 4)) 1 = n := by rw [rngN_one]; (first | lia | omega)
          refine ⟨.inl ⟨rfl, _, SqL.of erl'⟩, ?_⟩
          walk_at "w"
          walk_at "ss"
          rw [er]
          refine comp_itsP (fun i acc _ => ∃ sg : List Int, acc = sg.map V.int ∧ sg.length = i ∧ ∀ x ∈ sg, (x.natAbs : Int) < 10 ^ 60) (by rw [sizeLine_eq]; (first | lia | omega)) ⟨[], rfl, rfl, by simp⟩ (fun i acc H3 H3' hi s3 s3' hP R hR => ?_) (fun D acc H3 H3' hD hD3 s3 s3' hP hl hv => ?_)
          · obtain ⟨sg, rfl, hsl, hss⟩ := hP
            have c1 : (0 : Int) ≤ draw % 97 ∧ draw % 97 < 97 := ⟨Int.emod_nonneg _ (by decide), Int.emod_lt_of_pos _ (by decide)⟩
            walk_at "w"
            walk_at "ss"
            refine hR _ _ (Same.refl _) fun H6 _ _ => ⟨sg ++ [draw % 97 * (0 + i * 1 - 1)], by simp, by simp [hsl], fun x hx => ?_⟩
            rcases List.mem_append.mp hx with z | z
            · exact hss x z
            · rw [List.mem_singleton.mp z]
              refine small_sign ?_
              rw [Int.natAbs_mul]
              have z1 : (draw % 97).natAbs ≤ 97 := by (first | lia | omega)
              have z2 : (0 + (i : Int) * 1 - 1).natAbs ≤ 4 := by (first | lia | omega)
              exact Nat.le_trans (Nat.mul_le_mul z1 z2) (by decide)
          · obtain ⟨sg, rfl, hsl, hss⟩ := hP
            have sB : Same G H3' := s3.trans s3'
            walk_at "w"
            refine ⟨D, _, rfl, .inl ⟨SqL.of hv, ?_⟩⟩
            intro u hu
            generalize hUu : upd H3' u _ = H4
            have sH4 := Same.of_eq hu hUu
            have eu := at_of_eq hUu
            clear hUu
            walk_at "w"
            walk_at "ss"
            intro t ht
            generalize hUt : upd H4 t _ = H5
            have sH5 := Same.of_eq ht hUt
            have et := at_of_eq hUt
            clear hUt
            walk_at "w"
            have sC : Same G H5 := sB.trans (sH4.trans sH5)
            refine ⟨rl, _, _, rfl, rfl, sC.at erl', by rw [List.length_map, sizeLine_eq]; (first | lia | omega), ?_⟩
            have hrl5 := sC.at erl'
            have hT : TupAt K H5 t (.put at' sg) := ⟨u, et, sH5.at eu⟩
            generalize hU : upd H5 rl _ = H6
            refine ⟨Same.wr (sG.trans sC) hrl hU, t, .put at' sg, n, _, by rw [← hn']; rfl, ?_, ?_, ?_, by (first | lia | omega), by (first | lia | omega)⟩
            · rw [← hU, upd_same, List.map_append]; rfl
            · refine paired_snoc (L2.Paired.imp' (fun _ _ (z : TupAt K G _ _) => ?_) hts) ?_
              · rw [← hU]; exact (z.same sC).off hrl5
              · rw [← hU]; exact hT.off hrl5
            · exact .inr (.inl ⟨at', sg, rfl, by (first | lia | omega), hss, by (first | lia | omega)⟩)
        have ho1 : 1 ≤ old := by have := of_decide_eq_false e2; (first | lia | omega)
        walk_at "w"
        walk_at "ss"
        refine ⟨_, _, _, rfl, ?_⟩
        walk_at "w"
        walk_at "ss"
        intro p1 hp1
        generalize hUp1 : upd G p1 _ = G1
        have sG1 := Same.of_eq hp1 hUp1
        have ep1 := at_of_eq hUp1
        clear hUp1
        walk_at "w"
        walk_at "ss"
        have b1 : (0 : Int) ≤ draw / 3 % 12 ∧ draw / 3 % 12 < 12 := ⟨Int.emod_nonneg _ (by decide), Int.emod_lt_of_pos _ (by decide)⟩
        obtain ⟨n, hn'⟩ : ∃ n : Int, n = min (new - at') (min old (1 + draw / 3 % 12)) := ⟨_, rfl⟩
        have bn : 1 ≤ n ∧ n ≤ old ∧ at' + n ≤ new := by (first | lia | omega)
        have ep1 : G1 p1 = some (.lst [.int (draw / 64 % (old - n + 1)), .int (min at' (old - n))]) := by rw [hn']; exact ep1
        have c1 := Int.emod_nonneg (draw / 64) (show old - n + 1 ≠ 0 by (first | lia | omega))
        have c9 : (0 : Int) ≤ draw / 9 % 4 / 3 ∧ draw / 9 % 4 / 3 < 2 := by (first | lia | omega)
        obtain ⟨k2, hk2⟩ : ∃ k : Nat, draw / 9 % 4 / 3 = k := ⟨(draw / 9 % 4 / 3).toNat, by (first | lia | omega)⟩
        obtain ⟨st, hst, hst0⟩ : ∃ st : Int, atI [V.int (draw / 64 % (old - n + 1)), V.int (min at' (old - n))] (k2 : Int) = some (.int st) ∧ 0 ≤ st := by
          rw [hk2] at c9
          match k2, c9 with
          | 0, _ => exact ⟨_, rfl, c1⟩
          | 1, _ => exact ⟨_, rfl, by (first | lia | omega)⟩
          | j + 2, z => exact absurd z.2 (by (first | lia | omega))
        refine ⟨p1, _, k2, .int st, rfl, (by show V.int (draw / 9 % 4 / 3) = V.int k2; rw [hk2]), SqL.of ep1, hst, ?_⟩
        walk_at "w"
        refine ⟨.inl ⟨rfl, _, SqL.of (sG1.at erl')⟩, ?_⟩
        walk_at "w"
        walk_at "ss"
        intro t ht
        generalize hUt : upd G1 t _ = G2
        have sG2 := Same.of_eq ht hUt
        have et := at_of_eq hUt
        clear hUt
        walk_at "w"
        have sC : Same G G2 := sG1.trans sG2
        have et : G2 t = some (.tup [.str "take", .int at', .int st, .int n]) := by rw [hn']; exact et
        refine ⟨rl, _, _, rfl, rfl, sC.at erl', by rw [List.length_map, sizeLine_eq]; (first | lia | omega), ?_⟩
        have hrl5 := sC.at erl'
        have hT : TupAt K G2 t (.take at' st n) := et
        generalize hU : upd G2 rl _ = H6
        refine ⟨Same.wr (sG.trans sC) hrl hU, t, .take at' st n, n, _, by rw [hn']; rfl, ?_, ?_, ?_, by (first | lia | omega), by (first | lia | omega)⟩
        · rw [← hU, upd_same, List.map_append]; rfl
        · refine paired_snoc (L2.Paired.imp' (fun _ _ (z : TupAt K G _ _) => ?_) hts) ?_
          · rw [← hU]; exact (z.same sC).off hrl5
          · rw [← hU]; exact hT.off hrl5
        · exact .inl ⟨at', st, n, rfl, by (first | lia | omega), hst0, by (first | lia | omega)⟩
      rintro σ' G' ⟨sG', t, r, n, x7', rfl, erl2, hts2, hgr, hn1, hn2⟩
      walk_at "w"
      refine ⟨(new - (at' + n)).toNat, by (first | lia | omega), sG', at' + n, ts ++ [t], rs ++ [r], _, _, _, _, _, rfl, rfl, erl2, hts2, ?_, by (first | lia | omega), hn2, by rw [List.length_append]; simp; (first | lia | omega)⟩
      intro r' hr'
      rcases List.mem_append.mp hr' with z | z
      · exact hrs r' z
      · rw [List.mem_singleton.mp z]; exact hgr
    have h1 : at' = new := by have := of_decide_eq_false e1; (first | lia | omega)
    walk_at "w"
    walk_at "ss"
    clear sH1 erl
    intro gl hgl
    generalize hUgl : upd G gl _ = G1
    have sG1 := Same.of_eq hgl hUgl
    have egl := at_of_eq hUgl
    clear hUgl
    walk_at "w"
    have ngr : gl ≠ rl := fun z => by rw [z, erl'] at hgl; cases hgl
    refine ⟨rl, _, rfl, .inl (SqL.of (sG1.at erl')), ?_⟩
    walk_at "w"
    walk_at "ss"
    rw [List.length_map]
    have er : rngN 0 (ts.length : Int) 1 = ts.length := by rw [rngN_one]; (first | lia | omega)
    rw [er]
    refine forAt_its (fun i σ G2 => Same G G2 ∧ ∃ (us : List V) (x9 : Option V), σ = [some (.int old), some (.int new), some (.int cell), some (.ref rl), some (.int at'), x5, x6, x7, some (.ref gl), x9] ∧ G2 gl = some (.lst us) ∧ us.length = i ∧ ∀ x ∈ us, x ∈ ts.map V.ref)
      ⟨sG1, [], _, rfl, egl, rfl, (fun _ z => by cases z)⟩ (fun i σ G2 hi hP => ?_) (fun σ G2 hP => ?_)
    · obtain ⟨s2, us, x9', rfl, egl2, hul, hum⟩ := hP
      walk_at "w"
      refine ⟨.inl ⟨rfl, _, SqL.of egl2⟩, ?_⟩
      walk_at "w"
      refine ⟨_, _, rfl, ?_⟩
      walk_at "w"
      refine And.intro (by (first | lia | omega)) ?_
      walk_at "w"
      have hti : (ts.map V.ref)[i]? = some (V.ref ts[i]) := by rw [List.getElem?_map, List.getElem?_eq_getElem hi]; rfl
      have hti' : atI (ts.map V.ref) (0 + (i : Int) * 1) = some (V.ref ts[i]) := by
        rw [show (0 : Int) + (i : Int) * 1 = (i : Int) by (first | lia | omega)]; exact atI_nat hti
      refine ⟨rl, _, _, _, rfl, rfl, SqL.of (s2.at erl'), hti', ?_⟩
      walk_at "w"
      have b0 := Int.emod_nonneg (mixed cell (500 + (0 + (i : Int) * 1))) (show (0 + (i : Int) * 1 + 1) ≠ 0 by (first | lia | omega))
      have b1 := Int.emod_lt_of_pos (mixed cell (500 + (0 + (i : Int) * 1))) (show 0 < (0 + (i : Int) * 1 + 1) by (first | lia | omega))
      refine ⟨gl, us, _, _, rfl, rfl, egl2, (by rw [sizeLine_eq]; (first | lia | omega)), b0, (by (first | lia | omega)), ?_⟩
      generalize hk : (mixed cell (500 + (0 + (i : Int) * 1)) % (0 + (i : Int) * 1 + 1)).toNat = k
      generalize hU : upd G2 gl _ = G3
      refine ⟨Same.wr s2 hgl hU, us.take k ++ V.ref ts[i] :: us.drop k, _, rfl, ?_, ?_, fun x hx => ?_⟩
      · rw [← hU, upd_same]
      · rw [List.length_append, List.length_cons, List.length_take, List.length_drop]; (first | lia | omega)
      · rcases List.mem_append.mp hx with z | z
        · exact hum x (List.mem_of_mem_take z)
        · rcases List.mem_cons.mp z with z | z
          · rw [z]; exact List.mem_of_getElem? hti
          · exact hum x (List.mem_of_mem_drop z)
    · obtain ⟨s2, us, x9', rfl, egl2, hul, hum⟩ := hP
      walk_at "w"
      refine q _ _ _ (sG.trans s2) egl2 (fun x hx => ?_) (by (first | lia | omega))
      have hm := hum x hx
      obtain ⟨t, ht, rfl⟩ := List.mem_map.mp hm
      obtain ⟨i, hi⟩ := List.mem_iff_getElem?.mp ht
      obtain ⟨r, hr, hT⟩ := Paired.nth hts hi
      exact ⟨r.dat, TupAt.dv (hT.same s2), hrs r (List.mem_of_getElem? hr)⟩
/-! the law's own walk over the cells -/
theorem mem_num {k : Nat} {c : Int} : ∀ {n : Nat} {L : List (List Int)}, (k, c) ∈ num n L ↔ ∃ i cs, k = n + i ∧ L[i]? = some cs ∧ c ∈ cs
  | n, [] => by simp [num]
  | n, cs :: r => by
    rw [num, List.mem_append, mem_num (n := n + 1) (L := r)]
    constructor
    · rintro (h | ⟨i, cs', rfl, h1, h2⟩)
      · obtain ⟨x, hx, e⟩ := List.mem_map.mp h
        cases e
        exact ⟨0, cs, rfl, rfl, hx⟩
      · exact ⟨i + 1, cs', by (first | lia | omega), by simpa using h1, h2⟩
    · rintro ⟨i, cs', e, h1, h2⟩
      cases i with
      | zero => left; simp at h1; subst h1; exact List.mem_map.mpr ⟨c, h2, by rw [e]; rfl⟩
      | succ i => right; exact ⟨i, cs', by (first | lia | omega), by simpa using h1, h2⟩
theorem tw_none : ∀ {l : List (Nat × Int)} {seen : List Int}, tw l seen = none → (l.map Prod.snd).Nodup ∧ ∀ p ∈ l, ¬ p.2 ∈ seen
  | [], _, _ => ⟨List.nodup_nil, fun _ z => by cases z⟩
  | (k, c) :: r, seen, h => by
    unfold tw at h
    by_cases e : c ∈ seen
    · rw [if_pos e] at h; cases h
    · rw [if_neg e] at h
      obtain ⟨h1, h2⟩ := tw_none h
      refine ⟨?_, fun p hp => ?_⟩
      · rw [List.map_cons, List.nodup_cons]
        refine ⟨fun z => ?_, h1⟩
        obtain ⟨p, hp, hpc⟩ := List.mem_map.mp z
        exact h2 p hp (by rw [hpc]; exact List.mem_cons_self)
      · rcases List.mem_cons.mp hp with z | z
        · rw [z]; exact e
        · exact fun y => h2 p z (List.mem_cons_of_mem _ y)
theorem nodup_one {l : List (Nat × Int)} (h : (l.map Prod.snd).Nodup) {k1 k2 : Nat} {c : Int} (h1 : (k1, c) ∈ l) (h2 : (k2, c) ∈ l) : k1 = k2 := by
  induction l with
  | nil => cases h1
  | cons p r ih =>
    rw [List.map_cons, List.nodup_cons] at h
    rcases List.mem_cons.mp h1 with z1 | z1
    · rcases List.mem_cons.mp h2 with z2 | z2
      · rw [← z1] at z2; cases z2; rfl
      · exact absurd (List.mem_map.mpr ⟨_, z2, by rw [← z1]⟩) h.1
    · rcases List.mem_cons.mp h2 with z2 | z2
      · exact absurd (List.mem_map.mpr ⟨_, z1, by rw [← z2]⟩) h.1
      · exact ih h.2 z1 z2
theorem wrs_eq (r : RowD) : r.wrs = if stR r = true then [] else r.cv := by
  cases r with
  | take to st c =>
    show (if st = to then [] else rngI to c.toNat) = if decide (to = st) = true then [] else rngI to c.toNat
    by_cases e : st = to
    · rw [if_pos e, if_pos (by rw [e]; simp)]
    · rw [if_neg e, if_neg (by simp; exact fun z => e z.symm)]
  | put to sg => rfl
theorem late_iff {rs : List RowD} {i k' : Nat} {c : Int} {r' : RowD} (hn : ((num 0 (rs.map RowD.cv)).map Prod.snd).Nodup) (hm : (k', c) ∈ num 0 (rs.map RowD.cv)) (hr : rs[k']? = some r') :
    c ∈ ((rs.take i).map RowD.wrs).flatten ↔ k' < i ∧ stR r' = false := by
  rw [List.mem_flatten]
  constructor
  · rintro ⟨ws, h1, h2⟩
    obtain ⟨r, hr1, rfl⟩ := List.mem_map.mp h1
    obtain ⟨j, hj⟩ := List.mem_iff_getElem?.mp hr1
    have hji : j < i := by
      have := (List.getElem?_eq_some_iff.mp hj).1
      rw [List.length_take] at this; (first | lia | omega)
    rw [List.getElem?_take_of_lt hji] at hj
    rw [wrs_eq] at h2
    cases hs : stR r with
    | true => rw [hs] at h2; simp at h2
    | false =>
      rw [hs] at h2
      have h2 : c ∈ r.cv := by simpa using h2
      have hm2 : (j, c) ∈ num 0 (rs.map RowD.cv) := mem_num.mpr ⟨j, r.cv, by (first | lia | omega), by rw [List.getElem?_map, hj]; rfl, h2⟩
      have ejk := nodup_one hn hm hm2
      subst ejk
      rw [hj] at hr; cases hr
      exact ⟨hji, hs⟩
  · rintro ⟨h1, h2⟩
    obtain ⟨j, cs, e, h3, h4⟩ := mem_num.mp hm
    have e : k' = j := by (first | lia | omega)
    subst e
    rw [List.getElem?_map, hr] at h3
    cases h3
    refine ⟨r'.wrs, List.mem_map.mpr ⟨r', List.mem_of_getElem? (i := k') (by rw [List.getElem?_take_of_lt h1]; exact hr), rfl⟩, ?_⟩
    rw [wrs_eq, h2]; exact h4
theorem num_snd : ∀ (n : Nat) (L : List (List Int)), (num n L).map Prod.snd = L.flatten
  | _, [] => rfl
  | n, cs :: r => by
    rw [num, List.map_append, num_snd (n + 1) r, List.map_map, List.flatten_cons]
    congr 1
    exact List.map_id _
def HD (kvs : List (Key × V)) (ps : List (Nat × Int)) : Prop := ∀ c : Int, valV kvs (.inl c) = (ps.find? fun p => decide (p.2 = c)).map fun p => V.int (p.1 : Int)
theorem HD.nil : HD [] [] := fun c => rfl
theorem HD.put {kvs : List (Key × V)} {ps : List (Nat × Int)} (h : HD kvs ps) (c : Int) (k : Nat) : HD (putK kvs (.inl c) (.int (k : Int))) ((k, c) :: ps) := by
  intro x
  rw [valV_put, List.find?_cons]
  by_cases e : x = c
  · subst e
    rw [if_pos rfl, show decide ((k, x).2 = x) = true from decide_eq_true rfl]; rfl
  · rw [if_neg (fun z => e (by cases z; rfl)), h x, show decide ((k, c).2 = x) = false from decide_eq_false (fun z => e z.symm)]
theorem HD.ind {kvs : List (Key × V)} {ps : List (Nat × Int)} (h : HD kvs ps) : InD kvs (ps.map Prod.snd) := by
  intro c
  rw [h c]
  cases hf : ps.find? fun p => decide (p.2 = c) with
  | none =>
    symm
    refine decide_eq_false fun z => ?_
    obtain ⟨p, hp, e⟩ := List.mem_map.mp z
    have := List.find?_eq_none.mp hf p hp
    exact this (decide_eq_true e)
  | some p =>
    symm
    exact decide_eq_true (List.mem_map.mpr ⟨p, List.mem_of_find?_eq_some hf, of_decide_eq_true (List.find?_some (p := fun p : Nat × Int => decide (p.2 = c)) hf)⟩)
theorem HD.get {kvs : List (Key × V)} {ps : List (Nat × Int)} (h : HD kvs ps) {c : Int} (hc : c ∈ ps.map Prod.snd) : ∃ k : Nat, valV kvs (.inl c) = some (.int k) ∧ (k, c) ∈ ps := by
  cases hf : ps.find? fun p => decide (p.2 = c) with
  | none =>
    obtain ⟨p, hp, e⟩ := List.mem_map.mp hc
    exact absurd (decide_eq_true e) (List.find?_eq_none.mp hf p hp)
  | some p =>
    have e : p.2 = c := of_decide_eq_true (List.find?_some (p := fun p : Nat × Int => decide (p.2 = c)) hf)
    refine ⟨p.1, by rw [h c, hf]; rfl, ?_⟩
    rw [← e]
    exact List.mem_of_find?_eq_some hf
def toR : RowD → Int
  | .take to _ _ => to
  | .put to _ => to
def cntR : RowD → Nat
  | .take _ _ c => c.toNat
  | .put _ sg => sg.length
theorem cv_eq (r : RowD) : r.cv = rngI (toR r) (cntR r) := by cases r <;> rfl
theorem end_eq {r : RowD} (h : r.ok) : endR r = toR r + cntR r := by
  cases r with
  | take to st c => obtain ⟨h1, h2, h3⟩ := h; show to + c = to + (c.toNat : Int); (first | lia | omega)
  | put to sg => rfl
theorem TupAt.parts {H : Hp} {t : Addr} {r : RowD} (h : TupAt K H t r) : ∃ ys, H t = some (.tup ys) ∧ atI ys 1 = some (.int (toR r)) := by
  cases r with
  | take to st c => exact ⟨_, h, rfl⟩
  | put to sg => obtain ⟨u, h, _⟩ := h; exact ⟨_, h, rfl⟩
theorem rngI_get {lo : Int} {n j : Nat} (h : j < n) : (rngI lo n)[j]? = some (lo + j) := by
  unfold rngI; rw [List.getElem?_map, List.getElem?_range h]; rfl
inductive Sp_cells (vs : List V) (H : Hp) (Q : VK) : Prop
  | mk (new : Nat) (l : Addr) (xs : List V) (rs : List RowD) : (vs = [.int new, .ref l]) → (H l = some (.lst xs)) → (Dvs H xs (rs.map RowD.dat)) → (RowsOk rs) → ((∀ r ∈ rs, r.ok ∧ endR r ≤ new)) → (new ≤ 300) → (∀ v H', Same H H' → FltAt H' v (faultR rs new) → Q v H') → Sp_cells  vs H Q
def sp_cells : Sp := fun vs H Q _ => Sp_cells  vs H Q
theorem ok_cells (T : Txt K mg a) : FnOk P w K mg base CX0 2 a.f_cells a.d_cells ["_law_new", "_law_rows_here"] sp_cells := by
  refine T.F_cells.ok sc_cells (fun vs H Q E h => ?_) (fun cdv A outer s H vs Q E hr h => ?_)
  · obtain ⟨new, l, xs, rs, rfl, _⟩ := h; rfl
  · obtain ⟨new, l, xs, rs, rfl, hl, hds, ⟨hr1, hr2⟩, hrk, hn3, q⟩ := h
    have nd := sc_cells.nd
    have hxl : xs.length = rs.length := by rw [hds.length, List.length_map]
    have row : ∀ {i : Nat} {G : Hp}, Same H G → i < rs.length → ∃ (r : RowD) (t : Addr), rs[i]? = some r ∧ xs[i]? = some (.ref t) ∧ TupAt K G t r ∧ r ∈ rs := fun {i G} sG hi => by
      have e : (rs.map RowD.dat)[i]? = some (rs[i]).dat := by rw [List.getElem?_map, List.getElem?_eq_getElem hi]; rfl
      obtain ⟨x, hx1, hx2⟩ := hds.get e
      obtain ⟨t, rfl, ht⟩ := Dv.tupAt (K := K) hx2
      exact ⟨rs[i], t, List.getElem?_eq_getElem hi, hx1, ht.same sG, List.getElem_mem _⟩
    refine ⟨_, (pss_cons (ps_set (i := 2) nd rfl (Or.inl rfl) pe_dnewK)
    (pss_cons (cs_for PassesOwn.never rfl (ci_range1 (by rfl) T.n_range (pa_cons (pe_callB (lenqK (K := K) rfl) (by rfl) T.n_len bt_len (pa_cons (cv 1) pa_nil)) pa_nil)) (pg_name (i := 3) nd rfl (Or.inl rfl)) (pss_one (cs_for PassesOwn.never rfl (ci_range2 (by rfl) T.n_range (pa_cons (pe_ix (ix_tupK (K := K) rfl) (pe_ix (ix_listK (K := K) rfl) (cv 1) (cv 3) (fun _ _ => rfl)) pe_int (fun _ _ => rfl)) (pa_cons (pe_call (ok_end (P := P) (w := w) (K := K) (mg := mg) (base := base) T) (hr.mono (by decide)) (by rfl) T.m_end T.F_end.kp T.b_end .nil pass0 (pa_cons (pe_ix (ix_listK (K := K) rfl) (cv 1) (cv 3) (fun _ _ => rfl)) pa_nil)) pa_nil))) (pg_name (i := 4) nd rfl (Or.inl rfl)) (pss_cons (cs_if (ct_pc (pc_din (hu_of hr) (cv 4) (cv 2)) (by rfl)) (pss_one (ps_ret (pe_tup (pa_cons pe_str (pa_cons (cv 3) (pa_cons (cv 4) pa_nil)))))) pss_nil)
    (pss_one (ps_dput (hu_of hr) (cv 2) (cv 4) (cv 3) rfl))))))
    (pss_cons (cs_for PassesOwn.never rfl (ci_range1 (by rfl) T.n_range (pa_cons (cv 0) pa_nil)) (pg_name (i := 4) nd rfl (Or.inl rfl)) (pss_one (cs_if (ct_pc (pc_dnotin (hu_of hr) (cv 4) (cv 2)) (by rfl)) (pss_one (ps_ret (pe_tup (pa_cons pe_str (pa_cons (cv 4) pa_nil))))) pss_nil)))
    (pss_cons (cs_for PassesOwn.never rfl (ci_range1 (by rfl) T.n_range (pa_cons (pe_callB (lenqK (K := K) rfl) (by rfl) T.n_len bt_len (pa_cons (cv 1) pa_nil)) pa_nil)) (pg_name (i := 3) nd rfl (Or.inl rfl)) (pss_cons (ps_set (i := 5) nd rfl (Or.inl rfl) (pe_ix (ix_listK (K := K) rfl) (cv 1) (cv 3) (fun _ _ => rfl)))
    (pss_one (cs_if (PW.pt (cw_and (ct_cmp o_eqS (pe_ix (ix_tupK (K := K) rfl) (cv 5) pe_int (fun _ _ => rfl)) pe_str) (pw_and1 (ct_cmp o_neI (pe_ix (ix_tupK (K := K) rfl) (cv 5) pe_int (fun _ _ => rfl)) (pe_ix (ix_tupK (K := K) rfl) (cv 5) pe_int (fun _ _ => rfl)))))) (pss_one (cs_for PassesOwn.never rfl (ci_range2 (by rfl) T.n_range (pa_cons (pe_ix (ix_tupK (K := K) rfl) (cv 5) pe_int (fun _ _ => rfl)) (pa_cons (pe_op o_add (pe_ix (ix_tupK (K := K) rfl) (cv 5) pe_int (fun _ _ => rfl)) (pe_ix (ix_tupK (K := K) rfl) (cv 5) pe_int (fun _ _ => rfl))) pa_nil))) (pg_name (i := 4) nd rfl (Or.inl rfl)) (pss_one (cs_if (PW.pt (cw_and (ct_cmp o_lt (cv 4) (cv 0)) (cw_and (ct_cmp o_lt (pe_dget (hu_of hr) (cv 2) (cv 4) (fun _ _ => rfl)) (cv 3)) (pw_and1 (pt_not (ct_val (pe_call (ok_stays (P := P) (w := w) (K := K) (mg := mg) (base := base) T) (hr.mono (by decide)) (by rfl) T.m_stays T.F_stays.kp T.b_stays .nil pass0 (pa_cons (pe_ix (ix_listK (K := K) rfl) (cv 1) (pe_dget (hu_of hr) (cv 2) (cv 4) (fun _ _ => rfl)) (fun _ _ => rfl)) pa_nil)))))))) (pss_one (ps_ret (pe_tup (pa_cons pe_str (pa_cons (cv 3) (pa_cons (cv 4) pa_nil)))))) pss_nil)))) pss_nil))))
    (pss_one (ps_ret pe_non)))))), ?_⟩
    walk_at "w"
    intro d hd'
    generalize hU0 : upd H d _ = H1
    have sH1 := Same.of_eq hd' hU0
    have ed := at_of_eq hU0
    clear hU0
    walk_at "w"
    refine ⟨l, _, rfl, .inl (SqL.of (sH1.at hl)), ?_⟩
    walk_at "w"
    have er : rngN 0 (xs.length : Int) 1 = rs.length := by rw [rngN_one]; (first | lia | omega)
    rw [er]
    refine forAt_its (fun i σ G => Same H G ∧ (∃ kvs ps, G d = some (.dK kvs) ∧ HD kvs ps ∧ kvs.length ≤ i * 300 ∧ twiceF rs = tw (num i ((rs.map RowD.cv).drop i)) (ps.map Prod.snd) ∧ ps.reverse ++ num i ((rs.map RowD.cv).drop i) = num 0 (rs.map RowD.cv)) ∧ ∃ x3 x4 x5, σ = [some (.int new), some (.ref l), some (.ref d), x3, x4, x5])
      ⟨sH1, ⟨[], [], ed, HD.nil, by simp, rfl, rfl⟩, _, _, _, rfl⟩ (fun i σ G hi hP => ?_) (fun σ G hP => ?_)
    · obtain ⟨s1, ⟨kvs, ps, hd, hin, hkl, htw, hps⟩, x3, x4, x5, rfl⟩ := hP
      obtain ⟨r, t, hr', hx, hT, hrm⟩ := row s1 hi
      obtain ⟨ys, hy, hy1⟩ := hT.parts
      have ei : (0 + (i : Int) * 1) = (i : Int) := by (first | lia | omega)
      rw [ei]
      walk_at "w"
      refine ⟨l, _, _, .ref t, rfl, rfl, SqL.of (s1.at hl), atI_nat hx, ?_⟩
      walk_at "w"
      refine ⟨t, _, _, _, rfl, rfl, SqT.of hy, hy1, ?_⟩
      walk_at "w"
      refine ⟨l, _, _, .ref t, rfl, rfl, SqL.of (s1.at hl), atI_nat hx, ?_⟩
      walk_at "w"
      refine ⟨_, r, rfl, TupAt.dv hT, ?_⟩
      walk_at "w"
      have hb := (hr2 r hrm).1
      have hcl : r.cv.length = cntR r := by rw [cv_eq, rngI_length]
      have er2 : rngN (toR r) (endR r) 1 = cntR r := by rw [rngN_one, end_eq (hrk r hrm).1]; (first | lia | omega)
      rw [er2]
      have hdr : ((rs.map RowD.cv).drop i)[0]? = some r.cv := by rw [List.getElem?_drop, Nat.add_zero, List.getElem?_map, hr']; rfl
      rw [num_drop i _ _ hdr, List.drop_drop] at htw hps
      refine forAt_its (fun j σ G4 => Same H G4 ∧ (∃ kvs ps, G4 d = some (.dK kvs) ∧ HD kvs ps ∧ kvs.length ≤ i * 300 + j ∧ twiceF rs = tw ((r.cv.drop j).map (fun c => (i, c)) ++ num (i + 1) ((rs.map RowD.cv).drop (i + 1))) (ps.map Prod.snd) ∧ ps.reverse ++ ((r.cv.drop j).map (fun c => (i, c)) ++ num (i + 1) ((rs.map RowD.cv).drop (i + 1))) = num 0 (rs.map RowD.cv)) ∧ ∃ x4, σ = [some (.int new), some (.ref l), some (.ref d), some (.int i), x4, x5])
        ⟨s1, ⟨kvs, ps, hd, hin, by (first | lia | omega), by rw [List.drop_zero]; exact htw, by rw [List.drop_zero]; exact hps⟩, _, rfl⟩ (fun j σ G4 hj hQ => ?_) (fun σ G4 hQ => ?_)
      · obtain ⟨s4, ⟨kvs4, ps4, hd4, hin4, hk4, htw4, hps4⟩, x4, rfl⟩ := hQ
        have ej : (toR r + (j : Int) * 1) = toR r + (j : Int) := by (first | lia | omega)
        rw [ej]
        generalize hc' : toR r + (j : Int) = c
        have hc : r.cv[j]? = some c := by rw [cv_eq, rngI_get hj, hc']
        have hj2 : j < r.cv.length := by (first | lia | omega)
        have ecut : r.cv.drop j = c :: r.cv.drop (j + 1) := by
          rw [List.drop_eq_getElem_cons hj2, (List.getElem?_eq_some_iff.mp hc).2]
        rw [ecut, List.map_cons, List.cons_append] at htw4 hps4
        rw [tw] at htw4
        walk_at "w"
        refine ⟨d, _, rfl, DGet.k (k := Sum.inl c) hd4, ?_⟩
        walk_at "w"
        rw [hin4.ind c]
        refine ⟨fun e => ?_, fun e => ?_⟩
        · have e' := of_decide_eq_true e
          rw [if_pos e'] at htw4
          walk_at "w"
          walk_at "ss"
          intro t2 ht2
          generalize hUt2 : upd G4 t2 _ = G5
          have sG5 := Same.of_eq ht2 hUt2
          have et2 := at_of_eq hUt2
          clear hUt2
          walk_at "w"
          refine q _ _ (s4.trans sG5) ?_
          unfold faultR
          rw [htw4]
          exact .tup et2 (.cons (.str _) (.cons (.int _) (.cons (.int _) .nil)))
        · have e' := of_decide_eq_false e
          rw [if_neg e'] at htw4
          walk_at "w"
          refine ⟨d, _, rfl, DPut.k (k := Sum.inl c) hd4 (by rw [sizeLine_eq]; (first | lia | omega)), ?_⟩
          generalize hV : upd G4 d _ = G5
          have s5 : Same H G5 := Same.wr s4 hd' hV
          have hd5 := at_of_eq hV
          clear hV
          have := putK_len kvs4 (Sum.inl c) (.int (i : Int))
          exact ⟨s5, ⟨_, _, hd5, hin4.put c i, by (first | lia | omega), htw4, by rw [List.reverse_cons, List.append_assoc]; exact hps4⟩, _, rfl⟩
      · obtain ⟨s4, ⟨kvs4, ps4, hd4, hin4, hk4, htw4, hps4⟩, x4, rfl⟩ := hQ
        rw [← hcl, List.drop_length] at htw4 hps4
        exact ⟨s4, ⟨kvs4, ps4, hd4, hin4, by (first | lia | omega), htw4, hps4⟩, _, _, _, rfl⟩
    · obtain ⟨s1, ⟨kvs, ps, hd, hin, hkl, htw, hps⟩, x3, x4, x5, rfl⟩ := hP
      have e0 : (rs.map RowD.cv).drop rs.length = [] := List.drop_eq_nil_of_le (by rw [List.length_map]; exact Nat.le_refl _)
      rw [e0] at htw hps
      have e1 : twiceF rs = none := htw
      have hps : ps.reverse = num 0 (rs.map RowD.cv) := by rw [← hps]; simp [num]
      have hpm : ∀ p, p ∈ ps ↔ p ∈ num 0 (rs.map RowD.cv) := fun p => by rw [← hps, List.mem_reverse]
      have hnd := (tw_none e1).1
      have hse' : ∀ c, c ∈ ps.map Prod.snd ↔ c ∈ (rs.map RowD.cv).flatten := fun c => by
        rw [← num_snd 0, ← hps, List.map_reverse, List.mem_reverse]
      clear htw e0
      walk_at "w"
      have en : rngN 0 ((new : Nat) : Int) 1 = new := by rw [rngN_one]; (first | lia | omega)
      rw [en]
      refine forAt_its (fun i σ G2 => G2 = G ∧ (∀ j, j < i → ((j : Nat) : Int) ∈ (rs.map RowD.cv).flatten) ∧ ∃ x4, σ = [some (.int new), some (.ref l), some (.ref d), x3, x4, x5]) ⟨rfl, fun j hj => absurd hj (Nat.not_lt_zero _), _, rfl⟩ (fun i σ G2 hi hQ => ?_) (fun σ G2 hQ => ?_)
      · obtain ⟨rfl, hall, x4, rfl⟩ := hQ
        have ei : (0 + (i : Int) * 1) = (i : Int) := by (first | lia | omega)
        rw [ei]
        walk_at "w"
        refine ⟨d, _, rfl, DGet.k (k := Sum.inl (i : Int)) hd, ?_⟩
        walk_at "w"
        rw [hin.ind]
        refine ⟨fun e => ?_, fun e => ?_⟩
        · have e' : ¬ (i : Int) ∈ ps.map Prod.snd := by rw [Bool.not_eq_true'] at e; exact of_decide_eq_false e
          have ef : lacksF rs new = some (i : Int) := by
            unfold lacksF
            rw [find_skip (j := i) (fun j hj c hc => ?_), List.drop_eq_getElem_cons (by simp; exact hi), List.find?_cons]
            · simp only [List.getElem_map, List.getElem_range]
              have : ¬ (i : Int) ∈ (rs.map RowD.cv).flatten := fun z => e' ((hse' _).mpr z)
              simp only [decide_eq_false this]
              rfl
            · rw [List.getElem?_map, List.getElem?_range (by (first | lia | omega))] at hc
              cases hc
              simp only [decide_eq_true (hall j hj)]
              rfl
          walk_at "w"
          walk_at "ss"
          intro t2 ht2
          generalize hUt2 : upd G2 t2 _ = G5
          have sG5 := Same.of_eq ht2 hUt2
          have et2 := at_of_eq hUt2
          clear hUt2
          walk_at "w"
          refine q _ _ (s1.trans sG5) ?_
          unfold faultR
          rw [e1, ef]
          exact .tup et2 (.cons (.str _) (.cons (.int _) .nil))
        · have e' : (i : Int) ∈ ps.map Prod.snd := by rw [Bool.not_eq_false'] at e; exact of_decide_eq_true e
          refine ⟨rfl, fun j hj => ?_, _, rfl⟩
          by_cases hji : j = i
          · rw [hji]; exact (hse' _).mp e'
          · exact hall j (by (first | lia | omega))
      · obtain ⟨rfl, hall, x4, rfl⟩ := hQ
        have e2 : lacksF rs new = none := by
          unfold lacksF
          rw [List.find?_eq_none]
          intro c hc
          obtain ⟨j, hj, rfl⟩ := List.mem_map.mp hc
          simp only [decide_eq_true (hall j (List.mem_range.mp hj))]
          decide
        have efr : faultR rs new = kcD "late" (lateF rs) := by unfold faultR; rw [e1, e2]; rfl
        rw [efr] at q
        have hwn : ∀ i c, c ∈ ((rs.take i).map RowD.wrs).flatten → c < new := fun i c hc => by
          obtain ⟨ws, h1, h2⟩ := List.mem_flatten.mp hc
          obtain ⟨r, hr1, rfl⟩ := List.mem_map.mp h1
          have hrm := List.mem_of_mem_take hr1
          rw [wrs_eq] at h2
          split at h2
          · cases h2
          · rw [cv_eq] at h2
            have := (mem_rngI.mp h2).2
            have := end_eq (hrk r hrm).1
            have := (hrk r hrm).2
            (first | lia | omega)
        walk_at "w"
        refine ⟨l, _, rfl, .inl (SqL.of (s1.at hl)), ?_⟩
        walk_at "w"
        rw [er]
        refine forAt_its (fun i σ G3 => G3 = G2 ∧ lateF rs = lateS i (rs.drop i) (((rs.take i).map RowD.wrs).flatten) ∧ ∃ x3 x4 x5, σ = [some (.int new), some (.ref l), some (.ref d), x3, x4, x5])
          ⟨rfl, rfl, _, _, _, rfl⟩ (fun i σ G3 hi hQ => ?_) (fun σ G3 hQ => ?_)
        · obtain ⟨rfl, hla, x3, x4, x5, rfl⟩ := hQ
          obtain ⟨r, t, hr', hx, hT, hrm⟩ := row s1 hi
          have ei : (0 + (i : Int) * 1) = (i : Int) := by (first | lia | omega)
          rw [ei]
          have hdr : (rs.drop i)[0]? = some r := by rw [List.getElem?_drop, Nat.add_zero]; exact hr'
          rw [lateS_cons i _ r _ hdr, List.drop_drop] at hla
          have hw1 : ((rs.take i).map RowD.wrs).flatten ++ r.wrs = ((rs.take (i + 1)).map RowD.wrs).flatten := by
            rw [List.take_succ, hr', List.map_append, List.flatten_append]; simp
          rw [hw1] at hla
          walk_at "w"
          refine ⟨l, _, _, .ref t, rfl, rfl, SqL.of (s1.at hl), atI_nat hx, ?_⟩
          cases r with
          | put to sg =>
            obtain ⟨u, h1, h2⟩ := hT
            walk_at "w"
            refine ⟨t, _, _, .str "put", rfl, rfl, SqT.of h1, rfl, ?_⟩
            walk_at "w"
            exact ⟨by walk_at "no", fun _ => ⟨by walk_at "no", fun _ => ⟨rfl, hla, _, _, _, rfl⟩⟩⟩
          | take to st c =>
            have hok : 0 ≤ to ∧ 0 ≤ st ∧ 1 ≤ c := (hrk _ hrm).1
            walk_at "w"
            refine ⟨t, _, _, .str "take", rfl, rfl, SqT.of hT, rfl, ?_⟩
            walk_at "w"
            refine ⟨fun _ => ?_, by walk_at "no"⟩
            walk_at "w"
            refine ⟨t, _, _, .int to, rfl, rfl, SqT.of hT, rfl, ?_⟩
            walk_at "w"
            refine ⟨t, _, _, .int st, rfl, rfl, SqT.of hT, rfl, ?_⟩
            walk_at "w"
            refine ⟨fun e => ?_, fun e => ?_⟩
            · have hne : ¬ st = to := fun z => by rw [z] at e; simp at e
              have erd : RowD.rds (.take to st c) = rngI st c.toNat := if_neg hne
              rw [erd] at hla
              walk_at "w"
              refine ⟨t, _, _, .int st, rfl, rfl, SqT.of hT, rfl, ?_⟩
              walk_at "w"
              refine ⟨t, _, _, .int st, rfl, rfl, SqT.of hT, rfl, ?_⟩
              walk_at "w"
              refine ⟨t, _, _, .int c, rfl, rfl, SqT.of hT, rfl, ?_⟩
              walk_at "w"
              have er3 : rngN st (st + c) 1 = c.toNat := by rw [rngN_one]; (first | lia | omega)
              rw [er3]
              refine forAt_its (fun j σ G4 => G4 = G3 ∧ (∀ i', i' < j → ∀ c', (rngI st c.toNat)[i']? = some c' → decide (c' ∈ ((rs.take i).map RowD.wrs).flatten) = false) ∧ ∃ x4, σ = [some (.int new), some (.ref l), some (.ref d), some (.int i), x4, some (.ref t)])
                ⟨rfl, fun j hj => absurd hj (Nat.not_lt_zero _), _, rfl⟩ (fun j σ G4 hj hQ => ?_) (fun σ G4 hQ => ?_)
              · obtain ⟨rfl, hno, x4, rfl⟩ := hQ
                have ej : (st + (j : Int) * 1) = st + (j : Int) := by (first | lia | omega)
                rw [ej]
                have hc : (rngI st c.toNat)[j]? = some (st + (j : Int)) := rngI_get hj
                have hc0 : 0 ≤ st + (j : Int) := by (first | lia | omega)
                generalize st + (j : Int) = c' at hc hc0
                have hj2 : j < (rngI st c.toNat).length := by rw [rngI_length]; exact hj
                have skip : decide (c' ∈ ((rs.take i).map RowD.wrs).flatten) = false → ∀ i', i' < j + 1 → ∀ c', (rngI st c.toNat)[i']? = some c' → decide (c' ∈ ((rs.take i).map RowD.wrs).flatten) = false := fun z i' hi' c2 hc2 => by
                  by_cases hji : i' = j
                  · rw [hji, hc] at hc2; cases hc2; exact z
                  · exact hno i' (by (first | lia | omega)) c2 hc2
                walk_at "w"
                refine ⟨fun e4 => ?_, fun e4 => ?_⟩
                · have h4 : c' < new := of_decide_eq_true e4
                  have hfl := hall c'.toNat (by (first | lia | omega))
                  rw [Int.toNat_of_nonneg hc0] at hfl
                  obtain ⟨k', hv, hm⟩ := hin.get ((hse' c').mpr hfl)
                  have hm' := (hpm _).mp hm
                  have hk' : k' < rs.length := by
                    obtain ⟨i2, cs, e5, h6, _⟩ := mem_num.mp hm'
                    have := (List.getElem?_eq_some_iff.mp h6).1
                    rw [List.length_map] at this; (first | lia | omega)
                  obtain ⟨r', t', hr2', hx', hT', _⟩ := row s1 hk'
                  have hiff := late_iff (i := i) hnd hm' hr2'
                  walk_at "w"
                  refine ⟨d, _, rfl, (by rw [← hv]; exact DGet.k (k := Sum.inl c') hd), ?_⟩
                  walk_at "w"
                  refine ⟨fun e5 => ?_, fun e5 => ?_⟩
                  · have h5 : k' < i := by have := of_decide_eq_true e5; (first | lia | omega)
                    walk_at "w"
                    refine ⟨d, _, rfl, (by rw [← hv]; exact DGet.k (k := Sum.inl c') hd), ?_⟩
                    walk_at "w"
                    refine ⟨l, _, _, .ref t', rfl, rfl, SqL.of (s1.at hl), atI_nat hx', ?_⟩
                    walk_at "w"
                    refine ⟨_, r', rfl, TupAt.dv hT', ?_⟩
                    walk_at "w"
                    cases hs : stR r' with
                    | true =>
                      refine ⟨by walk_at "no", fun _ => ⟨rfl, skip (decide_eq_false fun z => ?_), _, rfl⟩⟩
                      have := (hiff.mp z).2
                      rw [hs] at this; cases this
                    | false =>
                      refine ⟨fun _ => ?_, by walk_at "no"⟩
                      have ef : (rngI st c.toNat).find? (fun c => decide (c ∈ ((rs.take i).map RowD.wrs).flatten)) = some c' := by
                        rw [find_skip (j := j) hno, List.drop_eq_getElem_cons hj2, List.find?_cons, (List.getElem?_eq_some_iff.mp hc).2, decide_eq_true (hiff.mpr ⟨h5, hs⟩)]
                      rw [ef] at hla
                      rw [hla] at q
                      walk_at "w"
                      walk_at "ss"
                      intro t2 ht2
                      generalize hUt2 : upd G4 t2 _ = G5
                      have sG5 := Same.of_eq ht2 hUt2
                      have et2 := at_of_eq hUt2
                      clear hUt2
                      walk_at "w"
                      exact q _ _ (s1.trans sG5) (.tup et2 (.cons (.str _) (.cons (.int _) (.cons (.int _) .nil))))
                  · have h5 : ¬ k' < i := by have := of_decide_eq_false e5; (first | lia | omega)
                    exact ⟨by walk_at "no", fun _ => ⟨rfl, skip (decide_eq_false fun z => h5 (hiff.mp z).1), _, rfl⟩⟩
                · have h4 : ¬ c' < new := of_decide_eq_false e4
                  exact ⟨by walk_at "no", fun _ => ⟨rfl, skip (decide_eq_false fun z => h4 (hwn i c' z)), _, rfl⟩⟩
              · obtain ⟨rfl, hno, x4, rfl⟩ := hQ
                have ef : (rngI st c.toNat).find? (fun c => decide (c ∈ ((rs.take i).map RowD.wrs).flatten)) = none := by
                  rw [find_skip (j := (rngI st c.toNat).length) (by rw [rngI_length]; exact hno), List.drop_length]; rfl
                rw [ef] at hla
                exact ⟨rfl, hla, _, _, _, rfl⟩
            · have heq : st = to := by
                rw [Bool.not_eq_false'] at e; exact (of_decide_eq_true e).symm
              have erd : RowD.rds (.take to st c) = [] := if_pos heq
              rw [erd] at hla
              exact ⟨rfl, hla, _, _, _, rfl⟩
        · obtain ⟨rfl, hla, x3, x4, x5, rfl⟩ := hQ
          rw [List.drop_length] at hla
          have e3 : lateF rs = none := hla
          rw [e3] at q
          walk_at "w"
          exact q _ _ s1 rfl
theorem rowD_some {d : PyData} {r : RowD} (ht : TellOk d) (h : rowD d = some r) : d = r.dat ∧ r.ok := by
  cases e1 : takeD d with
  | true =>
    obtain ⟨to, st, c, rfl, k1, k2, k3⟩ := takeD_row e1
    rw [rowD_take k1 k2 k3] at h
    cases h
    exact ⟨rfl, k1, k2, k3⟩
  | false =>
    cases e2 : putD d with
    | true =>
      obtain ⟨to, sg, rfl, k1, k2, k3⟩ := putD_row e2
      rw [rowD_put k1 k2 k3] at h
      cases h
      refine ⟨rfl, k1, k2, ?_, k3⟩
      have := (ht _ rfl).2 _ _ rfl rfl
      rwa [List.length_map] at this
    | false => rw [rowD_none e1 e2] at h; cases h
theorem dat_back : ∀ {ds : List PyData}, (∀ d ∈ ds, ∃ r, rowD d = some r ∧ d = r.dat) → (ds.filterMap rowD).map RowD.dat = ds
  | [], _ => rfl
  | d :: r, h => by
    obtain ⟨x, h1, h2⟩ := h d List.mem_cons_self
    rw [List.filterMap_cons, h1, List.map_cons, dat_back fun e he => h e (List.mem_cons_of_mem _ he), ← h2]
theorem fit_end {old new : Int} {r : RowD} (h : fitR old new r = true) : endR r ≤ new := by
  cases r with
  | take to st c => exact of_decide_eq_true (Bool.and_eq_true_iff.mp h).2
  | put to sg => exact of_decide_eq_true h
inductive Sp_first (vs : List V) (H : Hp) (Q : VK) : Prop
  | mk (vo vn : V) (dO dN : PyData) (l : Addr) (xs : List V) (ds : List PyData) (m : Nat) : (vs = [vo, vn, .ref l]) → (Dv H vo dO) → (LenData dO) → (Dv H vn dN) → (LenData dN) → (H l = some (.lst xs)) → (Dvs H xs ds) → ((∀ d ∈ ds, GRow m d)) → (m ≤ 100000) → (xs.length ≤ 100000) → (∀ v H', Same H H' → FltAt H' v (faultD dO dN ds) → Q v H') → Sp_first  vs H Q
def sp_first : Sp := fun vs H Q _ => Sp_first  vs H Q
theorem ok_first (T : Txt K mg a) : FnOk P w K mg base CX0 3 a.f_first a.d_first ["_law_old", "_law_new", "_law_rows_here"] sp_first := by
  refine T.F_first.ok sc_first (fun vs H Q E h => ?_) (fun cdv A outer s H vs Q E hr h => ?_)
  · obtain ⟨vo, vn, dO, dN, l, xs, ds, m, rfl, _⟩ := h; rfl
  · obtain ⟨vo, vn, dO, dN, l, xs, ds, m, rfl, ho, hlo, hn, hln, hl, hds, hg, hm, hxs, q⟩ := h
    have nd := sc_first.nd
    have hxl := hds.length
    refine ⟨_, (pss_cons (cs_for PassesOwn.never rfl (it_tupK (K := K) rfl (pe_tup (pa_cons (cv 0) (pa_cons (cv 1) pa_nil)))) (pg_name (i := 3) nd rfl (Or.inl rfl)) (pss_one (cs_if (PW.pt (cw_or (pt_not (ct_val (pe_callB (isiK (K := K) rfl) (by rfl) T.n_isinstance bt_isinstance (pa_cons (cv 3) (pa_cons (pe_bltn (v := .ty "int") (by rfl) T.n_int bt_int rfl) pa_nil))))) (cw_or (ct_val (pe_callB (isiK (K := K) rfl) (by rfl) T.n_isinstance bt_isinstance (pa_cons (cv 3) (pa_cons (pe_bltn (v := .ty "bool") (by rfl) T.n_bool bt_bool rfl) pa_nil)))) (cw_or (ct_cmp o_lt (cv 3) pe_int) (pw_or1 (ct_cmp o_gt (cv 3) pe_int)))))) (pss_one (ps_ret (pe_tup (pa_cons pe_str pa_nil)))) pss_nil)))
    (pss_cons (cs_if (ct_cmp o_gt (pe_callB (lenqK (K := K) rfl) (by rfl) T.n_len bt_len (pa_cons (cv 2) pa_nil)) pe_int) (pss_one (ps_ret (pe_tup (pa_cons pe_str pa_nil)))) pss_nil)
    (pss_cons (cs_for PassesOwn.never rfl (ci_range1 (by rfl) T.n_range (pa_cons (pe_callB (lenqK (K := K) rfl) (by rfl) T.n_len bt_len (pa_cons (cv 2) pa_nil)) pa_nil)) (pg_name (i := 4) nd rfl (Or.inl rfl)) (pss_cons (ps_set (i := 5) nd rfl (Or.inl rfl) (pe_ix (ix_listK (K := K) rfl) (cv 2) (cv 4) (fun _ _ => rfl)))
    (pss_one (cs_if (PW.pt (cw_or (pt_not (ct_val (pe_call (ok_is_row (P := P) (w := w) (K := K) (mg := mg) (base := base) T) (hr.mono (by decide)) (by rfl) T.m_is_row T.F_is_row.kp T.b_is_row .nil pass0 (pa_cons (cv 5) pa_nil)))) (cw_or (ct_cmp o_gt (pe_call (ok_end (P := P) (w := w) (K := K) (mg := mg) (base := base) T) (hr.mono (by decide)) (by rfl) T.m_end T.F_end.kp T.b_end .nil pass0 (pa_cons (cv 5) pa_nil)) (cv 1)) (pw_or1 (PW.pt (cw_and (ct_cmp o_eqS (pe_ix (ix_tupK (K := K) rfl) (cv 5) pe_int (fun _ _ => rfl)) pe_str) (pw_and1 (ct_cmp o_gt (pe_op o_add (pe_ix (ix_tupK (K := K) rfl) (cv 5) pe_int (fun _ _ => rfl)) (pe_ix (ix_tupK (K := K) rfl) (cv 5) pe_int (fun _ _ => rfl))) (cv 0))))))))) (pss_one (ps_ret (pe_tup (pa_cons pe_str (pa_cons (cv 4) pa_nil))))) pss_nil))))
    (pss_one (ps_ret (pe_call (ok_cells (P := P) (w := w) (K := K) (mg := mg) (base := base) T) (hr.mono (by decide)) (by rfl) T.m_cells T.F_cells.kp T.b_cells .nil pass0 (pa_cons (cv 1) (pa_cons (cv 2) pa_nil)))))))), ?_⟩
    walk_at "w"
    walk_at "ss"
    intro tp htp
    generalize hUtp : upd H tp _ = H1
    have sH1 := Same.of_eq htp hUtp
    have etp := at_of_eq hUtp
    clear hUtp
    walk_at "w"
    refine ⟨tp, rfl, ⟨_, SqT.of etp⟩, ?_⟩
    walk_at "w"
    refine forAt_tup (xs := [vo, vn]) (fun i σ G => G = H1 ∧ (0 < i → lenD dO = true) ∧ (1 < i → lenD dN = true) ∧ ∃ x3 x4 x5, σ = [some vo, some vn, some (.ref l), x3, x4, x5])
      ⟨rfl, fun z => absurd z (by (first | lia | omega)), fun z => absurd z (by (first | lia | omega)), _, _, _, rfl⟩ (fun i σ G hi hP => by rw [hP.1]; exact SqT.of etp) (fun i x σ G hx hP => ?_) (fun σ G hP => ?_)
    · obtain ⟨rfl, hA, hB, x3, x4, x5, rfl⟩ := hP
      obtain ⟨d, hd, hld, hwh⟩ : ∃ d, Dv G x d ∧ LenData d ∧ ((i = 0 ∧ d = dO) ∨ (i = 1 ∧ d = dN)) := by
        match i, hx with
        | 0, hx => simp at hx; subst hx; exact ⟨dO, Dv.same sH1 ho, hlo, .inl ⟨rfl, rfl⟩⟩
        | 1, hx => simp at hx; subst hx; exact ⟨dN, Dv.same sH1 hn, hln, .inr ⟨rfl, rfl⟩⟩
        | j + 2, hx => simp at hx
      have bad : lenD d = false → ∀ v H', Same G H' → Dv H' v (.tuple [.str "size"]) → Q v H' := fun z v H' s' f => q v H' (sH1.trans s') (by
        unfold faultD
        rcases hwh with ⟨_, e⟩ | ⟨_, e⟩
        · rw [e] at z; rw [z]; exact f
        · rw [e] at z; rw [z]; rw [Bool.false_and, Bool.and_false]; exact f)
      have good : lenD d = true → (0 < i + 1 → lenD dO = true) ∧ (1 < i + 1 → lenD dN = true) := fun z => by
        rcases hwh with ⟨ei, e⟩ | ⟨ei, e⟩
        · rw [e] at z; exact ⟨fun _ => z, fun y => absurd y (by (first | lia | omega))⟩
        · rw [e] at z; exact ⟨fun _ => hA (by (first | lia | omega)), fun _ => z⟩
      clear hwh hA hB
      rcases hld with ⟨n, rfl⟩ | ⟨b, rfl⟩ | rfl | rfl
      · cases hd
        walk_at "w"
        refine ⟨_, _, _, _, true, rfl, rfl, TyOf.int _, rfl, ?_⟩
        walk_at "w"
        refine ⟨by walk_at "no", fun _ => ?_⟩
        walk_at "w"
        refine ⟨_, _, _, _, false, rfl, rfl, TyOf.int _, rfl, ?_⟩
        walk_at "w"
        refine ⟨by walk_at "no", fun _ => ?_⟩
        walk_at "w"
        refine ⟨fun e => ⟨fun _ => ?_, by walk_at "no"⟩, fun e => ?_⟩
        · have hz : lenD (.int n) = false := by
            show (decide (0 ≤ n) && decide (n ≤ 300)) = false
            rw [decide_eq_false (show ¬ 0 ≤ n by have := of_decide_eq_true e; (first | lia | omega))]; rfl
          walk_at "w"
          walk_at "ss"
          intro tz htz
          generalize hUtz : upd G tz _ = G2
          have sG2 := Same.of_eq htz hUtz
          have etz := at_of_eq hUtz
          clear hUtz
          walk_at "w"
          exact bad hz _ _ sG2 (.tup etz (.cons (.str _) .nil))
        have h0 : 0 ≤ n := by have := of_decide_eq_false e; (first | lia | omega)
        walk_at "w"
        refine ⟨fun e2 => ?_, fun e2 => ?_⟩
        · have hz : lenD (.int n) = false := by
            show (decide (0 ≤ n) && decide (n ≤ 300)) = false
            rw [decide_eq_false (show ¬ n ≤ 300 by have := of_decide_eq_true e2; (first | lia | omega)), Bool.and_false]
          walk_at "w"
          walk_at "ss"
          intro tz htz
          generalize hUtz : upd G tz _ = G2
          have sG2 := Same.of_eq htz hUtz
          have etz := at_of_eq hUtz
          clear hUtz
          walk_at "w"
          exact bad hz _ _ sG2 (.tup etz (.cons (.str _) .nil))
        have hz : lenD (.int n) = true := by
          show (decide (0 ≤ n) && decide (n ≤ 300)) = true
          rw [decide_eq_true h0, decide_eq_true (show n ≤ 300 by have := of_decide_eq_false e2; (first | lia | omega))]; rfl
        exact ⟨rfl, (good hz).1, (good hz).2, _, _, _, rfl⟩
      · cases hd
        have hz : lenD (.bool b) = false := rfl
        walk_at "w"
        refine ⟨_, _, _, _, true, rfl, rfl, TyOf.bl _, rfl, ?_⟩
        walk_at "w"
        refine ⟨by walk_at "no", fun _ => ?_⟩
        walk_at "w"
        refine ⟨_, _, _, _, true, rfl, rfl, TyOf.bl _, rfl, ?_⟩
        walk_at "w"
        refine ⟨fun _ => ⟨fun _ => ?_, by walk_at "no"⟩, by walk_at "no"⟩
        walk_at "w"
        walk_at "ss"
        intro tz htz
        generalize hUtz : upd G tz _ = G2
        have sG2 := Same.of_eq htz hUtz
        have etz := at_of_eq hUtz
        clear hUtz
        walk_at "w"
        exact bad hz _ _ sG2 (.tup etz (.cons (.str _) .nil))
      · cases hd
        have hz : lenD .none = false := rfl
        walk_at "w"
        refine ⟨_, _, _, _, false, rfl, rfl, TyOf.non, rfl, ?_⟩
        walk_at "w"
        refine ⟨fun _ => ⟨fun _ => ?_, by walk_at "no"⟩, by walk_at "no"⟩
        walk_at "w"
        walk_at "ss"
        intro tz htz
        generalize hUtz : upd G tz _ = G2
        have sG2 := Same.of_eq htz hUtz
        have etz := at_of_eq hUtz
        clear hUtz
        walk_at "w"
        exact bad hz _ _ sG2 (.tup etz (.cons (.str _) .nil))
      · cases hd
        have hz : lenD (.str "1") = false := rfl
        walk_at "w"
        refine ⟨_, _, _, _, false, rfl, rfl, TyOf.str _, rfl, ?_⟩
        walk_at "w"
        refine ⟨fun _ => ⟨fun _ => ?_, by walk_at "no"⟩, by walk_at "no"⟩
        walk_at "w"
        walk_at "ss"
        intro tz htz
        generalize hUtz : upd G tz _ = G2
        have sG2 := Same.of_eq htz hUtz
        have etz := at_of_eq hUtz
        clear hUtz
        walk_at "w"
        exact bad hz _ _ sG2 (.tup etz (.cons (.str _) .nil))
    obtain ⟨rfl, hA, hB, x3, x4, x5, rfl⟩ := hP
    have e1 := hA (show 0 < 2 by decide)
    have e2 := hB (show 1 < 2 by decide)
    clear hA hB
    have hint : ∀ {d : PyData}, lenD d = true → ∃ i : Int, d = .int i ∧ 0 ≤ i ∧ i ≤ 300 := fun {d} h => by
      cases d with
      | int i => exact ⟨i, rfl, of_decide_eq_true (Bool.and_eq_true_iff.mp h).1, of_decide_eq_true (Bool.and_eq_true_iff.mp h).2⟩
      | _ => exact absurd h Bool.false_ne_true
    obtain ⟨old, rfl, ho0, ho3⟩ := hint e1
    obtain ⟨new, rfl, hn0, hn3⟩ := hint e2
    cases ho
    cases hn
    clear hlo hln
    walk_at "w"
    refine ⟨l, _, rfl, .inl (SqL.of (sH1.at hl)), ?_⟩
    walk_at "w"
    refine ⟨fun e3 => ?_, fun e3 => ?_⟩
    · have h3 : ¬ ds.length ≤ 300 := by have := of_decide_eq_true e3; (first | lia | omega)
      walk_at "w"
      walk_at "ss"
      intro tz htz
      generalize hUtz : upd G tz _ = G2
      have sG2 := Same.of_eq htz hUtz
      have etz := at_of_eq hUtz
      clear hUtz
      walk_at "w"
      refine q _ _ (sH1.trans sG2) ?_
      unfold faultD
      rw [e1, e2, decide_eq_false h3]
      exact .tup etz (.cons (.str _) .nil)
    have h3 : ds.length ≤ 300 := by have := of_decide_eq_false e3; (first | lia | omega)
    have q' : ∀ v H', Same H H' → FltAt H' v (faultN old new ds) → Q v H' := fun v H' s' f => q v H' s' (by
      unfold faultD; rw [e1, e2, decide_eq_true h3]; exact f)
    clear q e1 e2 e3
    walk_at "w"
    refine ⟨l, _, rfl, .inl (SqL.of (sH1.at hl)), ?_⟩
    walk_at "w"
    have er : rngN 0 (xs.length : Int) 1 = ds.length := by rw [rngN_one]; (first | lia | omega)
    rw [er]
    refine forAt_its (fun i σ G2 => Same H G2 ∧ (∀ j d, j < i → ds[j]? = some d → fitD old new d = true) ∧ ∃ x4 x5, σ = [some (.int old), some (.int new), some (.ref l), x3, x4, x5])
      ⟨sH1, fun j d hj => absurd hj (Nat.not_lt_zero _), _, _, rfl⟩ (fun i σ G2 hi hP => ?_) (fun σ G2 hP => ?_)
    · obtain ⟨s2, hfit, x4, x5, rfl⟩ := hP
      have hdi : ds[i]? = some ds[i] := List.getElem?_eq_getElem hi
      generalize ds[i] = d at hdi
      obtain ⟨x, hx1, hx2⟩ := hds.get hdi
      have hdm : d ∈ ds := List.mem_of_getElem? hdi
      have hgr := hg d hdm
      have htl := hgr.tell hm
      have ei : (0 + (i : Int) * 1) = (i : Int) := by (first | lia | omega)
      rw [ei]
      have wrong : fitD old new d = false → wrongF old new ds = some i := fun z => by
        unfold wrongF
        rw [List.findIdx?_eq_some_iff_getElem]
        refine ⟨hi, ?_, fun j hj => ?_⟩
        · rw [(List.getElem?_eq_some_iff.mp hdi).2, z]; rfl
        · have := hfit j _ hj (List.getElem?_eq_getElem (by (first | lia | omega)))
          rw [this]; decide
      have bad : fitD old new d = false → ∀ v H', Same H H' → Dv H' v (.tuple [.str "row", .int (i : Int)]) → Q v H' := fun z v H' s' f => q' v H' s' (by
        unfold faultN; rw [wrong z]; exact f)
      have good : fitD old new d = true → ∀ j d, j < i + 1 → ds[j]? = some d → fitD old new d = true := fun z j d' hj hd' => by
        by_cases e : j = i
        · rw [e, hdi] at hd'; cases hd'; exact z
        · exact hfit j d' (by (first | lia | omega)) hd'
      walk_at "w"
      refine ⟨l, _, _, x, rfl, rfl, SqL.of (s2.at hl), atI_nat hx1, ?_⟩
      walk_at "w"
      refine ⟨x, d, m, rfl, Dv.same s2 hx2, hgr, hm, fun G3 s3 => ?_⟩
      have sG3 : Same H G3 := s2.trans s3
      cases hrd : rowD d with
      | none =>
        have hz : fitD old new d = false := by unfold fitD; rw [hrd]
        walk_at "w"
        refine ⟨fun _ => ⟨fun _ => ?_, by walk_at "no"⟩, by walk_at "no"⟩
        walk_at "w"
        walk_at "ss"
        intro tz htz
        generalize hUtz : upd G3 tz _ = G4
        have sG4 := Same.of_eq htz hUtz
        have etz := at_of_eq hUtz
        clear hUtz
        walk_at "w"
        exact bad hz _ _ (sG3.trans sG4) (.tup etz (.cons (.str _) (.cons (.int _) .nil)))
      | some r =>
        obtain ⟨ed, hk⟩ := rowD_some htl hrd
        have hfe : fitD old new d = fitR old new r := by unfold fitD; rw [hrd]
        have hxr : Dv G3 x r.dat := by rw [← ed]; exact Dv.same sG3 hx2
        walk_at "w"
        refine ⟨by walk_at "no", fun _ => ?_⟩
        walk_at "w"
        refine ⟨x, r, rfl, hxr, ?_⟩
        walk_at "w"
        refine ⟨fun e => ⟨fun _ => ?_, by walk_at "no"⟩, fun e => ?_⟩
        · have hz : fitD old new d = false := by
            cases z : fitD old new d with
            | false => rfl
            | true => have := fit_end (hfe ▸ z); have := of_decide_eq_true e; (first | lia | omega)
          walk_at "w"
          walk_at "ss"
          intro tz htz
          generalize hUtz : upd G3 tz _ = G4
          have sG4 := Same.of_eq htz hUtz
          have etz := at_of_eq hUtz
          clear hUtz
          walk_at "w"
          exact bad hz _ _ (sG3.trans sG4) (.tup etz (.cons (.str _) (.cons (.int _) .nil)))
        have hend : endR r ≤ new := by have := of_decide_eq_false e; (first | lia | omega)
        obtain ⟨t, rfl, hT⟩ := Dv.tupAt (K := K) hxr
        cases r with
        | put to sg =>
          obtain ⟨u, h1, h2⟩ := hT
          have hz : fitD old new d = true := by rw [hfe]; exact decide_eq_true hend
          walk_at "w"
          refine ⟨t, _, _, .str "put", rfl, rfl, SqT.of h1, rfl, ?_⟩
          walk_at "w"
          exact ⟨by walk_at "no", fun _ => ⟨by walk_at "no", fun _ => ⟨sG3, good hz, _, _, rfl⟩⟩⟩
        | take to st c =>
          walk_at "w"
          refine ⟨t, _, _, .str "take", rfl, rfl, SqT.of hT, rfl, ?_⟩
          walk_at "w"
          refine ⟨fun _ => ?_, by walk_at "no"⟩
          walk_at "w"
          refine ⟨t, _, _, .int st, rfl, rfl, SqT.of hT, rfl, ?_⟩
          walk_at "w"
          refine ⟨t, _, _, .int c, rfl, rfl, SqT.of hT, rfl, ?_⟩
          walk_at "w"
          refine ⟨fun e4 => ?_, fun e4 => ?_⟩
          · have hz : fitD old new d = false := by
              rw [hfe]
              show (decide (st + c ≤ old) && decide (to + c ≤ new)) = false
              rw [decide_eq_false (show ¬ st + c ≤ old by have := of_decide_eq_true e4; (first | lia | omega))]; rfl
            walk_at "w"
            walk_at "ss"
            intro tz htz
            generalize hUtz : upd G3 tz _ = G4
            have sG4 := Same.of_eq htz hUtz
            have etz := at_of_eq hUtz
            clear hUtz
            walk_at "w"
            exact bad hz _ _ (sG3.trans sG4) (.tup etz (.cons (.str _) (.cons (.int _) .nil)))
          · have hz : fitD old new d = true := by
              rw [hfe]
              show (decide (st + c ≤ old) && decide (to + c ≤ new)) = true
              rw [decide_eq_true (show st + c ≤ old by have := of_decide_eq_false e4; (first | lia | omega))]
              exact decide_eq_true hend
            exact ⟨sG3, good hz, _, _, rfl⟩
    obtain ⟨s2, hfit, x4, x5, rfl⟩ := hP
    have hfit' : ∀ d ∈ ds, fitD old new d = true := fun d hdm => by
      obtain ⟨j, hj⟩ := List.mem_iff_getElem?.mp hdm
      exact hfit j d (List.getElem?_eq_some_iff.mp hj).1 hj
    have hw : wrongF old new ds = none := by
      unfold wrongF
      rw [List.findIdx?_eq_none_iff]
      intro d hdm
      rw [hfit' d hdm]; rfl
    have q2 : ∀ v H', Same H H' → FltAt H' v (faultR (ds.filterMap rowD) new.toNat) → Q v H' := fun v H' s' f => q' v H' s' (by unfold faultN; rw [hw]; exact f)
    clear q'
    have hback : (ds.filterMap rowD).map RowD.dat = ds := dat_back fun d hdm => by
      obtain ⟨r, er', ed', _⟩ := fitD_row ((hg d hdm).tell hm) (hfit' d hdm)
      exact ⟨r, er', ed'⟩
    have hrows : ∀ r ∈ ds.filterMap rowD, r.ok ∧ fitR old new r = true := fun r hrm => by
      obtain ⟨d, hdm, er'⟩ := List.mem_filterMap.mp hrm
      obtain ⟨r', er2, _, hk, hf⟩ := fitD_row ((hg d hdm).tell hm) (hfit' d hdm)
      rw [er'] at er2; cases er2
      exact ⟨hk, hf⟩
    walk_at "w"
    refine ⟨new.toNat, l, xs, ds.filterMap rowD, by rw [Int.toNat_of_nonneg hn0]; rfl, s2.at hl, by rw [hback]; exact Dvs.same s2 hds, ⟨Nat.le_trans (List.length_filterMap_le _ _) h3, fun r hrm => fit_lens (hrows r hrm).1 hn3 (hrows r hrm).2⟩, fun r hrm => ⟨(hrows r hrm).1, by rw [Int.toNat_of_nonneg hn0]; exact fit_end (hrows r hrm).2⟩, by (first | lia | omega), fun v H' s' f => q2 v H' (s2.trans s') f⟩
def sp_law (K : PySem.W.Frag) : Sp := fun vs H Q _ => ∃ (l : Addr) (ns : List Int), vs = [.ref l] ∧ SqL K H l (ns.map V.int) ∧ ns.length ≤ 63 ∧ ∀ H', Q (.bl true) H'
def fltD : Option (List PyData) → PyData
  | none => .none
  | some ps => .tuple ps
theorem FltAt.rp {G : Hp} {v : V} {o : Option (List PyData)} (h : FltAt G v o) : Rp K G v (fltD o) := by
  cases o with
  | none => cases (show v = .non from h); exact .non
  | some ps => exact Dv.rp h
theorem shp_of {ps : List PyData} (h1 : PyData.canLayAll0 ps = true) (h2 : PyData.depthAll ps ≤ 2) : SeqAt.shaped (.tuple ps) = true := by
  unfold SeqAt.shaped
  have e1 : PyData.canLay0 (.tuple ps) = true := by unfold PyData.canLay0; exact h1
  have e2 : PyData.depth (.tuple ps) ≤ 64 := by unfold PyData.depth; (first | lia | omega)
  rw [e1, decide_eq_true e2]; rfl
theorem shp1 {w : Str} (hw : PyData.strOk w = true) : SeqAt.shaped (.tuple [.str w]) = true := shp_of (by simp [PyData.canLayAll0, PyData.canLay0, hw]) (by simp [PyData.depthAll, PyData.depth])
theorem shp2 {w : Str} (hw : PyData.strOk w = true) (i : Int) : SeqAt.shaped (.tuple [.str w, .int i]) = true := shp_of (by simp [PyData.canLayAll0, hw, PyData.canLay0]) (by simp [PyData.depthAll, PyData.depth])
theorem shp3 {w : Str} (hw : PyData.strOk w = true) (i j : Int) : SeqAt.shaped (.tuple [.str w, .int i, .int j]) = true := shp_of (by simp [PyData.canLayAll0, hw, PyData.canLay0]) (by simp [PyData.depthAll, PyData.depth])
theorem non_shape : SeqAt.shaped .none = true := by decide +kernel
theorem kc_shape {w : Str} (hw : PyData.strOk w = true) (o : Option (Nat × Int)) : SeqAt.shaped (fltD (kcD w o)) = true := by
  cases o with
  | none => exact non_shape
  | some x => exact shp3 hw _ _
theorem faultR_shape (rs : List RowD) (n : Nat) : SeqAt.shaped (fltD (faultR rs n)) = true := by
  unfold faultR
  cases h1 : kcD "twice" (twiceF rs) with
  | some ps => rw [Option.some_or, ← h1]; exact kc_shape (by decide +kernel) _
  | none =>
    rw [Option.none_or]
    cases h2 : cD "lacks" (lacksF rs n) with
    | some ps =>
      rw [Option.some_or]
      cases h3 : lacksF rs n with
      | none => rw [h3] at h2; cases h2
      | some c => rw [h3] at h2; cases h2; exact shp2 (by decide +kernel) _
    | none => rw [Option.none_or]; exact kc_shape (by decide +kernel) _
theorem faultD_shape (dO dN : PyData) (ds : List PyData) : SeqAt.shaped (fltD (faultD dO dN ds)) = true := by
  unfold faultD
  split
  · split
    · unfold faultN
      split
      · exact shp2 (by decide +kernel) _
      · exact faultR_shape _ _
    · decide +kernel
  · exact shp1 (by decide +kernel)
theorem GRow.shape {m : Nat} {d : PyData} (h : GRow m d) : PyData.canLay0 d = true ∧ PyData.depth d ≤ 2 := by
  rcases h with ⟨to, st, c, rfl, _⟩ | ⟨to, sg, rfl, _⟩ | rfl | rfl
  · exact ⟨dat_can (.take to st c), dat_depth (.take to st c)⟩
  · exact ⟨dat_can (.put to sg), dat_depth (.put to sg)⟩
  · exact ⟨by decide +kernel, by decide +kernel⟩
  · exact ⟨by decide +kernel, by decide +kernel⟩
theorem grows_shape {m : Nat} : ∀ {ds : List PyData}, (∀ d ∈ ds, GRow m d) → PyData.canLayAll0 ds = true ∧ PyData.depthAll ds ≤ 2
  | [], _ => ⟨by simp [PyData.canLayAll0], by simp [PyData.depthAll]⟩
  | d :: r, h => by
    obtain ⟨h1, h2⟩ := grows_shape (ds := r) fun e he => h e (List.mem_cons_of_mem _ he)
    obtain ⟨h3, h4⟩ := (h d List.mem_cons_self).shape
    refine ⟨by simp only [PyData.canLayAll0, h1, h3, Bool.and_true], ?_⟩
    simp only [PyData.depthAll]
    (first | lia | omega)
theorem grows_list {m : Nat} {ds : List PyData} (h : ∀ d ∈ ds, GRow m d) : SeqAt.shaped (.list ds) = true := by
  obtain ⟨h1, h2⟩ := grows_shape h
  unfold SeqAt.shaped
  have e1 : PyData.canLay0 (.list ds) = true := by unfold PyData.canLay0; exact h1
  have e2 : PyData.depth (.list ds) ≤ 64 := by unfold PyData.depth; (first | lia | omega)
  rw [e1, decide_eq_true e2]; rfl
theorem ok_law (T : Txt K mg a) : FnOk P w K mg base CX0 9 a.f_law a.d_law ["_law_script"] (sp_law K) := by
  refine T.F_law.ok sc_law (fun vs H Q E h => ?_) (fun cdv A outer s H vs Q E hr h => ?_)
  · obtain ⟨l, ns, rfl, _⟩ := h; rfl
  · obtain ⟨l, ns, rfl, hl, hns, q⟩ := h
    have nd := sc_law.nd
    refine ⟨_, (pss_cons (ps_set (i := 1) nd rfl (Or.inl rfl) (pe_ix (ix_listK (K := K) rfl) (pe_lst (pa_cons pe_int (pa_cons pe_int pa_nil))) (pe_callTy call_int1 (by rfl) T.n_int bt_int (pa_cons (ce_cmp o_eqI (pe_op o_mod (pe_op o_fdiv (pe_call (ok_cell_at (P := P) (w := w) (K := K) (mg := mg) (base := base) T) (hr.mono (by decide)) (by rfl) T.m_cell_at T.F_cell_at.kp T.b_cell_at .nil pass0 (pa_cons (cv 0) (pa_cons pe_int pa_nil))) pe_int) pe_int) pe_int) pa_nil)) (fun _ _ => rfl)))
    (pss_cons (ps_set (i := 2) nd rfl (Or.inl rfl) (pe_op o_mod (pe_call (ok_cell_at (P := P) (w := w) (K := K) (mg := mg) (base := base) T) (hr.mono (by decide)) (by rfl) T.m_cell_at T.F_cell_at.kp T.b_cell_at .nil pass0 (pa_cons (cv 0) (pa_cons pe_int pa_nil))) (cv 1)))
    (pss_cons (ps_set (i := 3) nd rfl (Or.inl rfl) (pe_op o_mod (pe_call (ok_cell_at (P := P) (w := w) (K := K) (mg := mg) (base := base) T) (hr.mono (by decide)) (by rfl) T.m_cell_at T.F_cell_at.kp T.b_cell_at .nil pass0 (pa_cons (cv 0) (pa_cons pe_int pa_nil))) (cv 1)))
    (pss_cons (ps_set (i := 4) nd rfl (Or.inl rfl) (pe_call (ok_rows (P := P) (w := w) (K := K) (mg := mg) (base := base) T) (hr.mono (by decide)) (by rfl) T.m_rows T.F_rows.kp T.b_rows .nil pass0 (pa_cons (cv 2) (pa_cons (cv 3) (pa_cons (pe_call (ok_cell_at (P := P) (w := w) (K := K) (mg := mg) (base := base) T) (hr.mono (by decide)) (by rfl) T.m_cell_at T.F_cell_at.kp T.b_cell_at .nil pass0 (pa_cons (cv 0) (pa_cons pe_int pa_nil))) pa_nil)))))
    (pss_cons (cs_for PassesOwn.never rfl (ci_range1 (by rfl) T.n_range (pa_cons (pe_op o_mod (pe_call (ok_cell_at (P := P) (w := w) (K := K) (mg := mg) (base := base) T) (hr.mono (by decide)) (by rfl) T.m_cell_at T.F_cell_at.kp T.b_cell_at .nil pass0 (pa_cons (cv 0) (pa_cons pe_int pa_nil))) pe_int) pa_nil)) (pg_name (i := 5) nd rfl (Or.inl rfl)) (pss_one (cs_if (PW.pt (cw_and (ct_cmp (dneK (K := K) rfl hr.units) (cv 4) (pe_lst pa_nil)) (pw_and1 (ct_cmp o_lt (pe_callB (lenqK (K := K) rfl) (by rfl) T.n_len bt_len (pa_cons (cv 4) pa_nil)) pe_int)))) (pss_one (ps_set (i := 4) nd rfl (Or.inl rfl) (pe_call (ok_changed (P := P) (w := w) (K := K) (mg := mg) (base := base) T) (hr.mono (by decide)) (by rfl) T.m_changed T.F_changed.kp T.b_changed .nil pass0 (pa_cons (cv 4) (pa_cons (pe_call (ok_mixed (P := P) (w := w) (K := K) (mg := mg) (base := base) T) (hr.mono (by decide)) (by rfl) T.m_mixed T.F_mixed.kp T.b_mixed .nil pass0 (pa_cons (pe_call (ok_cell_at (P := P) (w := w) (K := K) (mg := mg) (base := base) T) (hr.mono (by decide)) (by rfl) T.m_cell_at T.F_cell_at.kp T.b_cell_at .nil pass0 (pa_cons (cv 0) (pa_cons (pe_op o_add pe_int (cv 5)) pa_nil))) (pa_cons (cv 5) pa_nil))) pa_nil))))) pss_nil)))
    (pss_cons (ps_set (i := 2) nd rfl (Or.inl rfl) (pe_call (ok_length (P := P) (w := w) (K := K) (mg := mg) (base := base) T) (hr.mono (by decide)) (by rfl) T.m_length T.F_length.kp T.b_length .nil pass0 (pa_cons (cv 2) (pa_cons (pe_call (ok_cell_at (P := P) (w := w) (K := K) (mg := mg) (base := base) T) (hr.mono (by decide)) (by rfl) T.m_cell_at T.F_cell_at.kp T.b_cell_at .nil pass0 (pa_cons (cv 0) (pa_cons pe_int pa_nil))) pa_nil))))
    (pss_cons (ps_set (i := 3) nd rfl (Or.inl rfl) (pe_call (ok_length (P := P) (w := w) (K := K) (mg := mg) (base := base) T) (hr.mono (by decide)) (by rfl) T.m_length T.F_length.kp T.b_length .nil pass0 (pa_cons (cv 3) (pa_cons (pe_call (ok_cell_at (P := P) (w := w) (K := K) (mg := mg) (base := base) T) (hr.mono (by decide)) (by rfl) T.m_cell_at T.F_cell_at.kp T.b_cell_at .nil pass0 (pa_cons (cv 0) (pa_cons pe_int pa_nil))) pa_nil))))
    (pss_cons (ps_set (i := 6) nd rfl (Or.inl rfl) (pe_call (ok_first (P := P) (w := w) (K := K) (mg := mg) (base := base) T) (hr.mono (by decide)) (by rfl) T.m_first T.F_first.kp T.b_first .nil pass0 (pa_cons (cv 2) (pa_cons (cv 3) (pa_cons (cv 4) pa_nil)))))
    (pss_cons (ps_set (i := 7) nd rfl (Or.inl rfl) (pe_call (ok_judge (P := P) (w := w) (K := K) (mg := mg) (base := base) T) (hr.mono (by decide)) (by rfl) T.m_judge T.F_judge.kp T.b_judge .nil pass0 (pa_cons (pe_tup (pa_cons (cv 2) (pa_cons (cv 3) (pa_cons (pe_callTy (tuple_ofK (K := K) rfl) (by rfl) T.n_tuple bt_tuple (pa_cons (cv 4) pa_nil)) pa_nil)))) pa_nil)))
    (pss_cons (cs_if (PW.pt (cw_or (ct_cmp (dneK (K := K) rfl hr.units) (cv 7) (cv 6)) (pw_or1 (PW.pt (cw_and (ct_notN (cv 7)) (pw_and1 (pt_not (ct_val (pe_callB (isiK (K := K) rfl) (by rfl) T.n_isinstance bt_isinstance (pa_cons (cv 7) (pa_cons (pe_bltn (v := .ty "tuple") (by rfl) T.n_tuple bt_tuple rfl) pa_nil))))))))))) (pss_one (ps_ret pe_bl)) pss_nil)
    (pss_one (ps_ret (ce_and (ce_cmp (deqK (K := K) rfl hr.units) (pe_call (ok_judge (P := P) (w := w) (K := K) (mg := mg) (base := base) T) (hr.mono (by decide)) (by rfl) T.m_judge T.F_judge.kp T.b_judge .nil pass0 (pa_cons (pe_tup (pa_cons (cv 2) (pa_cons (cv 3) (pa_cons (pe_callTy (tuple_ofK (K := K) rfl) (by rfl) T.n_tuple bt_tuple (pa_cons (pe_callTy (list_ofK (K := K) rfl) (by rfl) T.n_list bt_list (pa_cons (cv 4) pa_nil)) pa_nil)) pa_nil)))) pa_nil)) (cv 6)) (pe_one (ce_isN (pe_call (ok_judge (P := P) (w := w) (K := K) (mg := mg) (base := base) T) (hr.mono (by decide)) (by rfl) T.m_judge T.F_judge.kp T.b_judge .nil pass0 (pa_cons (pe_tup (pa_cons pe_int (pa_cons pe_int (pa_cons (pe_tup pa_nil) pa_nil)))) pa_nil))))))))))))))))), ?_⟩
    walk_at "w"
    walk_at "ss"
    intro p0 hp0
    generalize hUp0 : upd H p0 _ = H0
    have sH0 := Same.of_eq hp0 hUp0
    have ep0 := at_of_eq hUp0
    clear hUp0
    walk_at "w"
    refine ⟨l, ns, 3, rfl, sH0.seq hl, by decide, ?_⟩
    walk_at "w"
    walk_at "ss"
    obtain ⟨top, htop, ht1, ht2⟩ : ∃ top : Int, atI [V.int 41, V.int 301] (if decide (cellAt ns 3 / 4 % 16 = 5) = true then (1 : Int) else 0) = some (.int top) ∧ 0 < top ∧ top ≤ 301 := by
      cases decide (cellAt ns 3 / 4 % 16 = 5) with
      | true => exact ⟨301, rfl, by decide, by decide⟩
      | false => exact ⟨41, rfl, by decide, by decide⟩
    refine .inr ⟨_, rfl, ?_⟩
    walk_at "w"
    refine ⟨p0, _, _, .int top, rfl, rfl, SqL.of ep0, htop, ?_⟩
    walk_at "w"
    refine ⟨l, ns, 0, rfl, sH0.seq hl, by decide, ?_⟩
    walk_at "w"
    refine And.intro ht1 ?_
    walk_at "w"
    refine ⟨l, ns, 1, rfl, sH0.seq hl, by decide, ?_⟩
    walk_at "w"
    refine And.intro ht1 ?_
    walk_at "w"
    refine ⟨l, ns, 2, rfl, sH0.seq hl, by decide, ?_⟩
    walk_at "w"
    have bo := Int.emod_nonneg (cellAt ns 0) (show top ≠ 0 by (first | lia | omega))
    have bn := Int.emod_nonneg (cellAt ns 1) (show top ≠ 0 by (first | lia | omega))
    have bn2 := Int.emod_lt_of_pos (cellAt ns 1) ht1
    refine ⟨_, _, _, rfl, bo, bn, by (first | lia | omega), fun rl xs H2 s2 e2 hx hxl => ?_⟩
    have sA : Same H H2 := sH0.trans s2
    walk_at "w"
    refine ⟨l, ns, 3, rfl, sA.seq hl, by decide, ?_⟩
    walk_at "w"
    walk_at "ss"
    have c3 : 0 ≤ cellAt ns 3 % 4 ∧ cellAt ns 3 % 4 < 4 := ⟨Int.emod_nonneg _ (by decide), Int.emod_lt_of_pos _ (by decide)⟩
    generalize hn : rngN 0 _ 1 = n
    have hn4 : n ≤ 3 := by
      have e : rngN 0 (cellAt ns 3 % 4) 1 = n := hn
      rw [rngN_one] at e; (first | lia | omega)
    clear hn c3
    refine forAt_its (fun i σ G => Same H G ∧ ∃ (rl : Addr) (xs : List V) (x5 : Option V), σ = [some (.ref l), some (.int top), some (.int (cellAt ns 0 % top)), some (.int (cellAt ns 1 % top)), some (.ref rl), x5, none, none] ∧ G rl = some (.lst xs) ∧ (∀ x ∈ xs, GX (4 + i) G x) ∧ xs.length ≤ 90300)
      ⟨sA, rl, xs, _, rfl, e2, hx, by (first | lia | omega)⟩ (fun i σ G hi hP => ?_) (fun σ G hP => ?_)
    · clear sA s2 e2 hx hxl rl xs
      obtain ⟨sG, rl, xs, x5, rfl, erl, hx, hxl⟩ := hP
      obtain ⟨ds, hds, hgr⟩ := GX.all hx
      walk_at "w"
      walk_at "ss"
      intro p1 hp1
      generalize hUp1 : upd G p1 _ = G1
      have sG1 := Same.of_eq hp1 hUp1
      have ep1 := at_of_eq hUp1
      clear hUp1
      walk_at "w"
      have sG1' : Same H G1 := sG.trans sG1
      refine ⟨.list ds, .list [], .lst (SqL.of (sG1.at erl)) (Dvs.rp (Dvs.same sG1 hds)), .lst (SqL.of ep1) .nil, grows_list hgr, by decide +kernel, ?_⟩
      cases hds with
      | nil =>
        walk_at "w"
        exact ⟨by walk_at "no", fun _ => ⟨by walk_at "no", fun _ => ⟨sG1', rl, [], _, rfl, sG1.at erl, (fun _ z => by cases z), by simp⟩⟩⟩
      | cons hd hds =>
        rename_i x d xs ds
        walk_at "w"
        refine ⟨fun _ => ?_, by walk_at "no"⟩
        walk_at "w"
        refine ⟨rl, _, rfl, .inl (SqL.of (sG1.at erl)), ?_⟩
        walk_at "w"
        refine ⟨fun e => ?_, fun e => ⟨sG1', rl, _, _, rfl, sG1.at erl, fun y hy => ((hx y hy).same sG1).mono (by (first | lia | omega)), hxl⟩⟩
        have hlt : (x :: xs).length < 300 := by have := of_decide_eq_true e; (first | lia | omega)
        walk_at "w"
        refine ⟨l, ns, _, rfl, sG1'.seq hl, by (first | lia | omega), ?_⟩
        walk_at "w"
        refine ⟨_, _, rfl, ?_⟩
        walk_at "w"
        refine ⟨rl, x :: xs, _, 4 + i, rfl, sG1.at erl, fun y hy => (hx y hy).same sG1, List.cons_ne_nil _ _, hlt, by (first | lia | omega), by (first | lia | omega), fun l' xs' G2 s2 e2 hx2 hxl2 => ?_⟩
        exact ⟨sG1'.trans s2, l', xs', _, rfl, e2, hx2, hxl2⟩
    clear sA s2 e2 hx hxl rl xs
    obtain ⟨sG, rl, xs, x5, rfl, erl, hx, hxl⟩ := hP
    obtain ⟨ds, hds, hgr⟩ := GX.all hx
    clear hx
    walk_at "w"
    refine ⟨l, ns, 7, rfl, sG.seq hl, by decide, ?_⟩
    walk_at "w"
    refine ⟨_, _, rfl, fun vo dO G1 s1 ho hlo => ?_⟩
    walk_at "w"
    refine ⟨l, ns, 8, rfl, (sG.trans s1).seq hl, by decide, ?_⟩
    walk_at "w"
    refine ⟨_, _, rfl, fun vn dN G2 s2 hn hln => ?_⟩
    have ho := Dv.same s2 ho
    have s12 : Same G G2 := s1.trans s2
    clear s1
    have hds := Dvs.same s12 hds
    have erl := s12.at erl
    have sG2 : Same H G2 := sG.trans s12
    clear s12 s2 sG
    walk_at "w"
    refine ⟨vo, vn, dO, dN, rl, xs, ds, 4 + n, rfl, ho, hlo, hn, hln, erl, hds, hgr, by (first | lia | omega), by (first | lia | omega), fun due G3 s3 f3 => ?_⟩
    walk_at "w"
    refine ⟨rl, _, rfl, .inl ⟨SqL.of (s3.at erl), ?_⟩⟩
    intro tt htt
    generalize hUtt : upd G3 tt _ = G4
    have sG4 := Same.of_eq htt hUtt
    have ett := at_of_eq hUtt
    clear hUtt
    walk_at "w"
    walk_at "ss"
    intro pp hpp
    generalize hUpp : upd G4 pp _ = G5
    have sG5 := Same.of_eq hpp hUpp
    have epp := at_of_eq hUpp
    clear hUpp
    walk_at "w"
    have s25 : Same G2 G5 := s3.trans (sG4.trans sG5)
    have htell : ∀ d ∈ ds, TellOk d := fun d hdm => (hgr d hdm).tell (by (first | lia | omega))
    refine ⟨pp, tt, vo, vn, dO, dN, xs, ds, rfl, epp, Dv.same s25 ho, Dv.same s25 hn, sG5.at ett, Dvs.same s25 hds, htell, fun got G6 s6 f6 => ?_⟩
    have f36 := f3.same (sG4.trans (sG5.trans s6))
    walk_at "w"
    refine deq_same (FltAt.rp f6) (FltAt.rp f36) (faultD_shape _ _ _) ?_
    have hgot : got = .non ∨ ∃ p ys, got = .ref p ∧ G6 p = some (.tup ys) := by
      cases hfo : faultD dO dN ds with
      | none => rw [hfo] at f6; exact .inl f6
      | some ps =>
        rw [hfo] at f6
        cases (show Dv G6 got (.tuple ps) from f6) with
        | tup e r => exact .inr ⟨_, _, rfl, e⟩
    walk_at "w"
    refine ⟨by walk_at "no", fun _ => ?_⟩
    rcases hgot with rfl | ⟨pg, yg, rfl, hpg⟩
    · walk_at "w"
      refine ⟨by walk_at "no", fun _ => ?_⟩
      walk_at "w"
      refine ⟨by walk_at "no", fun _ => ?_⟩
      walk_at "w"
      refine ⟨rl, _, rfl, .inl (SqL.of ((s25.trans s6).at erl)), ?_⟩
      intro l2 hl2
      generalize hUl2 : upd G6 l2 _ = G7
      have sG7 := Same.of_eq hl2 hUl2
      have el2 := at_of_eq hUl2
      clear hUl2
      walk_at "w"
      refine ⟨l2, _, rfl, .inl ⟨SqL.of el2, ?_⟩⟩
      intro t2 ht2
      generalize hUt2 : upd G7 t2 _ = G8
      have sG8 := Same.of_eq ht2 hUt2
      have et2 := at_of_eq hUt2
      clear hUt2
      walk_at "w"
      walk_at "ss"
      intro p2 hp2
      generalize hUp2 : upd G8 p2 _ = G9
      have sG9 := Same.of_eq hp2 hUp2
      have ep2 := at_of_eq hUp2
      clear hUp2
      walk_at "w"
      have s29 : Same G2 G9 := s25.trans (s6.trans (sG7.trans (sG8.trans sG9)))
      refine ⟨p2, t2, vo, vn, dO, dN, xs, ds, rfl, ep2, Dv.same s29 ho, Dv.same s29 hn, sG9.at et2, Dvs.same s29 hds, htell, fun got2 G10 s10 f10 => ?_⟩
      walk_at "w"
      refine deq_same (f := fun b => b) (FltAt.rp f10) (FltAt.rp (f36.same (sG7.trans (sG8.trans (sG9.trans s10))))) (faultD_shape _ _ _) ?_
      walk_at "w"
      refine ⟨fun _ => ?_, by walk_at "no"⟩
      walk_at "w"
      walk_at "ss"
      intro t3 ht3
      generalize hUt3 : upd G10 t3 _ = G11
      have sG11 := Same.of_eq ht3 hUt3
      have et3 := at_of_eq hUt3
      clear hUt3
      walk_at "w"
      walk_at "ss"
      intro p3 hp3
      generalize hUp3 : upd G11 p3 _ = G12
      have sG12 := Same.of_eq hp3 hUp3
      have ep3 := at_of_eq hUp3
      clear hUp3
      walk_at "w"
      refine ⟨p3, t3, .int 0, .int 0, .int 0, .int 0, [], [], rfl, ep3, .int 0, .int 0, sG12.at et3, .nil, (fun _ z => by cases z), fun v G13 s13 f13 => ?_⟩
      have ez : faultD (.int 0) (.int 0) [] = none := by rfl
      rw [ez] at f13
      cases (show v = .non from f13)
      exact q _
    · walk_at "w"
      refine ⟨fun _ => ?_, by walk_at "no"⟩
      walk_at "w"
      refine ⟨_, _, _, _, true, rfl, rfl, TyOf.tup hpg, rfl, ?_⟩
      walk_at "w"
      refine ⟨by walk_at "no", fun _ => ?_⟩
      walk_at "w"
      refine ⟨rl, _, rfl, .inl (SqL.of ((s25.trans s6).at erl)), ?_⟩
      intro l2 hl2
      generalize hUl2 : upd G6 l2 _ = G7
      have sG7 := Same.of_eq hl2 hUl2
      have el2 := at_of_eq hUl2
      clear hUl2
      walk_at "w"
      refine ⟨l2, _, rfl, .inl ⟨SqL.of el2, ?_⟩⟩
      intro t2 ht2
      generalize hUt2 : upd G7 t2 _ = G8
      have sG8 := Same.of_eq ht2 hUt2
      have et2 := at_of_eq hUt2
      clear hUt2
      walk_at "w"
      walk_at "ss"
      intro p2 hp2
      generalize hUp2 : upd G8 p2 _ = G9
      have sG9 := Same.of_eq hp2 hUp2
      have ep2 := at_of_eq hUp2
      clear hUp2
      walk_at "w"
      have s29 : Same G2 G9 := s25.trans (s6.trans (sG7.trans (sG8.trans sG9)))
      refine ⟨p2, t2, vo, vn, dO, dN, xs, ds, rfl, ep2, Dv.same s29 ho, Dv.same s29 hn, sG9.at et2, Dvs.same s29 hds, htell, fun got2 G10 s10 f10 => ?_⟩
      walk_at "w"
      refine deq_same (f := fun b => b) (FltAt.rp f10) (FltAt.rp (f36.same (sG7.trans (sG8.trans (sG9.trans s10))))) (faultD_shape _ _ _) ?_
      walk_at "w"
      refine ⟨fun _ => ?_, by walk_at "no"⟩
      walk_at "w"
      walk_at "ss"
      intro t3 ht3
      generalize hUt3 : upd G10 t3 _ = G11
      have sG11 := Same.of_eq ht3 hUt3
      have et3 := at_of_eq hUt3
      clear hUt3
      walk_at "w"
      walk_at "ss"
      intro p3 hp3
      generalize hUp3 : upd G11 p3 _ = G12
      have sG12 := Same.of_eq hp3 hUp3
      have ep3 := at_of_eq hUp3
      clear hUp3
      walk_at "w"
      refine ⟨p3, t3, .int 0, .int 0, .int 0, .int 0, [], [], rfl, ep3, .int 0, .int 0, sG12.at et3, .nil, (fun _ z => by cases z), fun v G13 s13 f13 => ?_⟩
      have ez : faultD (.int 0) (.int 0) [] = none := by rfl
      rw [ez] at f13
      cases (show v = .non from f13)
      exact q _
end
theorem bn_Row_init (kV doc pm : Value) (an : Option Addr) (cdv ct : Value) (us : List Value) (hl : us.length = 2) : bindArgs (PySem.W.fnOf "__init__" "Row.__init__" (defArgs s_Row_init) (defBody s_Row_init) (defScope s_Row_init) .none kV doc pm an cdv ct) ⟨us, []⟩ = pure ((["self", "to"] : List Str).zip us) := match us, hl with | [_, _], _ => rfl
theorem bn_Row_covers (kV doc pm : Value) (an : Option Addr) (cdv ct : Value) (us : List Value) (hl : us.length = 1) : bindArgs (PySem.W.fnOf "covers" "Row.covers" (defArgs s_Row_covers) (defBody s_Row_covers) (defScope s_Row_covers) .none kV doc pm an cdv ct) ⟨us, []⟩ = pure ((["self"] : List Str).zip us) := match us, hl with | [_], _ => rfl
theorem bn_Row_covered (kV doc pm : Value) (an : Option Addr) (cdv ct : Value) (us : List Value) (hl : us.length = 1) : bindArgs (PySem.W.fnOf "covered" "Row.covered" (defArgs s_Row_covered) (defBody s_Row_covered) (defScope s_Row_covered) .none kV doc pm an cdv ct) ⟨us, []⟩ = pure ((["self"] : List Str).zip us) := match us, hl with | [_], _ => rfl
theorem bn_Take_init (kV doc pm : Value) (an : Option Addr) (cdv ct : Value) (us : List Value) (hl : us.length = 4) : bindArgs (PySem.W.fnOf "__init__" "Take.__init__" (defArgs s_Take_init) (defBody s_Take_init) (defScope s_Take_init) .none kV doc pm an cdv ct) ⟨us, []⟩ = pure ((["self", "to", "start", "count"] : List Str).zip us) := match us, hl with | [_, _, _, _], _ => rfl
theorem bn_Take_stays (kV doc pm : Value) (an : Option Addr) (cdv ct : Value) (us : List Value) (hl : us.length = 1) : bindArgs (PySem.W.fnOf "stays" "Take.stays" (defArgs s_Take_stays) (defBody s_Take_stays) (defScope s_Take_stays) .none kV doc pm an cdv ct) ⟨us, []⟩ = pure ((["self"] : List Str).zip us) := match us, hl with | [_], _ => rfl
theorem bn_Take_reads (kV doc pm : Value) (an : Option Addr) (cdv ct : Value) (us : List Value) (hl : us.length = 1) : bindArgs (PySem.W.fnOf "reads" "Take.reads" (defArgs s_Take_reads) (defBody s_Take_reads) (defScope s_Take_reads) .none kV doc pm an cdv ct) ⟨us, []⟩ = pure ((["self"] : List Str).zip us) := match us, hl with | [_], _ => rfl
theorem bn_Take_writes (kV doc pm : Value) (an : Option Addr) (cdv ct : Value) (us : List Value) (hl : us.length = 1) : bindArgs (PySem.W.fnOf "writes" "Take.writes" (defArgs s_Take_writes) (defBody s_Take_writes) (defScope s_Take_writes) .none kV doc pm an cdv ct) ⟨us, []⟩ = pure ((["self"] : List Str).zip us) := match us, hl with | [_], _ => rfl
theorem bn_Take_told (kV doc pm : Value) (an : Option Addr) (cdv ct : Value) (us : List Value) (hl : us.length = 1) : bindArgs (PySem.W.fnOf "told" "Take.told" (defArgs s_Take_told) (defBody s_Take_told) (defScope s_Take_told) .none kV doc pm an cdv ct) ⟨us, []⟩ = pure ((["self"] : List Str).zip us) := match us, hl with | [_], _ => rfl
theorem bn_Put_init (kV doc pm : Value) (an : Option Addr) (cdv ct : Value) (us : List Value) (hl : us.length = 3) : bindArgs (PySem.W.fnOf "__init__" "Put.__init__" (defArgs s_Put_init) (defBody s_Put_init) (defScope s_Put_init) .none kV doc pm an cdv ct) ⟨us, []⟩ = pure ((["self", "to", "signs"] : List Str).zip us) := match us, hl with | [_, _, _], _ => rfl
theorem bn_Put_reads (kV doc pm : Value) (an : Option Addr) (cdv ct : Value) (us : List Value) (hl : us.length = 1) : bindArgs (PySem.W.fnOf "reads" "Put.reads" (defArgs s_Put_reads) (defBody s_Put_reads) (defScope s_Put_reads) .none kV doc pm an cdv ct) ⟨us, []⟩ = pure ((["self"] : List Str).zip us) := match us, hl with | [_], _ => rfl
theorem bn_Put_writes (kV doc pm : Value) (an : Option Addr) (cdv ct : Value) (us : List Value) (hl : us.length = 1) : bindArgs (PySem.W.fnOf "writes" "Put.writes" (defArgs s_Put_writes) (defBody s_Put_writes) (defScope s_Put_writes) .none kV doc pm an cdv ct) ⟨us, []⟩ = pure ((["self"] : List Str).zip us) := match us, hl with | [_], _ => rfl
theorem bn_Put_told (kV doc pm : Value) (an : Option Addr) (cdv ct : Value) (us : List Value) (hl : us.length = 1) : bindArgs (PySem.W.fnOf "told" "Put.told" (defArgs s_Put_told) (defBody s_Put_told) (defScope s_Put_told) .none kV doc pm an cdv ct) ⟨us, []⟩ = pure ((["self"] : List Str).zip us) := match us, hl with | [_], _ => rfl
theorem bn_row_of (kV doc pm : Value) (an : Option Addr) (cdv ct : Value) (us : List Value) (hl : us.length = 1) : bindArgs (PySem.W.fnOf "row_of" "row_of" (defArgs s_row_of) (defBody s_row_of) (defScope s_row_of) .none kV doc pm an cdv ct) ⟨us, []⟩ = pure ((["told"] : List Str).zip us) := match us, hl with | [_], _ => rfl
theorem bn_tells_take (kV doc pm : Value) (an : Option Addr) (cdv ct : Value) (us : List Value) (hl : us.length = 1) : bindArgs (PySem.W.fnOf "tells_take" "tells_take" (defArgs s_tells_take) (defBody s_tells_take) (defScope s_tells_take) .none kV doc pm an cdv ct) ⟨us, []⟩ = pure ((["told"] : List Str).zip us) := match us, hl with | [_], _ => rfl
theorem bn_tells_put (kV doc pm : Value) (an : Option Addr) (cdv ct : Value) (us : List Value) (hl : us.length = 1) : bindArgs (PySem.W.fnOf "tells_put" "tells_put" (defArgs s_tells_put) (defBody s_tells_put) (defScope s_tells_put) .none kV doc pm an cdv ct) ⟨us, []⟩ = pure ((["told"] : List Str).zip us) := match us, hl with | [_], _ => rfl
theorem bn_are_signs (kV doc pm : Value) (an : Option Addr) (cdv ct : Value) (us : List Value) (hl : us.length = 1) : bindArgs (PySem.W.fnOf "are_signs" "are_signs" (defArgs s_are_signs) (defBody s_are_signs) (defScope s_are_signs) .none kV doc pm an cdv ct) ⟨us, []⟩ = pure ((["signs"] : List Str).zip us) := match us, hl with | [_], _ => rfl
theorem bn_is_sign (kV doc pm : Value) (an : Option Addr) (cdv ct : Value) (us : List Value) (hl : us.length = 1) : bindArgs (PySem.W.fnOf "is_sign" "is_sign" (defArgs s_is_sign) (defBody s_is_sign) (defScope s_is_sign) .none kV doc pm an cdv ct) ⟨us, []⟩ = pure ((["value"] : List Str).zip us) := match us, hl with | [_], _ => rfl
theorem bn_is_whole_from (kV doc pm : Value) (an : Option Addr) (cdv ct : Value) (us : List Value) (hl : us.length = 2) : bindArgs (PySem.W.fnOf "is_whole_from" "is_whole_from" (defArgs s_is_whole_from) (defBody s_is_whole_from) (defScope s_is_whole_from) .none kV doc pm an cdv ct) ⟨us, []⟩ = pure ((["least", "value"] : List Str).zip us) := match us, hl with | [_, _], _ => rfl
theorem bn_is_whole (kV doc pm : Value) (an : Option Addr) (cdv ct : Value) (us : List Value) (hl : us.length = 1) : bindArgs (PySem.W.fnOf "is_whole" "is_whole" (defArgs s_is_whole) (defBody s_is_whole) (defScope s_is_whole) .none kV doc pm an cdv ct) ⟨us, []⟩ = pure ((["value"] : List Str).zip us) := match us, hl with | [_], _ => rfl
theorem bn_judge (kV doc pm : Value) (an : Option Addr) (cdv ct : Value) (us : List Value) (hl : us.length = 1) : bindArgs (PySem.W.fnOf "judge" "judge" (defArgs s_judge) (defBody s_judge) (defScope s_judge) .none kV doc pm an cdv ct) ⟨us, []⟩ = pure ((["paper"] : List Str).zip us) := match us, hl with | [_], _ => rfl
theorem bn_fits_in_size (kV doc pm : Value) (an : Option Addr) (cdv ct : Value) (us : List Value) (hl : us.length = 1) : bindArgs (PySem.W.fnOf "fits_in_size" "fits_in_size" (defArgs s_fits_in_size) (defBody s_fits_in_size) (defScope s_fits_in_size) .none kV doc pm an cdv ct) ⟨us, []⟩ = pure ((["paper"] : List Str).zip us) := match us, hl with | [_], _ => rfl
theorem bn_is_length (kV doc pm : Value) (an : Option Addr) (cdv ct : Value) (us : List Value) (hl : us.length = 1) : bindArgs (PySem.W.fnOf "is_length" "is_length" (defArgs s_is_length) (defBody s_is_length) (defScope s_is_length) .none kV doc pm an cdv ct) ⟨us, []⟩ = pure ((["value"] : List Str).zip us) := match us, hl with | [_], _ => rfl
theorem bn_first_wrong_row (kV doc pm : Value) (an : Option Addr) (cdv ct : Value) (us : List Value) (hl : us.length = 1) : bindArgs (PySem.W.fnOf "first_wrong_row" "first_wrong_row" (defArgs s_first_wrong_row) (defBody s_first_wrong_row) (defScope s_first_wrong_row) .none kV doc pm an cdv ct) ⟨us, []⟩ = pure ((["paper"] : List Str).zip us) := match us, hl with | [_], _ => rfl
theorem bn_is_fitting_row (kV doc pm : Value) (an : Option Addr) (cdv ct : Value) (us : List Value) (hl : us.length = 3) : bindArgs (PySem.W.fnOf "is_fitting_row" "is_fitting_row" (defArgs s_is_fitting_row) (defBody s_is_fitting_row) (defScope s_is_fitting_row) .none kV doc pm an cdv ct) ⟨us, []⟩ = pure ((["told", "old", "new"] : List Str).zip us) := match us, hl with | [_, _, _], _ => rfl
theorem bn_covered_twice (kV doc pm : Value) (an : Option Addr) (cdv ct : Value) (us : List Value) (hl : us.length = 1) : bindArgs (PySem.W.fnOf "covered_twice" "covered_twice" (defArgs s_covered_twice) (defBody s_covered_twice) (defScope s_covered_twice) .none kV doc pm an cdv ct) ⟨us, []⟩ = pure ((["rows"] : List Str).zip us) := match us, hl with | [_], _ => rfl
theorem bn_lacking (kV doc pm : Value) (an : Option Addr) (cdv ct : Value) (us : List Value) (hl : us.length = 2) : bindArgs (PySem.W.fnOf "lacking" "lacking" (defArgs s_lacking) (defBody s_lacking) (defScope s_lacking) .none kV doc pm an cdv ct) ⟨us, []⟩ = pure ((["rows", "new"] : List Str).zip us) := match us, hl with | [_, _], _ => rfl
theorem bn_read_late (kV doc pm : Value) (an : Option Addr) (cdv ct : Value) (us : List Value) (hl : us.length = 1) : bindArgs (PySem.W.fnOf "read_late" "read_late" (defArgs s_read_late) (defBody s_read_late) (defScope s_read_late) .none kV doc pm an cdv ct) ⟨us, []⟩ = pure ((["rows"] : List Str).zip us) := match us, hl with | [_], _ => rfl
theorem bn_cell_at (kV doc pm : Value) (an : Option Addr) (cdv ct : Value) (us : List Value) (hl : us.length = 2) : bindArgs (PySem.W.fnOf "_law_cell_at" "_law_cell_at" (defArgs s_cell_at) (defBody s_cell_at) (defScope s_cell_at) .none kV doc pm an cdv ct) ⟨us, []⟩ = pure ((["_law_script", "_law_k"] : List Str).zip us) := match us, hl with | [_, _], _ => rfl
theorem bn_mixed (kV doc pm : Value) (an : Option Addr) (cdv ct : Value) (us : List Value) (hl : us.length = 2) : bindArgs (PySem.W.fnOf "_law_mixed" "_law_mixed" (defArgs s_mixed) (defBody s_mixed) (defScope s_mixed) .none kV doc pm an cdv ct) ⟨us, []⟩ = pure ((["_law_cell", "_law_k"] : List Str).zip us) := match us, hl with | [_, _], _ => rfl
theorem bn_rows (kV doc pm : Value) (an : Option Addr) (cdv ct : Value) (us : List Value) (hl : us.length = 3) : bindArgs (PySem.W.fnOf "_law_rows" "_law_rows" (defArgs s_rows) (defBody s_rows) (defScope s_rows) .none kV doc pm an cdv ct) ⟨us, []⟩ = pure ((["_law_old", "_law_new", "_law_cell"] : List Str).zip us) := match us, hl with | [_, _, _], _ => rfl
theorem bn_other (kV doc pm : Value) (an : Option Addr) (cdv ct : Value) (us : List Value) (hl : us.length = 2) : bindArgs (PySem.W.fnOf "_law_other" "_law_other" (defArgs s_other) (defBody s_other) (defScope s_other) .none kV doc pm an cdv ct) ⟨us, []⟩ = pure ((["_law_row", "_law_draw"] : List Str).zip us) := match us, hl with | [_, _], _ => rfl
theorem bn_changed (kV doc pm : Value) (an : Option Addr) (cdv ct : Value) (us : List Value) (hl : us.length = 2) : bindArgs (PySem.W.fnOf "_law_changed" "_law_changed" (defArgs s_changed) (defBody s_changed) (defScope s_changed) .none kV doc pm an cdv ct) ⟨us, []⟩ = pure ((["_law_rows_here", "_law_draw"] : List Str).zip us) := match us, hl with | [_, _], _ => rfl
theorem bn_length (kV doc pm : Value) (an : Option Addr) (cdv ct : Value) (us : List Value) (hl : us.length = 2) : bindArgs (PySem.W.fnOf "_law_length" "_law_length" (defArgs s_length) (defBody s_length) (defScope s_length) .none kV doc pm an cdv ct) ⟨us, []⟩ = pure ((["_law_length_here", "_law_cell"] : List Str).zip us) := match us, hl with | [_, _], _ => rfl
theorem bn_is_row (kV doc pm : Value) (an : Option Addr) (cdv ct : Value) (us : List Value) (hl : us.length = 1) : bindArgs (PySem.W.fnOf "_law_is_row" "_law_is_row" (defArgs s_is_row) (defBody s_is_row) (defScope s_is_row) .none kV doc pm an cdv ct) ⟨us, []⟩ = pure ((["_law_row"] : List Str).zip us) := match us, hl with | [_], _ => rfl
theorem bn_end (kV doc pm : Value) (an : Option Addr) (cdv ct : Value) (us : List Value) (hl : us.length = 1) : bindArgs (PySem.W.fnOf "_law_end" "_law_end" (defArgs s_end) (defBody s_end) (defScope s_end) .none kV doc pm an cdv ct) ⟨us, []⟩ = pure ((["_law_row"] : List Str).zip us) := match us, hl with | [_], _ => rfl
theorem bn_first (kV doc pm : Value) (an : Option Addr) (cdv ct : Value) (us : List Value) (hl : us.length = 3) : bindArgs (PySem.W.fnOf "_law_first" "_law_first" (defArgs s_first) (defBody s_first) (defScope s_first) .none kV doc pm an cdv ct) ⟨us, []⟩ = pure ((["_law_old", "_law_new", "_law_rows_here"] : List Str).zip us) := match us, hl with | [_, _, _], _ => rfl
theorem bn_cells (kV doc pm : Value) (an : Option Addr) (cdv ct : Value) (us : List Value) (hl : us.length = 2) : bindArgs (PySem.W.fnOf "_law_cells" "_law_cells" (defArgs s_cells) (defBody s_cells) (defScope s_cells) .none kV doc pm an cdv ct) ⟨us, []⟩ = pure ((["_law_new", "_law_rows_here"] : List Str).zip us) := match us, hl with | [_, _], _ => rfl
theorem bn_stays (kV doc pm : Value) (an : Option Addr) (cdv ct : Value) (us : List Value) (hl : us.length = 1) : bindArgs (PySem.W.fnOf "_law_stays" "_law_stays" (defArgs s_stays) (defBody s_stays) (defScope s_stays) .none kV doc pm an cdv ct) ⟨us, []⟩ = pure ((["_law_row"] : List Str).zip us) := match us, hl with | [_], _ => rfl
theorem bn_law (kV doc pm : Value) (an : Option Addr) (cdv ct : Value) (us : List Value) (hl : us.length = 1) : bindArgs (PySem.W.fnOf "law" "law" (defArgs s_law) (defBody s_law) (defScope s_law) .none kV doc pm an cdv ct) ⟨us, []⟩ = pure ((["_law_script"] : List Str).zip us) := match us, hl with | [_], _ => rfl
theorem txt_mk {l : PySem.W.OpenLaw} {w : World} {K : PySem.W.Frag} {h : Heap} {mg : Str → Option Value} {fa : Addr} {f_Row_init f_Row_covers f_Row_covered f_Take_init f_Take_stays f_Take_reads f_Take_writes f_Take_told f_Put_init f_Put_reads f_Put_writes f_Put_told f_row_of f_tells_take f_tells_put f_are_signs f_is_sign f_is_whole_from f_is_whole f_judge f_fits_in_size f_is_length f_first_wrong_row f_is_fitting_row f_covered_twice f_lacking f_read_late f_cell_at f_mixed f_rows f_other f_changed f_length f_is_row f_end f_first f_cells f_stays f_law C_Row C_Take C_Put C_NoRow : Addr} {t_MOST : Tok} {od0 an0 od1 an1 od2 an2 od3 an3 od4 an4 od5 an5 od6 an6 od7 an7 od8 an8 od9 an9 od10 an10 od11 an11 od12 an12 od13 an13 od14 an14 od15 an15 od16 an16 od17 an17 od18 an18 od19 an19 od20 an20 od21 an21 od22 an22 od23 an23 od24 an24 od25 an25 od26 an26 od27 an27 od28 an28 od29 an29 od30 an30 od31 an31 od32 an32 od33 an33 od34 an34 od35 an35 od36 an36 od37 an37 od38 an38 : Option Addr} {sl0 sl1 sl2 sl3 sl4 sl5 sl6 sl7 sl8 sl9 sl10 sl11 sl12 sl13 sl14 sl15 sl16 sl17 sl18 sl19 sl20 sl21 sl22 sl23 sl24 sl25 sl26 sl27 sl28 sl29 sl30 sl31 sl32 sl33 sl34 sl35 sl36 sl37 sl38 : Array (Option Value)} {oc0 kV0 dc0 pm0 cd0 ct0 oc1 kV1 dc1 pm1 cd1 ct1 oc2 kV2 dc2 pm2 cd2 ct2 oc3 kV3 dc3 pm3 cd3 ct3 oc4 kV4 dc4 pm4 cd4 ct4 oc5 kV5 dc5 pm5 cd5 ct5 oc6 kV6 dc6 pm6 cd6 ct6 oc7 kV7 dc7 pm7 cd7 ct7 oc8 kV8 dc8 pm8 cd8 ct8 oc9 kV9 dc9 pm9 cd9 ct9 oc10 kV10 dc10 pm10 cd10 ct10 oc11 kV11 dc11 pm11 cd11 ct11 oc12 kV12 dc12 pm12 cd12 ct12 oc13 kV13 dc13 pm13 cd13 ct13 oc14 kV14 dc14 pm14 cd14 ct14 oc15 kV15 dc15 pm15 cd15 ct15 oc16 kV16 dc16 pm16 cd16 ct16 oc17 kV17 dc17 pm17 cd17 ct17 oc18 kV18 dc18 pm18 cd18 ct18 oc19 kV19 dc19 pm19 cd19 ct19 oc20 kV20 dc20 pm20 cd20 ct20 oc21 kV21 dc21 pm21 cd21 ct21 oc22 kV22 dc22 pm22 cd22 ct22 oc23 kV23 dc23 pm23 cd23 ct23 oc24 kV24 dc24 pm24 cd24 ct24 oc25 kV25 dc25 pm25 cd25 ct25 oc26 kV26 dc26 pm26 cd26 ct26 oc27 kV27 dc27 pm27 cd27 ct27 oc28 kV28 dc28 pm28 cd28 ct28 oc29 kV29 dc29 pm29 cd29 ct29 oc30 kV30 dc30 pm30 cd30 ct30 oc31 kV31 dc31 pm31 cd31 ct31 oc32 kV32 dc32 pm32 cd32 ct32 oc33 kV33 dc33 pm33 cd33 ct33 oc34 kV34 dc34 pm34 cd34 ct34 oc35 kV35 dc35 pm35 cd35 ct35 oc36 kV36 dc36 pm36 cd36 ct36 oc37 kV37 dc37 pm37 cd37 ct37 oc38 kV38 dc38 pm38 cd38 ct38 : Value} (X : K.In h) (G : h.Ns mainGlobals mg) (hfa : mg "law" = some (.ref fa))
    (aC_Row : PySem.W.nsIn K mainGlobals "Row" = some (some (.ref C_Row)))
    (aC_Take : PySem.W.nsIn K mainGlobals "Take" = some (some (.ref C_Take)))
    (aC_Put : PySem.W.nsIn K mainGlobals "Put" = some (some (.ref C_Put)))
    (aC_NoRow : PySem.W.nsIn K mainGlobals "NoRow" = some (some (.ref C_NoRow)))
    (x_NoRow : PySem.W.excIn K C_NoRow L2.mroV "ValueError.__new__" = true)
    (kc_NoRow_NoRow : PySem.W.kitCls K (.ref C_NoRow) (.ref C_NoRow) = some true)
    (xc_NoRow : PySem.W.mroIn K C_NoRow (.type "BaseException") = some true)
    (a_Row_init : PySem.W.findIn K (.ref C_Row) "__init__" = some (some (.ref f_Row_init)))
    (l_Row_init : K.lookup f_Row_init = some ⟨oc0, od0, .func (PySem.W.fnOf "__init__" "Row.__init__" (defArgs s_Row_init) (defBody s_Row_init) (defScope s_Row_init) .none kV0 dc0 pm0 an0 cd0 ct0), sl0⟩)
    (c_Row_init : PySem.W.codeIn K cd0 "Row.__init__" = true)
    (k_Row_init : PySem.W.keepIn K (.ref f_Row_init) = true)
    (a_Row_covers : PySem.W.findIn K (.ref C_Row) "covers" = some (some (.ref f_Row_covers)))
    (l_Row_covers : K.lookup f_Row_covers = some ⟨oc1, od1, .func (PySem.W.fnOf "covers" "Row.covers" (defArgs s_Row_covers) (defBody s_Row_covers) (defScope s_Row_covers) .none kV1 dc1 pm1 an1 cd1 ct1), sl1⟩)
    (c_Row_covers : PySem.W.codeIn K cd1 "Row.covers" = true)
    (k_Row_covers : PySem.W.keepIn K (.ref f_Row_covers) = true)
    (a_Row_covered : PySem.W.findIn K (.ref C_Row) "covered" = some (some (.ref f_Row_covered)))
    (l_Row_covered : K.lookup f_Row_covered = some ⟨oc2, od2, .func (PySem.W.fnOf "covered" "Row.covered" (defArgs s_Row_covered) (defBody s_Row_covered) (defScope s_Row_covered) .none kV2 dc2 pm2 an2 cd2 ct2), sl2⟩)
    (c_Row_covered : PySem.W.codeIn K cd2 "Row.covered" = true)
    (k_Row_covered : PySem.W.keepIn K (.ref f_Row_covered) = true)
    (a_Take_init : PySem.W.findIn K (.ref C_Take) "__init__" = some (some (.ref f_Take_init)))
    (l_Take_init : K.lookup f_Take_init = some ⟨oc3, od3, .func (PySem.W.fnOf "__init__" "Take.__init__" (defArgs s_Take_init) (defBody s_Take_init) (defScope s_Take_init) .none kV3 dc3 pm3 an3 cd3 ct3), sl3⟩)
    (c_Take_init : PySem.W.codeIn K cd3 "Take.__init__" = true)
    (k_Take_init : PySem.W.keepIn K (.ref f_Take_init) = true)
    (a_Take_stays : PySem.W.findIn K (.ref C_Take) "stays" = some (some (.ref f_Take_stays)))
    (l_Take_stays : K.lookup f_Take_stays = some ⟨oc4, od4, .func (PySem.W.fnOf "stays" "Take.stays" (defArgs s_Take_stays) (defBody s_Take_stays) (defScope s_Take_stays) .none kV4 dc4 pm4 an4 cd4 ct4), sl4⟩)
    (c_Take_stays : PySem.W.codeIn K cd4 "Take.stays" = true)
    (k_Take_stays : PySem.W.keepIn K (.ref f_Take_stays) = true)
    (a_Take_reads : PySem.W.findIn K (.ref C_Take) "reads" = some (some (.ref f_Take_reads)))
    (l_Take_reads : K.lookup f_Take_reads = some ⟨oc5, od5, .func (PySem.W.fnOf "reads" "Take.reads" (defArgs s_Take_reads) (defBody s_Take_reads) (defScope s_Take_reads) .none kV5 dc5 pm5 an5 cd5 ct5), sl5⟩)
    (c_Take_reads : PySem.W.codeIn K cd5 "Take.reads" = true)
    (k_Take_reads : PySem.W.keepIn K (.ref f_Take_reads) = true)
    (a_Take_writes : PySem.W.findIn K (.ref C_Take) "writes" = some (some (.ref f_Take_writes)))
    (l_Take_writes : K.lookup f_Take_writes = some ⟨oc6, od6, .func (PySem.W.fnOf "writes" "Take.writes" (defArgs s_Take_writes) (defBody s_Take_writes) (defScope s_Take_writes) .none kV6 dc6 pm6 an6 cd6 ct6), sl6⟩)
    (c_Take_writes : PySem.W.codeIn K cd6 "Take.writes" = true)
    (k_Take_writes : PySem.W.keepIn K (.ref f_Take_writes) = true)
    (a_Take_told : PySem.W.findIn K (.ref C_Take) "told" = some (some (.ref f_Take_told)))
    (l_Take_told : K.lookup f_Take_told = some ⟨oc7, od7, .func (PySem.W.fnOf "told" "Take.told" (defArgs s_Take_told) (defBody s_Take_told) (defScope s_Take_told) .none kV7 dc7 pm7 an7 cd7 ct7), sl7⟩)
    (c_Take_told : PySem.W.codeIn K cd7 "Take.told" = true)
    (k_Take_told : PySem.W.keepIn K (.ref f_Take_told) = true)
    (a_Put_init : PySem.W.findIn K (.ref C_Put) "__init__" = some (some (.ref f_Put_init)))
    (l_Put_init : K.lookup f_Put_init = some ⟨oc8, od8, .func (PySem.W.fnOf "__init__" "Put.__init__" (defArgs s_Put_init) (defBody s_Put_init) (defScope s_Put_init) .none kV8 dc8 pm8 an8 cd8 ct8), sl8⟩)
    (c_Put_init : PySem.W.codeIn K cd8 "Put.__init__" = true)
    (k_Put_init : PySem.W.keepIn K (.ref f_Put_init) = true)
    (a_Put_reads : PySem.W.findIn K (.ref C_Put) "reads" = some (some (.ref f_Put_reads)))
    (l_Put_reads : K.lookup f_Put_reads = some ⟨oc9, od9, .func (PySem.W.fnOf "reads" "Put.reads" (defArgs s_Put_reads) (defBody s_Put_reads) (defScope s_Put_reads) .none kV9 dc9 pm9 an9 cd9 ct9), sl9⟩)
    (c_Put_reads : PySem.W.codeIn K cd9 "Put.reads" = true)
    (k_Put_reads : PySem.W.keepIn K (.ref f_Put_reads) = true)
    (a_Put_writes : PySem.W.findIn K (.ref C_Put) "writes" = some (some (.ref f_Put_writes)))
    (l_Put_writes : K.lookup f_Put_writes = some ⟨oc10, od10, .func (PySem.W.fnOf "writes" "Put.writes" (defArgs s_Put_writes) (defBody s_Put_writes) (defScope s_Put_writes) .none kV10 dc10 pm10 an10 cd10 ct10), sl10⟩)
    (c_Put_writes : PySem.W.codeIn K cd10 "Put.writes" = true)
    (k_Put_writes : PySem.W.keepIn K (.ref f_Put_writes) = true)
    (a_Put_told : PySem.W.findIn K (.ref C_Put) "told" = some (some (.ref f_Put_told)))
    (l_Put_told : K.lookup f_Put_told = some ⟨oc11, od11, .func (PySem.W.fnOf "told" "Put.told" (defArgs s_Put_told) (defBody s_Put_told) (defScope s_Put_told) .none kV11 dc11 pm11 an11 cd11 ct11), sl11⟩)
    (c_Put_told : PySem.W.codeIn K cd11 "Put.told" = true)
    (k_Put_told : PySem.W.keepIn K (.ref f_Put_told) = true)
    (a_row_of : PySem.W.nsIn K mainGlobals "row_of" = some (some (.ref f_row_of)))
    (l_row_of : K.lookup f_row_of = some ⟨oc12, od12, .func (PySem.W.fnOf "row_of" "row_of" (defArgs s_row_of) (defBody s_row_of) (defScope s_row_of) .none kV12 dc12 pm12 an12 cd12 ct12), sl12⟩)
    (c_row_of : PySem.W.codeIn K cd12 "row_of" = true)
    (k_row_of : PySem.W.keepIn K (.ref f_row_of) = true)
    (a_tells_take : PySem.W.nsIn K mainGlobals "tells_take" = some (some (.ref f_tells_take)))
    (l_tells_take : K.lookup f_tells_take = some ⟨oc13, od13, .func (PySem.W.fnOf "tells_take" "tells_take" (defArgs s_tells_take) (defBody s_tells_take) (defScope s_tells_take) .none kV13 dc13 pm13 an13 cd13 ct13), sl13⟩)
    (c_tells_take : PySem.W.codeIn K cd13 "tells_take" = true)
    (k_tells_take : PySem.W.keepIn K (.ref f_tells_take) = true)
    (a_tells_put : PySem.W.nsIn K mainGlobals "tells_put" = some (some (.ref f_tells_put)))
    (l_tells_put : K.lookup f_tells_put = some ⟨oc14, od14, .func (PySem.W.fnOf "tells_put" "tells_put" (defArgs s_tells_put) (defBody s_tells_put) (defScope s_tells_put) .none kV14 dc14 pm14 an14 cd14 ct14), sl14⟩)
    (c_tells_put : PySem.W.codeIn K cd14 "tells_put" = true)
    (k_tells_put : PySem.W.keepIn K (.ref f_tells_put) = true)
    (a_are_signs : PySem.W.nsIn K mainGlobals "are_signs" = some (some (.ref f_are_signs)))
    (l_are_signs : K.lookup f_are_signs = some ⟨oc15, od15, .func (PySem.W.fnOf "are_signs" "are_signs" (defArgs s_are_signs) (defBody s_are_signs) (defScope s_are_signs) .none kV15 dc15 pm15 an15 cd15 ct15), sl15⟩)
    (c_are_signs : PySem.W.codeIn K cd15 "are_signs" = true)
    (k_are_signs : PySem.W.keepIn K (.ref f_are_signs) = true)
    (a_is_sign : PySem.W.nsIn K mainGlobals "is_sign" = some (some (.ref f_is_sign)))
    (l_is_sign : K.lookup f_is_sign = some ⟨oc16, od16, .func (PySem.W.fnOf "is_sign" "is_sign" (defArgs s_is_sign) (defBody s_is_sign) (defScope s_is_sign) .none kV16 dc16 pm16 an16 cd16 ct16), sl16⟩)
    (c_is_sign : PySem.W.codeIn K cd16 "is_sign" = true)
    (k_is_sign : PySem.W.keepIn K (.ref f_is_sign) = true)
    (a_is_whole_from : PySem.W.nsIn K mainGlobals "is_whole_from" = some (some (.ref f_is_whole_from)))
    (l_is_whole_from : K.lookup f_is_whole_from = some ⟨oc17, od17, .func (PySem.W.fnOf "is_whole_from" "is_whole_from" (defArgs s_is_whole_from) (defBody s_is_whole_from) (defScope s_is_whole_from) .none kV17 dc17 pm17 an17 cd17 ct17), sl17⟩)
    (c_is_whole_from : PySem.W.codeIn K cd17 "is_whole_from" = true)
    (k_is_whole_from : PySem.W.keepIn K (.ref f_is_whole_from) = true)
    (a_is_whole : PySem.W.nsIn K mainGlobals "is_whole" = some (some (.ref f_is_whole)))
    (l_is_whole : K.lookup f_is_whole = some ⟨oc18, od18, .func (PySem.W.fnOf "is_whole" "is_whole" (defArgs s_is_whole) (defBody s_is_whole) (defScope s_is_whole) .none kV18 dc18 pm18 an18 cd18 ct18), sl18⟩)
    (c_is_whole : PySem.W.codeIn K cd18 "is_whole" = true)
    (k_is_whole : PySem.W.keepIn K (.ref f_is_whole) = true)
    (a_judge : PySem.W.nsIn K mainGlobals "judge" = some (some (.ref f_judge)))
    (l_judge : K.lookup f_judge = some ⟨oc19, od19, .func (PySem.W.fnOf "judge" "judge" (defArgs s_judge) (defBody s_judge) (defScope s_judge) .none kV19 dc19 pm19 an19 cd19 ct19), sl19⟩)
    (c_judge : PySem.W.codeIn K cd19 "judge" = true)
    (k_judge : PySem.W.keepIn K (.ref f_judge) = true)
    (a_fits_in_size : PySem.W.nsIn K mainGlobals "fits_in_size" = some (some (.ref f_fits_in_size)))
    (l_fits_in_size : K.lookup f_fits_in_size = some ⟨oc20, od20, .func (PySem.W.fnOf "fits_in_size" "fits_in_size" (defArgs s_fits_in_size) (defBody s_fits_in_size) (defScope s_fits_in_size) .none kV20 dc20 pm20 an20 cd20 ct20), sl20⟩)
    (c_fits_in_size : PySem.W.codeIn K cd20 "fits_in_size" = true)
    (k_fits_in_size : PySem.W.keepIn K (.ref f_fits_in_size) = true)
    (a_is_length : PySem.W.nsIn K mainGlobals "is_length" = some (some (.ref f_is_length)))
    (l_is_length : K.lookup f_is_length = some ⟨oc21, od21, .func (PySem.W.fnOf "is_length" "is_length" (defArgs s_is_length) (defBody s_is_length) (defScope s_is_length) .none kV21 dc21 pm21 an21 cd21 ct21), sl21⟩)
    (c_is_length : PySem.W.codeIn K cd21 "is_length" = true)
    (k_is_length : PySem.W.keepIn K (.ref f_is_length) = true)
    (a_first_wrong_row : PySem.W.nsIn K mainGlobals "first_wrong_row" = some (some (.ref f_first_wrong_row)))
    (l_first_wrong_row : K.lookup f_first_wrong_row = some ⟨oc22, od22, .func (PySem.W.fnOf "first_wrong_row" "first_wrong_row" (defArgs s_first_wrong_row) (defBody s_first_wrong_row) (defScope s_first_wrong_row) .none kV22 dc22 pm22 an22 cd22 ct22), sl22⟩)
    (c_first_wrong_row : PySem.W.codeIn K cd22 "first_wrong_row" = true)
    (k_first_wrong_row : PySem.W.keepIn K (.ref f_first_wrong_row) = true)
    (a_is_fitting_row : PySem.W.nsIn K mainGlobals "is_fitting_row" = some (some (.ref f_is_fitting_row)))
    (l_is_fitting_row : K.lookup f_is_fitting_row = some ⟨oc23, od23, .func (PySem.W.fnOf "is_fitting_row" "is_fitting_row" (defArgs s_is_fitting_row) (defBody s_is_fitting_row) (defScope s_is_fitting_row) .none kV23 dc23 pm23 an23 cd23 ct23), sl23⟩)
    (c_is_fitting_row : PySem.W.codeIn K cd23 "is_fitting_row" = true)
    (k_is_fitting_row : PySem.W.keepIn K (.ref f_is_fitting_row) = true)
    (a_covered_twice : PySem.W.nsIn K mainGlobals "covered_twice" = some (some (.ref f_covered_twice)))
    (l_covered_twice : K.lookup f_covered_twice = some ⟨oc24, od24, .func (PySem.W.fnOf "covered_twice" "covered_twice" (defArgs s_covered_twice) (defBody s_covered_twice) (defScope s_covered_twice) .none kV24 dc24 pm24 an24 cd24 ct24), sl24⟩)
    (c_covered_twice : PySem.W.codeIn K cd24 "covered_twice" = true)
    (k_covered_twice : PySem.W.keepIn K (.ref f_covered_twice) = true)
    (a_lacking : PySem.W.nsIn K mainGlobals "lacking" = some (some (.ref f_lacking)))
    (l_lacking : K.lookup f_lacking = some ⟨oc25, od25, .func (PySem.W.fnOf "lacking" "lacking" (defArgs s_lacking) (defBody s_lacking) (defScope s_lacking) .none kV25 dc25 pm25 an25 cd25 ct25), sl25⟩)
    (c_lacking : PySem.W.codeIn K cd25 "lacking" = true)
    (k_lacking : PySem.W.keepIn K (.ref f_lacking) = true)
    (a_read_late : PySem.W.nsIn K mainGlobals "read_late" = some (some (.ref f_read_late)))
    (l_read_late : K.lookup f_read_late = some ⟨oc26, od26, .func (PySem.W.fnOf "read_late" "read_late" (defArgs s_read_late) (defBody s_read_late) (defScope s_read_late) .none kV26 dc26 pm26 an26 cd26 ct26), sl26⟩)
    (c_read_late : PySem.W.codeIn K cd26 "read_late" = true)
    (k_read_late : PySem.W.keepIn K (.ref f_read_late) = true)
    (a_cell_at : PySem.W.nsIn K mainGlobals "_law_cell_at" = some (some (.ref f_cell_at)))
    (l_cell_at : K.lookup f_cell_at = some ⟨oc27, od27, .func (PySem.W.fnOf "_law_cell_at" "_law_cell_at" (defArgs s_cell_at) (defBody s_cell_at) (defScope s_cell_at) .none kV27 dc27 pm27 an27 cd27 ct27), sl27⟩)
    (c_cell_at : PySem.W.codeIn K cd27 "_law_cell_at" = true)
    (k_cell_at : PySem.W.keepIn K (.ref f_cell_at) = true)
    (a_mixed : PySem.W.nsIn K mainGlobals "_law_mixed" = some (some (.ref f_mixed)))
    (l_mixed : K.lookup f_mixed = some ⟨oc28, od28, .func (PySem.W.fnOf "_law_mixed" "_law_mixed" (defArgs s_mixed) (defBody s_mixed) (defScope s_mixed) .none kV28 dc28 pm28 an28 cd28 ct28), sl28⟩)
    (c_mixed : PySem.W.codeIn K cd28 "_law_mixed" = true)
    (k_mixed : PySem.W.keepIn K (.ref f_mixed) = true)
    (a_rows : PySem.W.nsIn K mainGlobals "_law_rows" = some (some (.ref f_rows)))
    (l_rows : K.lookup f_rows = some ⟨oc29, od29, .func (PySem.W.fnOf "_law_rows" "_law_rows" (defArgs s_rows) (defBody s_rows) (defScope s_rows) .none kV29 dc29 pm29 an29 cd29 ct29), sl29⟩)
    (c_rows : PySem.W.codeIn K cd29 "_law_rows" = true)
    (k_rows : PySem.W.keepIn K (.ref f_rows) = true)
    (a_other : PySem.W.nsIn K mainGlobals "_law_other" = some (some (.ref f_other)))
    (l_other : K.lookup f_other = some ⟨oc30, od30, .func (PySem.W.fnOf "_law_other" "_law_other" (defArgs s_other) (defBody s_other) (defScope s_other) .none kV30 dc30 pm30 an30 cd30 ct30), sl30⟩)
    (c_other : PySem.W.codeIn K cd30 "_law_other" = true)
    (k_other : PySem.W.keepIn K (.ref f_other) = true)
    (a_changed : PySem.W.nsIn K mainGlobals "_law_changed" = some (some (.ref f_changed)))
    (l_changed : K.lookup f_changed = some ⟨oc31, od31, .func (PySem.W.fnOf "_law_changed" "_law_changed" (defArgs s_changed) (defBody s_changed) (defScope s_changed) .none kV31 dc31 pm31 an31 cd31 ct31), sl31⟩)
    (c_changed : PySem.W.codeIn K cd31 "_law_changed" = true)
    (k_changed : PySem.W.keepIn K (.ref f_changed) = true)
    (a_length : PySem.W.nsIn K mainGlobals "_law_length" = some (some (.ref f_length)))
    (l_length : K.lookup f_length = some ⟨oc32, od32, .func (PySem.W.fnOf "_law_length" "_law_length" (defArgs s_length) (defBody s_length) (defScope s_length) .none kV32 dc32 pm32 an32 cd32 ct32), sl32⟩)
    (c_length : PySem.W.codeIn K cd32 "_law_length" = true)
    (k_length : PySem.W.keepIn K (.ref f_length) = true)
    (a_is_row : PySem.W.nsIn K mainGlobals "_law_is_row" = some (some (.ref f_is_row)))
    (l_is_row : K.lookup f_is_row = some ⟨oc33, od33, .func (PySem.W.fnOf "_law_is_row" "_law_is_row" (defArgs s_is_row) (defBody s_is_row) (defScope s_is_row) .none kV33 dc33 pm33 an33 cd33 ct33), sl33⟩)
    (c_is_row : PySem.W.codeIn K cd33 "_law_is_row" = true)
    (k_is_row : PySem.W.keepIn K (.ref f_is_row) = true)
    (a_end : PySem.W.nsIn K mainGlobals "_law_end" = some (some (.ref f_end)))
    (l_end : K.lookup f_end = some ⟨oc34, od34, .func (PySem.W.fnOf "_law_end" "_law_end" (defArgs s_end) (defBody s_end) (defScope s_end) .none kV34 dc34 pm34 an34 cd34 ct34), sl34⟩)
    (c_end : PySem.W.codeIn K cd34 "_law_end" = true)
    (k_end : PySem.W.keepIn K (.ref f_end) = true)
    (a_first : PySem.W.nsIn K mainGlobals "_law_first" = some (some (.ref f_first)))
    (l_first : K.lookup f_first = some ⟨oc35, od35, .func (PySem.W.fnOf "_law_first" "_law_first" (defArgs s_first) (defBody s_first) (defScope s_first) .none kV35 dc35 pm35 an35 cd35 ct35), sl35⟩)
    (c_first : PySem.W.codeIn K cd35 "_law_first" = true)
    (k_first : PySem.W.keepIn K (.ref f_first) = true)
    (a_cells : PySem.W.nsIn K mainGlobals "_law_cells" = some (some (.ref f_cells)))
    (l_cells : K.lookup f_cells = some ⟨oc36, od36, .func (PySem.W.fnOf "_law_cells" "_law_cells" (defArgs s_cells) (defBody s_cells) (defScope s_cells) .none kV36 dc36 pm36 an36 cd36 ct36), sl36⟩)
    (c_cells : PySem.W.codeIn K cd36 "_law_cells" = true)
    (k_cells : PySem.W.keepIn K (.ref f_cells) = true)
    (a_stays : PySem.W.nsIn K mainGlobals "_law_stays" = some (some (.ref f_stays)))
    (l_stays : K.lookup f_stays = some ⟨oc37, od37, .func (PySem.W.fnOf "_law_stays" "_law_stays" (defArgs s_stays) (defBody s_stays) (defScope s_stays) .none kV37 dc37 pm37 an37 cd37 ct37), sl37⟩)
    (c_stays : PySem.W.codeIn K cd37 "_law_stays" = true)
    (k_stays : PySem.W.keepIn K (.ref f_stays) = true)
    (a_law : PySem.W.nsIn K mainGlobals "law" = some (some (.ref f_law)))
    (l_law : K.lookup f_law = some ⟨oc38, od38, .func (PySem.W.fnOf "law" "law" (defArgs s_law) (defBody s_law) (defScope s_law) .none kV38 dc38 pm38 an38 cd38 ct38), sl38⟩)
    (c_law : PySem.W.codeIn K cd38 "law" = true)
    (k_law : PySem.W.keepIn K (.ref f_law) = true)
    (pg_Row : PySem.W.plainGet K C_Row Str.empty = true)
    (hd_Row : PySem.W.hasDictIn K C_Row = true)
    (po_Row : PySem.W.plainOver K C_Row = true)
    (sa_Row : PySem.W.findIn K (.ref C_Row) "__setattr__" = some (some (.builtin "object.__setattr__")))
    (na_Row_count : PySem.W.findIn K (.ref C_Row) "count" = some none)
    (na_Row_to : PySem.W.findIn K (.ref C_Row) "to" = some none)
    (pg_Take : PySem.W.plainGet K C_Take Str.empty = true)
    (hd_Take : PySem.W.hasDictIn K C_Take = true)
    (po_Take : PySem.W.plainOver K C_Take = true)
    (sa_Take : PySem.W.findIn K (.ref C_Take) "__setattr__" = some (some (.builtin "object.__setattr__")))
    (na_Take_count : PySem.W.findIn K (.ref C_Take) "count" = some none)
    (na_Take_source : PySem.W.findIn K (.ref C_Take) "source" = some none)
    (na_Take_to : PySem.W.findIn K (.ref C_Take) "to" = some none)
    (mk_Take : PySem.W.makesIn K C_Take = true)
    (in_Take : PySem.W.findIn K (.ref C_Take) "__init__" = some (some (.ref f_Take_init)))
    (fn_Take : PySem.W.isFn K (.ref f_Take_init) = true)
    (kp_Take : PySem.W.keepIn K (.ref C_Take) = true)
    (pg_Put : PySem.W.plainGet K C_Put Str.empty = true)
    (hd_Put : PySem.W.hasDictIn K C_Put = true)
    (po_Put : PySem.W.plainOver K C_Put = true)
    (sa_Put : PySem.W.findIn K (.ref C_Put) "__setattr__" = some (some (.builtin "object.__setattr__")))
    (na_Put_count : PySem.W.findIn K (.ref C_Put) "count" = some none)
    (na_Put_signs : PySem.W.findIn K (.ref C_Put) "signs" = some none)
    (na_Put_to : PySem.W.findIn K (.ref C_Put) "to" = some none)
    (mk_Put : PySem.W.makesIn K C_Put = true)
    (in_Put : PySem.W.findIn K (.ref C_Put) "__init__" = some (some (.ref f_Put_init)))
    (fn_Put : PySem.W.isFn K (.ref f_Put_init) = true)
    (kp_Put : PySem.W.keepIn K (.ref C_Put) = true)
    (ma_Put_covered : PySem.W.findIn K (.ref C_Put) "covered" = some (some (.ref f_Row_covered)))
    (mf_Put_covered : PySem.W.isFn K (.ref f_Row_covered) = true)
    (mp_Put_covered : PySem.W.keepIn K (.ref f_Row_covered) = true)
    (ma_Put_covers : PySem.W.findIn K (.ref C_Put) "covers" = some (some (.ref f_Row_covers)))
    (mf_Put_covers : PySem.W.isFn K (.ref f_Row_covers) = true)
    (mp_Put_covers : PySem.W.keepIn K (.ref f_Row_covers) = true)
    (ma_Put_reads : PySem.W.findIn K (.ref C_Put) "reads" = some (some (.ref f_Put_reads)))
    (mf_Put_reads : PySem.W.isFn K (.ref f_Put_reads) = true)
    (mp_Put_reads : PySem.W.keepIn K (.ref f_Put_reads) = true)
    (ma_Put_writes : PySem.W.findIn K (.ref C_Put) "writes" = some (some (.ref f_Put_writes)))
    (mf_Put_writes : PySem.W.isFn K (.ref f_Put_writes) = true)
    (mp_Put_writes : PySem.W.keepIn K (.ref f_Put_writes) = true)
    (ma_Take_covered : PySem.W.findIn K (.ref C_Take) "covered" = some (some (.ref f_Row_covered)))
    (mf_Take_covered : PySem.W.isFn K (.ref f_Row_covered) = true)
    (mp_Take_covered : PySem.W.keepIn K (.ref f_Row_covered) = true)
    (ma_Take_covers : PySem.W.findIn K (.ref C_Take) "covers" = some (some (.ref f_Row_covers)))
    (mf_Take_covers : PySem.W.isFn K (.ref f_Row_covers) = true)
    (mp_Take_covers : PySem.W.keepIn K (.ref f_Row_covers) = true)
    (ma_Take_reads : PySem.W.findIn K (.ref C_Take) "reads" = some (some (.ref f_Take_reads)))
    (mf_Take_reads : PySem.W.isFn K (.ref f_Take_reads) = true)
    (mp_Take_reads : PySem.W.keepIn K (.ref f_Take_reads) = true)
    (ma_Take_stays : PySem.W.findIn K (.ref C_Take) "stays" = some (some (.ref f_Take_stays)))
    (mf_Take_stays : PySem.W.isFn K (.ref f_Take_stays) = true)
    (mp_Take_stays : PySem.W.keepIn K (.ref f_Take_stays) = true)
    (ma_Take_writes : PySem.W.findIn K (.ref C_Take) "writes" = some (some (.ref f_Take_writes)))
    (mf_Take_writes : PySem.W.isFn K (.ref f_Take_writes) = true)
    (mp_Take_writes : PySem.W.keepIn K (.ref f_Take_writes) = true)
    (bs_Row_init : PySem.W.specialIn K (.ref C_Row) "__getattribute__" = some (some (.builtin "type.__getattribute__")))
    (br_Row_init : PySem.W.readsIn K C_Row (.type "type") = true)
    (bf_Row_init : PySem.W.findCls K (.ref C_Row) (.type "type") "__init__" = some (.val (.ref f_Row_init)))
    (bk_Row_init : PySem.W.keepIn K (.ref f_Row_init) = true)
    (ia_Put : PySem.W.findIn K (.ref C_Put) "__class__" = some (some (.builtin "object.__class__")))
    (ib_Put : PySem.W.specialIn K (.builtin "object.__class__") "__get__" = some (some (.builtin "getset_descriptor.__get__")))
    (it_Put : PySem.W.takesIn K (.builtin "object.__class__") = some true)
    (im_Put : PySem.W.mroIn K C_Put (.type "object") = some true)
    (ia_Take : PySem.W.findIn K (.ref C_Take) "__class__" = some (some (.builtin "object.__class__")))
    (ib_Take : PySem.W.specialIn K (.builtin "object.__class__") "__get__" = some (some (.builtin "getset_descriptor.__get__")))
    (it_Take : PySem.W.takesIn K (.builtin "object.__class__") = some true)
    (im_Take : PySem.W.mroIn K C_Take (.type "object") = some true)
    (ik_Put_Take : PySem.W.kitOne K (.ref C_Put) (.ref C_Take) = some false)
    (ik_Take_Take : PySem.W.kitOne K (.ref C_Take) (.ref C_Take) = some true)
    (aG_MOST : PySem.W.nsIn K mainGlobals "MOST" = some (some (.int 300 t_MOST)))
    (n_abs : PySem.W.nsIn K mainGlobals "abs" = some none)
    (n_all : PySem.W.nsIn K mainGlobals "all" = some none)
    (n_bool : PySem.W.nsIn K mainGlobals "bool" = some none)
    (n_enumerate : PySem.W.nsIn K mainGlobals "enumerate" = some none)
    (n_int : PySem.W.nsIn K mainGlobals "int" = some none)
    (n_isinstance : PySem.W.nsIn K mainGlobals "isinstance" = some none)
    (n_len : PySem.W.nsIn K mainGlobals "len" = some none)
    (n_list : PySem.W.nsIn K mainGlobals "list" = some none)
    (n_max : PySem.W.nsIn K mainGlobals "max" = some none)
    (n_min : PySem.W.nsIn K mainGlobals "min" = some none)
    (n_range : PySem.W.nsIn K mainGlobals "range" = some none)
    (n_tuple : PySem.W.nsIn K mainGlobals "tuple" = some none)
    : ∃ fd : FuncData, (∀ (s : Shared) (v : Value), BindsTo s fd ⟨[v], []⟩ [("_law_script", v)]) ∧ ∀ base : Heap, K.In base → base.Ns mainGlobals mg → FnOk l.prog w K mg base CX0 9 fa fd ["_law_script"] (sp_law K) := by
  have e := hfa.symm.trans (PySem.W.mg_of X G a_law)
  have e2 : f_law = fa := by injection e with e; injection e with e; exact e.symm
  subst e2
  have F_Row_init := fun_mk (st := s_Row_init) l_Row_init c_Row_init k_Row_init
  have b_Row_init := F_Row_init.binds (ps := ["self", "to"]) bn_Row_init
  have F_Row_covers := fun_mk (st := s_Row_covers) l_Row_covers c_Row_covers k_Row_covers
  have b_Row_covers := F_Row_covers.binds (ps := ["self"]) bn_Row_covers
  have F_Row_covered := fun_mk (st := s_Row_covered) l_Row_covered c_Row_covered k_Row_covered
  have b_Row_covered := F_Row_covered.binds (ps := ["self"]) bn_Row_covered
  have F_Take_init := fun_mk (st := s_Take_init) l_Take_init c_Take_init k_Take_init
  have b_Take_init := F_Take_init.binds (ps := ["self", "to", "start", "count"]) bn_Take_init
  have F_Take_stays := fun_mk (st := s_Take_stays) l_Take_stays c_Take_stays k_Take_stays
  have b_Take_stays := F_Take_stays.binds (ps := ["self"]) bn_Take_stays
  have F_Take_reads := fun_mk (st := s_Take_reads) l_Take_reads c_Take_reads k_Take_reads
  have b_Take_reads := F_Take_reads.binds (ps := ["self"]) bn_Take_reads
  have F_Take_writes := fun_mk (st := s_Take_writes) l_Take_writes c_Take_writes k_Take_writes
  have b_Take_writes := F_Take_writes.binds (ps := ["self"]) bn_Take_writes
  have F_Take_told := fun_mk (st := s_Take_told) l_Take_told c_Take_told k_Take_told
  have b_Take_told := F_Take_told.binds (ps := ["self"]) bn_Take_told
  have F_Put_init := fun_mk (st := s_Put_init) l_Put_init c_Put_init k_Put_init
  have b_Put_init := F_Put_init.binds (ps := ["self", "to", "signs"]) bn_Put_init
  have F_Put_reads := fun_mk (st := s_Put_reads) l_Put_reads c_Put_reads k_Put_reads
  have b_Put_reads := F_Put_reads.binds (ps := ["self"]) bn_Put_reads
  have F_Put_writes := fun_mk (st := s_Put_writes) l_Put_writes c_Put_writes k_Put_writes
  have b_Put_writes := F_Put_writes.binds (ps := ["self"]) bn_Put_writes
  have F_Put_told := fun_mk (st := s_Put_told) l_Put_told c_Put_told k_Put_told
  have b_Put_told := F_Put_told.binds (ps := ["self"]) bn_Put_told
  have F_row_of := fun_mk (st := s_row_of) l_row_of c_row_of k_row_of
  have b_row_of := F_row_of.binds (ps := ["told"]) bn_row_of
  have F_tells_take := fun_mk (st := s_tells_take) l_tells_take c_tells_take k_tells_take
  have b_tells_take := F_tells_take.binds (ps := ["told"]) bn_tells_take
  have F_tells_put := fun_mk (st := s_tells_put) l_tells_put c_tells_put k_tells_put
  have b_tells_put := F_tells_put.binds (ps := ["told"]) bn_tells_put
  have F_are_signs := fun_mk (st := s_are_signs) l_are_signs c_are_signs k_are_signs
  have b_are_signs := F_are_signs.binds (ps := ["signs"]) bn_are_signs
  have F_is_sign := fun_mk (st := s_is_sign) l_is_sign c_is_sign k_is_sign
  have b_is_sign := F_is_sign.binds (ps := ["value"]) bn_is_sign
  have F_is_whole_from := fun_mk (st := s_is_whole_from) l_is_whole_from c_is_whole_from k_is_whole_from
  have b_is_whole_from := F_is_whole_from.binds (ps := ["least", "value"]) bn_is_whole_from
  have F_is_whole := fun_mk (st := s_is_whole) l_is_whole c_is_whole k_is_whole
  have b_is_whole := F_is_whole.binds (ps := ["value"]) bn_is_whole
  have F_judge := fun_mk (st := s_judge) l_judge c_judge k_judge
  have b_judge := F_judge.binds (ps := ["paper"]) bn_judge
  have F_fits_in_size := fun_mk (st := s_fits_in_size) l_fits_in_size c_fits_in_size k_fits_in_size
  have b_fits_in_size := F_fits_in_size.binds (ps := ["paper"]) bn_fits_in_size
  have F_is_length := fun_mk (st := s_is_length) l_is_length c_is_length k_is_length
  have b_is_length := F_is_length.binds (ps := ["value"]) bn_is_length
  have F_first_wrong_row := fun_mk (st := s_first_wrong_row) l_first_wrong_row c_first_wrong_row k_first_wrong_row
  have b_first_wrong_row := F_first_wrong_row.binds (ps := ["paper"]) bn_first_wrong_row
  have F_is_fitting_row := fun_mk (st := s_is_fitting_row) l_is_fitting_row c_is_fitting_row k_is_fitting_row
  have b_is_fitting_row := F_is_fitting_row.binds (ps := ["told", "old", "new"]) bn_is_fitting_row
  have F_covered_twice := fun_mk (st := s_covered_twice) l_covered_twice c_covered_twice k_covered_twice
  have b_covered_twice := F_covered_twice.binds (ps := ["rows"]) bn_covered_twice
  have F_lacking := fun_mk (st := s_lacking) l_lacking c_lacking k_lacking
  have b_lacking := F_lacking.binds (ps := ["rows", "new"]) bn_lacking
  have F_read_late := fun_mk (st := s_read_late) l_read_late c_read_late k_read_late
  have b_read_late := F_read_late.binds (ps := ["rows"]) bn_read_late
  have F_cell_at := fun_mk (st := s_cell_at) l_cell_at c_cell_at k_cell_at
  have b_cell_at := F_cell_at.binds (ps := ["_law_script", "_law_k"]) bn_cell_at
  have F_mixed := fun_mk (st := s_mixed) l_mixed c_mixed k_mixed
  have b_mixed := F_mixed.binds (ps := ["_law_cell", "_law_k"]) bn_mixed
  have F_rows := fun_mk (st := s_rows) l_rows c_rows k_rows
  have b_rows := F_rows.binds (ps := ["_law_old", "_law_new", "_law_cell"]) bn_rows
  have F_other := fun_mk (st := s_other) l_other c_other k_other
  have b_other := F_other.binds (ps := ["_law_row", "_law_draw"]) bn_other
  have F_changed := fun_mk (st := s_changed) l_changed c_changed k_changed
  have b_changed := F_changed.binds (ps := ["_law_rows_here", "_law_draw"]) bn_changed
  have F_length := fun_mk (st := s_length) l_length c_length k_length
  have b_length := F_length.binds (ps := ["_law_length_here", "_law_cell"]) bn_length
  have F_is_row := fun_mk (st := s_is_row) l_is_row c_is_row k_is_row
  have b_is_row := F_is_row.binds (ps := ["_law_row"]) bn_is_row
  have F_end := fun_mk (st := s_end) l_end c_end k_end
  have b_end := F_end.binds (ps := ["_law_row"]) bn_end
  have F_first := fun_mk (st := s_first) l_first c_first k_first
  have b_first := F_first.binds (ps := ["_law_old", "_law_new", "_law_rows_here"]) bn_first
  have F_cells := fun_mk (st := s_cells) l_cells c_cells k_cells
  have b_cells := F_cells.binds (ps := ["_law_new", "_law_rows_here"]) bn_cells
  have F_stays := fun_mk (st := s_stays) l_stays c_stays k_stays
  have b_stays := F_stays.binds (ps := ["_law_row"]) bn_stays
  have F_law := fun_mk (st := s_law) l_law c_law k_law
  have b_law := F_law.binds (ps := ["_law_script"]) bn_law
  have T : Txt K mg { f_Row_init := f_Row_init, f_Row_covers := f_Row_covers, f_Row_covered := f_Row_covered, f_Take_init := f_Take_init, f_Take_stays := f_Take_stays, f_Take_reads := f_Take_reads, f_Take_writes := f_Take_writes, f_Take_told := f_Take_told, f_Put_init := f_Put_init, f_Put_reads := f_Put_reads, f_Put_writes := f_Put_writes, f_Put_told := f_Put_told, f_row_of := f_row_of, f_tells_take := f_tells_take, f_tells_put := f_tells_put, f_are_signs := f_are_signs, f_is_sign := f_is_sign, f_is_whole_from := f_is_whole_from, f_is_whole := f_is_whole, f_judge := f_judge, f_fits_in_size := f_fits_in_size, f_is_length := f_is_length, f_first_wrong_row := f_first_wrong_row, f_is_fitting_row := f_is_fitting_row, f_covered_twice := f_covered_twice, f_lacking := f_lacking, f_read_late := f_read_late, f_cell_at := f_cell_at, f_mixed := f_mixed, f_rows := f_rows, f_other := f_other, f_changed := f_changed, f_length := f_length, f_is_row := f_is_row, f_end := f_end, f_first := f_first, f_cells := f_cells, f_stays := f_stays, f_law := f_law, d_Row_init := _, d_Row_covers := _, d_Row_covered := _, d_Take_init := _, d_Take_stays := _, d_Take_reads := _, d_Take_writes := _, d_Take_told := _, d_Put_init := _, d_Put_reads := _, d_Put_writes := _, d_Put_told := _, d_row_of := _, d_tells_take := _, d_tells_put := _, d_are_signs := _, d_is_sign := _, d_is_whole_from := _, d_is_whole := _, d_judge := _, d_fits_in_size := _, d_is_length := _, d_first_wrong_row := _, d_is_fitting_row := _, d_covered_twice := _, d_lacking := _, d_read_late := _, d_cell_at := _, d_mixed := _, d_rows := _, d_other := _, d_changed := _, d_length := _, d_is_row := _, d_end := _, d_first := _, d_cells := _, d_stays := _, d_law := _, C_Row := C_Row, C_Take := C_Take, C_Put := C_Put, C_NoRow := C_NoRow, t_MOST := t_MOST } := {
    F_Row_init := F_Row_init
    b_Row_init := b_Row_init
    F_Row_covers := F_Row_covers
    b_Row_covers := b_Row_covers
    F_Row_covered := F_Row_covered
    b_Row_covered := b_Row_covered
    F_Take_init := F_Take_init
    b_Take_init := b_Take_init
    F_Take_stays := F_Take_stays
    b_Take_stays := b_Take_stays
    F_Take_reads := F_Take_reads
    b_Take_reads := b_Take_reads
    F_Take_writes := F_Take_writes
    b_Take_writes := b_Take_writes
    F_Take_told := F_Take_told
    b_Take_told := b_Take_told
    F_Put_init := F_Put_init
    b_Put_init := b_Put_init
    F_Put_reads := F_Put_reads
    b_Put_reads := b_Put_reads
    F_Put_writes := F_Put_writes
    b_Put_writes := b_Put_writes
    F_Put_told := F_Put_told
    b_Put_told := b_Put_told
    F_row_of := F_row_of
    b_row_of := b_row_of
    m_row_of := PySem.W.mg_of X G a_row_of
    F_tells_take := F_tells_take
    b_tells_take := b_tells_take
    m_tells_take := PySem.W.mg_of X G a_tells_take
    F_tells_put := F_tells_put
    b_tells_put := b_tells_put
    m_tells_put := PySem.W.mg_of X G a_tells_put
    F_are_signs := F_are_signs
    b_are_signs := b_are_signs
    m_are_signs := PySem.W.mg_of X G a_are_signs
    F_is_sign := F_is_sign
    b_is_sign := b_is_sign
    m_is_sign := PySem.W.mg_of X G a_is_sign
    F_is_whole_from := F_is_whole_from
    b_is_whole_from := b_is_whole_from
    m_is_whole_from := PySem.W.mg_of X G a_is_whole_from
    F_is_whole := F_is_whole
    b_is_whole := b_is_whole
    m_is_whole := PySem.W.mg_of X G a_is_whole
    F_judge := F_judge
    b_judge := b_judge
    m_judge := PySem.W.mg_of X G a_judge
    F_fits_in_size := F_fits_in_size
    b_fits_in_size := b_fits_in_size
    m_fits_in_size := PySem.W.mg_of X G a_fits_in_size
    F_is_length := F_is_length
    b_is_length := b_is_length
    m_is_length := PySem.W.mg_of X G a_is_length
    F_first_wrong_row := F_first_wrong_row
    b_first_wrong_row := b_first_wrong_row
    m_first_wrong_row := PySem.W.mg_of X G a_first_wrong_row
    F_is_fitting_row := F_is_fitting_row
    b_is_fitting_row := b_is_fitting_row
    m_is_fitting_row := PySem.W.mg_of X G a_is_fitting_row
    F_covered_twice := F_covered_twice
    b_covered_twice := b_covered_twice
    m_covered_twice := PySem.W.mg_of X G a_covered_twice
    F_lacking := F_lacking
    b_lacking := b_lacking
    m_lacking := PySem.W.mg_of X G a_lacking
    F_read_late := F_read_late
    b_read_late := b_read_late
    m_read_late := PySem.W.mg_of X G a_read_late
    F_cell_at := F_cell_at
    b_cell_at := b_cell_at
    m_cell_at := PySem.W.mg_of X G a_cell_at
    F_mixed := F_mixed
    b_mixed := b_mixed
    m_mixed := PySem.W.mg_of X G a_mixed
    F_rows := F_rows
    b_rows := b_rows
    m_rows := PySem.W.mg_of X G a_rows
    F_other := F_other
    b_other := b_other
    m_other := PySem.W.mg_of X G a_other
    F_changed := F_changed
    b_changed := b_changed
    m_changed := PySem.W.mg_of X G a_changed
    F_length := F_length
    b_length := b_length
    m_length := PySem.W.mg_of X G a_length
    F_is_row := F_is_row
    b_is_row := b_is_row
    m_is_row := PySem.W.mg_of X G a_is_row
    F_end := F_end
    b_end := b_end
    m_end := PySem.W.mg_of X G a_end
    F_first := F_first
    b_first := b_first
    m_first := PySem.W.mg_of X G a_first
    F_cells := F_cells
    b_cells := b_cells
    m_cells := PySem.W.mg_of X G a_cells
    F_stays := F_stays
    b_stays := b_stays
    m_stays := PySem.W.mg_of X G a_stays
    F_law := F_law
    b_law := b_law
    m_Row := PySem.W.mg_of X G aC_Row
    c_Row := ⟨pg_Row, hd_Row, po_Row, sa_Row⟩
    na_Row_count := na_Row_count
    na_Row_to := na_Row_to
    m_Take := PySem.W.mg_of X G aC_Take
    c_Take := ⟨pg_Take, hd_Take, po_Take, sa_Take⟩
    na_Take_count := na_Take_count
    na_Take_source := na_Take_source
    na_Take_to := na_Take_to
    mk_Take := ⟨mk_Take, in_Take, fn_Take, kp_Take⟩
    m_Put := PySem.W.mg_of X G aC_Put
    c_Put := ⟨pg_Put, hd_Put, po_Put, sa_Put⟩
    na_Put_count := na_Put_count
    na_Put_signs := na_Put_signs
    na_Put_to := na_Put_to
    mk_Put := ⟨mk_Put, in_Put, fn_Put, kp_Put⟩
    m_NoRow := PySem.W.mg_of X G aC_NoRow
    x_NoRow := x_NoRow
    kc_NoRow_NoRow := kc_NoRow_NoRow
    xc_NoRow := ⟨xc_NoRow⟩
    ic_Put := fun e => .ins e ⟨pg_Put, hd_Put, po_Put, sa_Put⟩ ia_Put ib_Put it_Put im_Put
    ic_Take := fun e => .ins e ⟨pg_Take, hd_Take, po_Take, sa_Take⟩ ia_Take ib_Take it_Take im_Take
    ik_Put_Take := ik_Put_Take
    ik_Take_Take := ik_Take_Take
    m_MOST := PySem.W.mg_of X G aG_MOST
    me_Put_covered := ⟨ma_Put_covered, mf_Put_covered, mp_Put_covered⟩
    me_Put_covers := ⟨ma_Put_covers, mf_Put_covers, mp_Put_covers⟩
    me_Put_reads := ⟨ma_Put_reads, mf_Put_reads, mp_Put_reads⟩
    me_Put_writes := ⟨ma_Put_writes, mf_Put_writes, mp_Put_writes⟩
    me_Take_covered := ⟨ma_Take_covered, mf_Take_covered, mp_Take_covered⟩
    me_Take_covers := ⟨ma_Take_covers, mf_Take_covers, mp_Take_covers⟩
    me_Take_reads := ⟨ma_Take_reads, mf_Take_reads, mp_Take_reads⟩
    me_Take_stays := ⟨ma_Take_stays, mf_Take_stays, mp_Take_stays⟩
    me_Take_writes := ⟨ma_Take_writes, mf_Take_writes, mp_Take_writes⟩
    cm_Row_init := ⟨bs_Row_init, br_Row_init, bf_Row_init, bk_Row_init⟩
    n_abs := PySem.W.mg_none_of X G n_abs
    n_all := PySem.W.mg_none_of X G n_all
    n_bool := PySem.W.mg_none_of X G n_bool
    n_enumerate := PySem.W.mg_none_of X G n_enumerate
    n_int := PySem.W.mg_none_of X G n_int
    n_isinstance := PySem.W.mg_none_of X G n_isinstance
    n_len := PySem.W.mg_none_of X G n_len
    n_list := PySem.W.mg_none_of X G n_list
    n_max := PySem.W.mg_none_of X G n_max
    n_min := PySem.W.mg_none_of X G n_min
    n_range := PySem.W.mg_none_of X G n_range
    n_tuple := PySem.W.mg_none_of X G n_tuple
  }
  exact ⟨_, fun s v => .of_eq rfl, fun base _ _ => ok_law T⟩
end K41
theorem PySem.W.Fast.te12308266045843262685 : True := trivial
theorem PySem.W.Fast.tw12308266045843262685 : True := trivial
def PySem.W.Fast.tw16156116826328529888 : List PySem.Stmt := [PySem.Challenge.pw_oneroom_k41_first_fault.main.body.getD 23 (.Pass ⟨0, 0, 0, 0⟩), PySem.Challenge.pw_oneroom_k41_first_fault.main.body.getD 24 (.Pass ⟨0, 0, 0, 0⟩), PySem.Challenge.pw_oneroom_k41_first_fault.main.body.getD 25 (.Pass ⟨0, 0, 0, 0⟩), PySem.Challenge.pw_oneroom_k41_first_fault.main.body.getD 26 (.Pass ⟨0, 0, 0, 0⟩), PySem.Challenge.pw_oneroom_k41_first_fault.main.body.getD 27 (.Pass ⟨0, 0, 0, 0⟩), PySem.Challenge.pw_oneroom_k41_first_fault.main.body.getD 28 (.Pass ⟨0, 0, 0, 0⟩), PySem.Challenge.pw_oneroom_k41_first_fault.main.body.getD 29 (.Pass ⟨0, 0, 0, 0⟩), PySem.Challenge.pw_oneroom_k41_first_fault.main.body.getD 30 (.Pass ⟨0, 0, 0, 0⟩), PySem.Challenge.pw_oneroom_k41_first_fault.main.body.getD 31 (.Pass ⟨0, 0, 0, 0⟩), PySem.Challenge.pw_oneroom_k41_first_fault.main.body.getD 32 (.Pass ⟨0, 0, 0, 0⟩), PySem.Challenge.pw_oneroom_k41_first_fault.main.body.getD 33 (.Pass ⟨0, 0, 0, 0⟩), PySem.Challenge.pw_oneroom_k41_first_fault.main.body.getD 34 (.Pass ⟨0, 0, 0, 0⟩), PySem.Challenge.pw_oneroom_k41_first_fault.main.body.getD 35 (.Pass ⟨0, 0, 0, 0⟩)]
theorem PySem.W.Fast.te16156116826328529888 : PySem.W.Fast.tw16156116826328529888 = PySem.W.Fast.tw16156116826328529888 := rfl
def PySem.W.Fast.tw12296166717681854113 : List PySem.Stmt := [PySem.Challenge.pw_oneroom_k41_first_fault.main.body.getD 5 (.Pass ⟨0, 0, 0, 0⟩)]
theorem PySem.W.Fast.te12296166717681854113 : PySem.W.Fast.tw12296166717681854113 = PySem.W.Fast.tw12296166717681854113 := rfl
def PySem.W.Fast.tw8029153190686814978 : List PySem.Stmt := [PySem.Challenge.pw_oneroom_k41_first_fault.main.body.getD 6 (.Pass ⟨0, 0, 0, 0⟩)]
theorem PySem.W.Fast.te8029153190686814978 : PySem.W.Fast.tw8029153190686814978 = PySem.W.Fast.tw8029153190686814978 := rfl
def PySem.W.Fast.tw8970742514847356484 : List PySem.Stmt := [PySem.Challenge.pw_oneroom_k41_first_fault.main.body.getD 3 (.Pass ⟨0, 0, 0, 0⟩), PySem.Challenge.pw_oneroom_k41_first_fault.main.body.getD 4 (.Pass ⟨0, 0, 0, 0⟩)]
theorem PySem.W.Fast.te8970742514847356484 : PySem.W.Fast.tw8970742514847356484 = PySem.W.Fast.tw8970742514847356484 := rfl
def PySem.W.Fast.tw8644980292556704720 : List PySem.Stmt := [PySem.Challenge.pw_oneroom_k41_first_fault.main.body.getD 8 (.Pass ⟨0, 0, 0, 0⟩), PySem.Challenge.pw_oneroom_k41_first_fault.main.body.getD 9 (.Pass ⟨0, 0, 0, 0⟩), PySem.Challenge.pw_oneroom_k41_first_fault.main.body.getD 10 (.Pass ⟨0, 0, 0, 0⟩), PySem.Challenge.pw_oneroom_k41_first_fault.main.body.getD 11 (.Pass ⟨0, 0, 0, 0⟩), PySem.Challenge.pw_oneroom_k41_first_fault.main.body.getD 12 (.Pass ⟨0, 0, 0, 0⟩), PySem.Challenge.pw_oneroom_k41_first_fault.main.body.getD 13 (.Pass ⟨0, 0, 0, 0⟩), PySem.Challenge.pw_oneroom_k41_first_fault.main.body.getD 14 (.Pass ⟨0, 0, 0, 0⟩), PySem.Challenge.pw_oneroom_k41_first_fault.main.body.getD 15 (.Pass ⟨0, 0, 0, 0⟩), PySem.Challenge.pw_oneroom_k41_first_fault.main.body.getD 16 (.Pass ⟨0, 0, 0, 0⟩), PySem.Challenge.pw_oneroom_k41_first_fault.main.body.getD 17 (.Pass ⟨0, 0, 0, 0⟩), PySem.Challenge.pw_oneroom_k41_first_fault.main.body.getD 18 (.Pass ⟨0, 0, 0, 0⟩), PySem.Challenge.pw_oneroom_k41_first_fault.main.body.getD 19 (.Pass ⟨0, 0, 0, 0⟩), PySem.Challenge.pw_oneroom_k41_first_fault.main.body.getD 20 (.Pass ⟨0, 0, 0, 0⟩), PySem.Challenge.pw_oneroom_k41_first_fault.main.body.getD 21 (.Pass ⟨0, 0, 0, 0⟩), PySem.Challenge.pw_oneroom_k41_first_fault.main.body.getD 22 (.Pass ⟨0, 0, 0, 0⟩)]
theorem PySem.W.Fast.te8644980292556704720 : PySem.W.Fast.tw8644980292556704720 = PySem.W.Fast.tw8644980292556704720 := rfl
def PySem.W.Fast.tw11381832010928522770 : List PySem.Stmt := [PySem.Challenge.pw_oneroom_k41_first_fault.main.body.getD 7 (.Pass ⟨0, 0, 0, 0⟩)]
theorem PySem.W.Fast.te11381832010928522770 : PySem.W.Fast.tw11381832010928522770 = PySem.W.Fast.tw11381832010928522770 := rfl
def PySem.W.Fast.tw2655157478385407224 : PySem.Program := { PySem.Challenge.pw_oneroom_k41_first_fault with main := { PySem.Challenge.pw_oneroom_k41_first_fault.main with body := [PySem.Challenge.pw_oneroom_k41_first_fault.main.body.getD 0 (.Pass ⟨0, 0, 0, 0⟩), PySem.Challenge.pw_oneroom_k41_first_fault.main.body.getD 2 (.Pass ⟨0, 0, 0, 0⟩), PySem.Challenge.pw_oneroom_k41_first_fault.main.body.getD 3 (.Pass ⟨0, 0, 0, 0⟩), PySem.Challenge.pw_oneroom_k41_first_fault.main.body.getD 5 (.Pass ⟨0, 0, 0, 0⟩), PySem.Challenge.pw_oneroom_k41_first_fault.main.body.getD 6 (.Pass ⟨0, 0, 0, 0⟩), PySem.Challenge.pw_oneroom_k41_first_fault.main.body.getD 7 (.Pass ⟨0, 0, 0, 0⟩), PySem.Challenge.pw_oneroom_k41_first_fault.main.body.getD 8 (.Pass ⟨0, 0, 0, 0⟩), PySem.Challenge.pw_oneroom_k41_first_fault.main.body.getD 9 (.Pass ⟨0, 0, 0, 0⟩), PySem.Challenge.pw_oneroom_k41_first_fault.main.body.getD 10 (.Pass ⟨0, 0, 0, 0⟩), PySem.Challenge.pw_oneroom_k41_first_fault.main.body.getD 11 (.Pass ⟨0, 0, 0, 0⟩), PySem.Challenge.pw_oneroom_k41_first_fault.main.body.getD 12 (.Pass ⟨0, 0, 0, 0⟩), PySem.Challenge.pw_oneroom_k41_first_fault.main.body.getD 13 (.Pass ⟨0, 0, 0, 0⟩), PySem.Challenge.pw_oneroom_k41_first_fault.main.body.getD 14 (.Pass ⟨0, 0, 0, 0⟩), PySem.Challenge.pw_oneroom_k41_first_fault.main.body.getD 16 (.Pass ⟨0, 0, 0, 0⟩), PySem.Challenge.pw_oneroom_k41_first_fault.main.body.getD 17 (.Pass ⟨0, 0, 0, 0⟩), PySem.Challenge.pw_oneroom_k41_first_fault.main.body.getD 18 (.Pass ⟨0, 0, 0, 0⟩), PySem.Challenge.pw_oneroom_k41_first_fault.main.body.getD 19 (.Pass ⟨0, 0, 0, 0⟩), PySem.Challenge.pw_oneroom_k41_first_fault.main.body.getD 20 (.Pass ⟨0, 0, 0, 0⟩), PySem.Challenge.pw_oneroom_k41_first_fault.main.body.getD 21 (.Pass ⟨0, 0, 0, 0⟩), PySem.Challenge.pw_oneroom_k41_first_fault.main.body.getD 22 (.Pass ⟨0, 0, 0, 0⟩), PySem.Challenge.pw_oneroom_k41_first_fault.main.body.getD 23 (.Pass ⟨0, 0, 0, 0⟩), PySem.Challenge.pw_oneroom_k41_first_fault.main.body.getD 24 (.Pass ⟨0, 0, 0, 0⟩), PySem.Challenge.pw_oneroom_k41_first_fault.main.body.getD 26 (.Pass ⟨0, 0, 0, 0⟩), PySem.Challenge.pw_oneroom_k41_first_fault.main.body.getD 27 (.Pass ⟨0, 0, 0, 0⟩), PySem.Challenge.pw_oneroom_k41_first_fault.main.body.getD 28 (.Pass ⟨0, 0, 0, 0⟩), PySem.Challenge.pw_oneroom_k41_first_fault.main.body.getD 29 (.Pass ⟨0, 0, 0, 0⟩), PySem.Challenge.pw_oneroom_k41_first_fault.main.body.getD 30 (.Pass ⟨0, 0, 0, 0⟩), PySem.Challenge.pw_oneroom_k41_first_fault.main.body.getD 31 (.Pass ⟨0, 0, 0, 0⟩), PySem.Challenge.pw_oneroom_k41_first_fault.main.body.getD 32 (.Pass ⟨0, 0, 0, 0⟩), PySem.Challenge.pw_oneroom_k41_first_fault.main.body.getD 33 (.Pass ⟨0, 0, 0, 0⟩), PySem.Challenge.pw_oneroom_k41_first_fault.main.body.getD 34 (.Pass ⟨0, 0, 0, 0⟩), PySem.Challenge.pw_oneroom_k41_first_fault.main.body.getD 35 (.Pass ⟨0, 0, 0, 0⟩), PySem.Challenge.pw_oneroom_k41_first_fault.main.body.getD 36 (.Pass ⟨0, 0, 0, 0⟩), PySem.Challenge.pw_oneroom_k41_first_fault.main.body.getD 37 (.Pass ⟨0, 0, 0, 0⟩)] } }
theorem PySem.W.Fast.te2655157478385407224 : PySem.W.Fast.tw2655157478385407224 = PySem.W.Fast.tw2655157478385407224 := rfl
def PySem.W.Fast.tw15818739990925652636 : List PySem.Stmt := [PySem.Challenge.pw_oneroom_k41_first_fault.main.body.getD 0 (.Pass ⟨0, 0, 0, 0⟩), PySem.Challenge.pw_oneroom_k41_first_fault.main.body.getD 1 (.Pass ⟨0, 0, 0, 0⟩), PySem.Challenge.pw_oneroom_k41_first_fault.main.body.getD 2 (.Pass ⟨0, 0, 0, 0⟩)]
theorem PySem.W.Fast.te15818739990925652636 : PySem.W.Fast.tw15818739990925652636 = PySem.W.Fast.tw15818739990925652636 := rfl
def PySem.W.Fast.tw4423200709118365663 : List PySem.Stmt := [PySem.Challenge.pw_oneroom_k41_first_fault.main.body.getD 36 (.Pass ⟨0, 0, 0, 0⟩), PySem.Challenge.pw_oneroom_k41_first_fault.main.body.getD 37 (.Pass ⟨0, 0, 0, 0⟩)]
theorem PySem.W.Fast.te4423200709118365663 : PySem.W.Fast.tw4423200709118365663 = PySem.W.Fast.tw4423200709118365663 := rfl
def PySem.W.Fast.tw12160562716144354086 : PySem.Program := PySem.Challenge.pw_oneroom_k41_first_fault
theorem PySem.W.Fast.te12160562716144354086 : PySem.Challenge.pw_oneroom_k41_first_fault = PySem.W.Fast.tw12160562716144354086 := rfl
theorem PySem.W.Fast.tw7966452336845470400 : True := trivial
theorem PySem.W.Fast.tw816502770600656069 : True := trivial
theorem PySem.W.Fast.tw13968868621001087271 : True := trivial
theorem PySem.W.Fast.tw13624491586944235848 : True := trivial
theorem PySem.W.Fast.tw4787485167014392078 : True := trivial
theorem PySem.W.Fast.tw11557452324415907311 : True := trivial
theorem PySem.W.Fast.tw1785925412610431377 : True := trivial
theorem PySem.W.Fast.tw10291078276030828984 : True := trivial
theorem PySem.W.Fast.tw16293461231295971227 : True := trivial
theorem PySem.W.Fast.tw17200937449181868508 : True := trivial
theorem PySem.W.Fast.tw6042839649520912477 : True := trivial
theorem PySem.W.Fast.tw4300110539253213184 : True := trivial
theorem PySem.W.Fast.tw8724063637660251360 : True := trivial
theorem PySem.W.Fast.tw10371408423694265600 : True := trivial
theorem PySem.W.Fast.tw1926969198285028672 : True := trivial
theorem PySem.W.Fast.tw15681146702650800480 : True := trivial
theorem PySem.W.Fast.tw16472681107053398368 : True := trivial
theorem PySem.W.Fast.tw14632469663696348608 : True := trivial
theorem PySem.W.Fast.tw13295284935419808288 : True := trivial
theorem PySem.W.Fast.tw554489528903165472 : True := trivial
theorem PySem.W.Fast.tw4401191883261424192 : True := trivial
theorem PySem.W.Fast.tw13431189177781015232 : True := trivial
theorem PySem.W.Fast.tw4766372455531148000 : True := trivial
theorem PySem.W.Fast.tw10347510675752137632 : True := trivial
theorem PySem.W.Fast.tw11765883665659299841 : True := trivial
theorem PySem.W.Fast.tw4880886371984979009 : True := trivial
theorem PySem.W.Fast.tw14522948887127143521 : True := trivial
theorem PySem.W.Fast.tw1160938948244746497 : True := trivial
theorem PySem.W.Fast.tw14541162585476201729 : True := trivial
theorem PySem.W.Fast.tw4556360612041500097 : True := trivial
theorem PySem.W.Fast.tw6899415451482775041 : True := trivial
theorem PySem.W.Fast.tw607395461180801569 : True := trivial
theorem PySem.W.Fast.tw18391295271428632161 : True := trivial
theorem PySem.W.Fast.tw8055259357538770561 : True := trivial
theorem PySem.W.Fast.tw4875005833877473985 : True := trivial
theorem PySem.W.Fast.tw3101278266049914753 : True := trivial
theorem PySem.W.Fast.tw6149323654763305889 : True := trivial
theorem PySem.W.Fast.tw14862594480568718241 : True := trivial
theorem PySem.W.Fast.tw14579277571498330081 : True := trivial
theorem PySem.W.Fast.tw578855322539718658 : True := trivial
theorem PySem.W.Fast.tw15826759666339965058 : True := trivial
theorem PySem.W.Fast.tw14894124668217251970 : True := trivial
theorem PySem.W.Fast.tw4909062698409237666 : True := trivial
theorem PySem.W.Fast.tw10407389056919704802 : True := trivial
theorem PySem.W.Fast.tw13974346421344908898 : True := trivial
theorem PySem.W.Fast.tw15607150205889869442 : True := trivial
theorem PySem.W.Fast.tw10884199525009009346 : True := trivial
theorem PySem.W.Fast.tw10437576774251560738 : True := trivial
theorem PySem.W.Fast.tw16337403555731206050 : True := trivial
theorem PySem.W.Fast.tw367211550735854562 : True := trivial
theorem PySem.W.Fast.tw197947070551083171 : True := trivial
theorem PySem.W.Fast.tw1337517856727828803 : True := trivial
theorem PySem.W.Fast.tw15411196759077731683 : True := trivial
theorem PySem.W.Fast.tw8379354085550367267 : True := trivial
theorem PySem.W.Fast.tw4529934220857048675 : True := trivial
theorem PySem.W.Fast.tw739210164671527555 : True := trivial
theorem PySem.W.Fast.tw13940592368095038211 : True := trivial
theorem PySem.W.Fast.tw17446163789492255523 : True := trivial
theorem PySem.W.Fast.tw12025643760548783939 : True := trivial
theorem PySem.W.Fast.tw866352339511245795 : True := trivial
theorem PySem.W.Fast.tw10092734139873880228 : True := trivial
theorem PySem.W.Fast.tw11477951715106157764 : True := trivial
theorem PySem.W.Fast.tw14420086069979938084 : True := trivial
theorem PySem.W.Fast.tw7238043650465270276 : True := trivial
theorem PySem.W.Fast.tw12364134764821799428 : True := trivial
theorem PySem.W.Fast.tw17721151563009899076 : True := trivial
theorem PySem.W.Fast.tw2895446885013293636 : True := trivial
theorem PySem.W.Fast.tw9305230938833992324 : True := trivial
theorem PySem.W.Fast.tw16338622335825494820 : True := trivial
theorem PySem.W.Fast.tw9079593616426529797 : True := trivial
theorem PySem.W.Fast.tw12652492889569488933 : True := trivial
theorem PySem.W.Fast.tw336386785334195269 : True := trivial
theorem PySem.W.Fast.tw6807324937680734469 : True := trivial
theorem PySem.W.Fast.tw11081219455273612613 : True := trivial
theorem PySem.W.Fast.tw18016355492205383237 : True := trivial
theorem PySem.W.Fast.tw4169714990406274661 : True := trivial
theorem PySem.W.Fast.tw13912662668126275173 : True := trivial
theorem PySem.W.Fast.tw15048996247927155557 : True := trivial
theorem PySem.W.Fast.tw8928346383672293414 : True := trivial
theorem PySem.W.Fast.tw7337870014907766950 : True := trivial
theorem PySem.W.Fast.tw13145477087271205062 : True := trivial
theorem PySem.W.Fast.tw17333282620787076358 : True := trivial
theorem PySem.W.Fast.tw11447625722140074278 : True := trivial
theorem PySem.W.Fast.tw15744158152303525158 : True := trivial
theorem PySem.W.Fast.tw10608661957227189606 : True := trivial
theorem PySem.W.Fast.tw13729256204697749958 : True := trivial
theorem PySem.W.Fast.tw9019486530921655878 : True := trivial
theorem PySem.W.Fast.tw7472614081535660646 : True := trivial
theorem PySem.W.Fast.tw4736254569051200134 : True := trivial
theorem PySem.W.Fast.tw15368014993843043078 : True := trivial
theorem PySem.W.Fast.tw11328608059513420614 : True := trivial
theorem PySem.W.Fast.tw3595107339973067975 : True := trivial
theorem PySem.W.Fast.tw325265897238295783 : True := trivial
theorem PySem.W.Fast.tw14586613511394594247 : True := trivial
theorem PySem.W.Fast.tw5951505195595403847 : True := trivial
theorem PySem.W.Fast.tw8206950019493106503 : True := trivial
theorem PySem.W.Fast.tw13550448178461215719 : True := trivial
theorem PySem.W.Fast.tw12135230764193932296 : True := trivial
theorem PySem.W.Fast.tw9930608019653351432 : True := trivial
theorem PySem.W.Fast.tw17453533357687994376 : True := trivial
theorem PySem.W.Fast.tw12710879625199772744 : True := trivial
theorem PySem.W.Fast.tw5398189299738385480 : True := trivial
theorem PySem.W.Fast.tw6370903180121511016 : True := trivial
theorem PySem.W.Fast.tw1405474261440113896 : True := trivial
theorem PySem.W.Fast.tw626160291945514280 : True := trivial
theorem PySem.W.Fast.tw6023969747972532520 : True := trivial
theorem PySem.W.Fast.tw9301029602090451272 : True := trivial
theorem PySem.W.Fast.tw12591304448588739912 : True := trivial
theorem PySem.W.Fast.tw14253963569822136648 : True := trivial
theorem PySem.W.Fast.tw17464140659859116488 : True := trivial
theorem PySem.W.Fast.tw10075216048327747016 : True := trivial
theorem PySem.W.Fast.tw4121811815498212808 : True := trivial
theorem PySem.W.Fast.tw3382899074453360104 : True := trivial
theorem PySem.W.Fast.tw5484320102683053640 : True := trivial
theorem PySem.W.Fast.tw5024007674414537384 : True := trivial
theorem PySem.W.Fast.tw17374409025761901224 : True := trivial
theorem PySem.W.Fast.tw4155289152103875368 : True := trivial
theorem PySem.W.Fast.tw15695182859532957576 : True := trivial
theorem PySem.W.Fast.tw9974839276018472872 : True := trivial
theorem PySem.W.Fast.tw12803203745319071688 : True := trivial
theorem PySem.W.Fast.tw7375088372372126696 : True := trivial
theorem PySem.W.Fast.tw18311943980431561704 : True := trivial
theorem PySem.W.Fast.tw2646131110846621672 : True := trivial
theorem PySem.W.Fast.tw17993253656462777353 : True := trivial
theorem PySem.W.Fast.tw2975901534378534985 : True := trivial
theorem PySem.W.Fast.tw9427369297988764809 : True := trivial
theorem PySem.W.Fast.tw12971614871083114633 : True := trivial
theorem PySem.W.Fast.tw14748464005762301097 : True := trivial
theorem PySem.W.Fast.tw9137195959272785097 : True := trivial
theorem PySem.W.Fast.tw17811598202352293193 : True := trivial
theorem PySem.W.Fast.tw6155314242248430953 : True := trivial
theorem PySem.W.Fast.tw10934557282141685129 : True := trivial
theorem PySem.W.Fast.tw8617742889777877481 : True := trivial
theorem PySem.W.Fast.tw7378139355502912073 : True := trivial
theorem PySem.W.Fast.tw3255507253686107753 : True := trivial
theorem PySem.W.Fast.tw625120269922264841 : True := trivial
theorem PySem.W.Fast.tw949812021019778889 : True := trivial
theorem PySem.W.Fast.tw2667830110129708905 : True := trivial
theorem PySem.W.Fast.tw5365587108894868393 : True := trivial
theorem PySem.W.Fast.tw18360116500016172266 : True := trivial
theorem PySem.W.Fast.tw11333853248170985706 : True := trivial
theorem PySem.W.Fast.tw570510726594511114 : True := trivial
theorem PySem.W.Fast.tw9262731430920579402 : True := trivial
theorem PySem.W.Fast.tw6775437644153036138 : True := trivial
theorem PySem.W.Fast.tw18079440067899597258 : True := trivial
theorem PySem.W.Fast.tw3387326571832900138 : True := trivial
theorem PySem.W.Fast.tw15332986448820380362 : True := trivial
theorem PySem.W.Fast.tw10226788596712846026 : True := trivial
theorem PySem.W.Fast.tw13801583215792514762 : True := trivial
theorem PySem.W.Fast.tw7424233776202306410 : True := trivial
theorem PySem.W.Fast.tw1252127958457781355 : True := trivial
theorem PySem.W.Fast.tw16372568698249521451 : True := trivial
theorem PySem.W.Fast.tw14450028754881076587 : True := trivial
theorem PySem.W.Fast.tw9324827218699581035 : True := trivial
theorem PySem.W.Fast.tw11830329539279350411 : True := trivial
theorem PySem.W.Fast.tw2793239082464196299 : True := trivial
theorem PySem.W.Fast.tw7194476373047905227 : True := trivial
theorem PySem.W.Fast.tw5337226017197912011 : True := trivial
theorem PySem.W.Fast.tw1114186038373624811 : True := trivial
theorem PySem.W.Fast.tw14981938468862245900 : True := trivial
theorem PySem.W.Fast.tw17198246671921586412 : True := trivial
theorem PySem.W.Fast.tw8646791765651900652 : True := trivial
theorem PySem.W.Fast.tw5478548615666913644 : True := trivial
theorem PySem.W.Fast.tw12519310860812869100 : True := trivial
theorem PySem.W.Fast.tw7254974565459775052 : True := trivial
theorem PySem.W.Fast.tw326835149758616300 : True := trivial
theorem PySem.W.Fast.tw787613832550764332 : True := trivial
theorem PySem.W.Fast.tw16877912705142476813 : True := trivial
theorem PySem.W.Fast.tw18008311531125511245 : True := trivial
theorem PySem.W.Fast.tw17729673064609267821 : True := trivial
theorem PySem.W.Fast.tw15862160596646926477 : True := trivial
theorem PySem.W.Fast.tw3558606091644730541 : True := trivial
theorem PySem.W.Fast.tw16433896024953584941 : True := trivial
theorem PySem.W.Fast.tw1191340506602973549 : True := trivial
theorem PySem.W.Fast.tw16663989663925014957 : True := trivial
theorem PySem.W.Fast.tw18110505420643841485 : True := trivial
theorem PySem.W.Fast.tw18183044219185007117 : True := trivial
theorem PySem.W.Fast.tw8359049637253101069 : True := trivial
theorem PySem.W.Fast.tw10698694950525581837 : True := trivial
theorem PySem.W.Fast.tw6048857949884573870 : True := trivial
theorem PySem.W.Fast.tw683545742617931086 : True := trivial
theorem PySem.W.Fast.tw14974368523188010350 : True := trivial
theorem PySem.W.Fast.tw7861645509707189614 : True := trivial
theorem PySem.W.Fast.tw8003464813095003630 : True := trivial
theorem PySem.W.Fast.tw15896036664895015438 : True := trivial
theorem PySem.W.Fast.tw9397345141452830286 : True := trivial
theorem PySem.W.Fast.tw437242610621826734 : True := trivial
theorem PySem.W.Fast.tw9390466899227130542 : True := trivial
theorem PySem.W.Fast.tw16996460845001088846 : True := trivial
theorem PySem.W.Fast.tw10154796075665834862 : True := trivial
theorem PySem.W.Fast.tw10102435214562069454 : True := trivial
theorem PySem.W.Fast.tw6386573534822155246 : True := trivial
theorem PySem.W.Fast.tw14747533788190726159 : True := trivial
theorem PySem.W.Fast.tw9505794427273176335 : True := trivial
theorem PySem.W.Fast.tw15514025315259257103 : True := trivial
theorem PySem.W.Fast.tw11515910626469220719 : True := trivial
theorem PySem.W.Fast.tw10092050767940332943 : True := trivial
theorem PySem.W.Fast.tw5059920923356217807 : True := trivial
theorem PySem.W.Fast.tw16207492803849543215 : True := trivial
theorem PySem.W.Fast.tw5768185214443505391 : True := trivial
theorem PySem.W.Fast.tw3349735788389213967 : True := trivial
theorem PySem.W.Fast.tw8665492727770463119 : True := trivial
theorem PySem.W.Fast.tw2123805087177267151 : True := trivial
theorem PySem.W.Fast.tw3918283534904695759 : True := trivial
theorem PySem.W.Fast.tw5988332071459350511 : True := trivial
theorem PySem.W.Fast.tw304457765658521616 : True := trivial
theorem PySem.W.Fast.tw5537646997409138000 : True := trivial
theorem PySem.W.Fast.tw5572805727721001328 : True := trivial
theorem PySem.W.Fast.tw17190241443873513968 : True := trivial
theorem PySem.W.Fast.tw3814171328956098064 : True := trivial
theorem PySem.W.Fast.tw2912754895649711632 : True := trivial
theorem PySem.W.Fast.tw11137868013055363696 : True := trivial
theorem PySem.W.Fast.tw11244023248681864912 : True := trivial
theorem PySem.W.Fast.tw5684847184742836976 : True := trivial
theorem PySem.W.Fast.tw7711264368232133360 : True := trivial
theorem PySem.W.Fast.tw4350038740961808176 : True := trivial
theorem PySem.W.Fast.tw1354791978563172144 : True := trivial
theorem PySem.W.Fast.tw8657008198635766608 : True := trivial
theorem PySem.W.Fast.tw3886218373007228816 : True := trivial
theorem PySem.W.Fast.tw3870754184738797488 : True := trivial
theorem PySem.W.Fast.tw4662364254703465456 : True := trivial
theorem PySem.W.Fast.tw13661791586903109713 : True := trivial
theorem PySem.W.Fast.tw9742795873136828593 : True := trivial
theorem PySem.W.Fast.tw16730704195259433169 : True := trivial
theorem PySem.W.Fast.tw6597556784253821169 : True := trivial
theorem PySem.W.Fast.tw17033769695969738001 : True := trivial
theorem PySem.W.Fast.tw16206385832855957809 : True := trivial
theorem PySem.W.Fast.tw3709822142541370705 : True := trivial
theorem PySem.W.Fast.tw16330064714501096785 : True := trivial
theorem PySem.W.Fast.tw3684212942028428721 : True := trivial
theorem PySem.W.Fast.tw17609471677951211953 : True := trivial
theorem PySem.W.Fast.tw12649650111104423441 : True := trivial
theorem PySem.W.Fast.tw8855922766367896145 : True := trivial
theorem PySem.W.Fast.tw12518778268824097553 : True := trivial
theorem PySem.W.Fast.tw11520042827986308913 : True := trivial
theorem PySem.W.Fast.tw1463335435120171857 : True := trivial
theorem PySem.W.Fast.tw7902716099934173137 : True := trivial
theorem PySem.W.Fast.tw569964690605408594 : True := trivial
theorem PySem.W.Fast.tw3196634020414606834 : True := trivial
theorem PySem.W.Fast.tw7973860419354182162 : True := trivial
theorem PySem.W.Fast.tw1158111462447816210 : True := trivial
theorem PySem.W.Fast.tw8473374889955077746 : True := trivial
theorem PySem.W.Fast.tw521993521056886706 : True := trivial
theorem PySem.W.Fast.tw3696099381997291571 : True := trivial
theorem PySem.W.Fast.tw4606141247658964083 : True := trivial
theorem PySem.W.Fast.tw5065866755173186739 : True := trivial
theorem PySem.W.Fast.tw10686140096883783923 : True := trivial
theorem PySem.W.Fast.tw12621743246146060691 : True := trivial
theorem PySem.W.Fast.tw9666474098795136403 : True := trivial
theorem PySem.W.Fast.tw5652971406358954675 : True := trivial
theorem PySem.W.Fast.tw10295017573769000787 : True := trivial
theorem PySem.W.Fast.tw6114147626804212691 : True := trivial
theorem PySem.W.Fast.tw4910256088475126771 : True := trivial
theorem PySem.W.Fast.tw17749782096229669875 : True := trivial
theorem PySem.W.Fast.tw6738017660467306804 : True := trivial
theorem PySem.W.Fast.tw15906217379342903796 : True := trivial
theorem PySem.W.Fast.tw1172907839916976788 : True := trivial
theorem PySem.W.Fast.tw5480050527950604980 : True := trivial
theorem PySem.W.Fast.tw115080655736271572 : True := trivial
theorem PySem.W.Fast.tw9794124216826608500 : True := trivial
theorem PySem.W.Fast.tw9205051692734411764 : True := trivial
theorem PySem.W.Fast.tw14803838607544185973 : True := trivial
theorem PySem.W.Fast.tw4473918211356314869 : True := trivial
theorem PySem.W.Fast.tw3268035305011532021 : True := trivial
theorem PySem.W.Fast.tw17423020142779548053 : True := trivial
theorem PySem.W.Fast.tw16433119603004417493 : True := trivial
theorem PySem.W.Fast.tw4739244335925934581 : True := trivial
theorem PySem.W.Fast.tw14521367287418936853 : True := trivial
theorem PySem.W.Fast.tw11668991812877908565 : True := trivial
theorem PySem.W.Fast.tw6648890429984424565 : True := trivial
theorem PySem.W.Fast.tw18393218004728580885 : True := trivial
theorem PySem.W.Fast.tw12428970611772669749 : True := trivial
theorem PySem.W.Fast.tw4406554682041608085 : True := trivial
theorem PySem.W.Fast.tw12432884084092307349 : True := trivial
theorem PySem.W.Fast.tw3790617712249916502 : True := trivial
theorem PySem.W.Fast.tw2715635390706752662 : True := trivial
theorem PySem.W.Fast.tw11242291293636694230 : True := trivial
theorem PySem.W.Fast.tw5665142250432414998 : True := trivial
theorem PySem.W.Fast.tw18353908118807048502 : True := trivial
theorem PySem.W.Fast.tw6817558073974582614 : True := trivial
theorem PySem.W.Fast.tw5904764389374983510 : True := trivial
theorem PySem.W.Fast.tw1554823381127803350 : True := trivial
theorem PySem.W.Fast.tw11648258977641326102 : True := trivial
theorem PySem.W.Fast.tw1284464143185035798 : True := trivial
theorem PySem.W.Fast.tw16575253361449515574 : True := trivial
theorem PySem.W.Fast.tw13027872329258551958 : True := trivial
theorem PySem.W.Fast.tw188462473161474742 : True := trivial
theorem PySem.W.Fast.tw15357595342525059798 : True := trivial
theorem PySem.W.Fast.tw14842062666840208150 : True := trivial
theorem PySem.W.Fast.tw15450683109649907478 : True := trivial
theorem PySem.W.Fast.tw5049781198524915542 : True := trivial
theorem PySem.W.Fast.tw8263008954848199574 : True := trivial
theorem PySem.W.Fast.tw13824996001153137590 : True := trivial
theorem PySem.W.Fast.tw7790124025889446870 : True := trivial
theorem PySem.W.Fast.tw13540353843179666487 : True := trivial
theorem PySem.W.Fast.tw9338800422708661303 : True := trivial
theorem PySem.W.Fast.tw9252878715695142039 : True := trivial
theorem PySem.W.Fast.tw3345600296091940023 : True := trivial
theorem PySem.W.Fast.tw15128991936330955991 : True := trivial
theorem PySem.W.Fast.tw7097726140477619543 : True := trivial
theorem PySem.W.Fast.tw16978739999298792919 : True := trivial
theorem PySem.W.Fast.tw8968511350511183479 : True := trivial
theorem PySem.W.Fast.tw17818252914220715639 : True := trivial
theorem PySem.W.Fast.tw16934812740215156503 : True := trivial
theorem PySem.W.Fast.tw6120560694630388535 : True := trivial
theorem PySem.W.Fast.tw14216529943913242455 : True := trivial
theorem PySem.W.Fast.tw4897967164435855223 : True := trivial
theorem PySem.W.Fast.tw8369513590440077400 : True := trivial
theorem PySem.W.Fast.tw18385829591491292312 : True := trivial
theorem PySem.W.Fast.tw17862613710142920952 : True := trivial
theorem PySem.W.Fast.tw16915849563536486840 : True := trivial
theorem PySem.W.Fast.tw9476199125548271192 : True := trivial
theorem PySem.W.Fast.tw493542281896866488 : True := trivial
theorem PySem.W.Fast.tw497217981755892472 : True := trivial
theorem PySem.W.Fast.tw1593528237017736984 : True := trivial
theorem PySem.W.Fast.tw4307558102865382232 : True := trivial
theorem PySem.W.Fast.tw15851034187631908760 : True := trivial
theorem PySem.W.Fast.tw1472362078900131832 : True := trivial
theorem PySem.W.Fast.tw14187463807325380633 : True := trivial
theorem PySem.W.Fast.tw2479512860430859289 : True := trivial
theorem PySem.W.Fast.tw4018740037003982905 : True := trivial
theorem PySem.W.Fast.tw5097431559607066713 : True := trivial
theorem PySem.W.Fast.tw4321234955119002777 : True := trivial
theorem PySem.W.Fast.tw18141986317595963833 : True := trivial
theorem PySem.W.Fast.tw17276856187731638713 : True := trivial
theorem PySem.W.Fast.tw13827007924140001753 : True := trivial
theorem PySem.W.Fast.tw3474681258823444025 : True := trivial
theorem PySem.W.Fast.tw10737809172809308857 : True := trivial
theorem PySem.W.Fast.tw3938341424711122745 : True := trivial
theorem PySem.W.Fast.tw17354508667406712665 : True := trivial
theorem PySem.W.Fast.tw10322832377298722745 : True := trivial
theorem PySem.W.Fast.tw6543805048824552377 : True := trivial
theorem PySem.W.Fast.tw16305545404868834297 : True := trivial
theorem PySem.W.Fast.tw13357366558148490362 : True := trivial
theorem PySem.W.Fast.tw5359728406179348794 : True := trivial
theorem PySem.W.Fast.tw6193538890882149690 : True := trivial
theorem PySem.W.Fast.tw5011579267357780314 : True := trivial
theorem PySem.W.Fast.tw8225623938037741914 : True := trivial
theorem PySem.W.Fast.tw7284955394450593210 : True := trivial
theorem PySem.W.Fast.tw10708775212194846170 : True := trivial
theorem PySem.W.Fast.tw12093956628921241114 : True := trivial
theorem PySem.W.Fast.tw7175296627839539802 : True := trivial
theorem PySem.W.Fast.tw409022762997616346 : True := trivial
theorem PySem.W.Fast.tw4833986694118420218 : True := trivial
theorem PySem.W.Fast.tw10513363922474883834 : True := trivial
theorem PySem.W.Fast.tw6039539400560128826 : True := trivial
theorem PySem.W.Fast.tw13750220097497537402 : True := trivial
theorem PySem.W.Fast.tw3649120346983826330 : True := trivial
theorem PySem.W.Fast.tw17361882074860959674 : True := trivial
theorem PySem.W.Fast.tw15230061942966281243 : True := trivial
theorem PySem.W.Fast.tw8997067859944922139 : True := trivial
theorem PySem.W.Fast.tw6946239295294636091 : True := trivial
theorem PySem.W.Fast.tw15221327666009176155 : True := trivial
theorem PySem.W.Fast.tw1936639610862018683 : True := trivial
theorem PySem.W.Fast.tw16355660185707914395 : True := trivial
theorem PySem.W.Fast.tw3608278185682207963 : True := trivial
theorem PySem.W.Fast.tw6525859716561118619 : True := trivial
theorem PySem.W.Fast.tw12056031846933470683 : True := trivial
theorem PySem.W.Fast.tw10627348452381546971 : True := trivial
theorem PySem.W.Fast.tw4717251126933728763 : True := trivial
theorem PySem.W.Fast.tw10610434739799199259 : True := trivial
theorem PySem.W.Fast.tw14923999218748568155 : True := trivial
theorem PySem.W.Fast.tw510757358922293883 : True := trivial
theorem PySem.W.Fast.tw4435641748550787771 : True := trivial
theorem PySem.W.Fast.tw6358878500719833915 : True := trivial
theorem PySem.W.Fast.tw5349656229561962395 : True := trivial
theorem PySem.W.Fast.tw10116522401317467131 : True := trivial
theorem PySem.W.Fast.tw257165808293361724 : True := trivial
theorem PySem.W.Fast.tw10164273901110364252 : True := trivial
theorem PySem.W.Fast.tw9786535812006579292 : True := trivial
theorem PySem.W.Fast.tw8774496581174933596 : True := trivial
theorem PySem.W.Fast.tw9381692744129391804 : True := trivial
theorem PySem.W.Fast.tw4622856826805215676 : True := trivial
theorem PySem.W.Fast.tw3051160106337765852 : True := trivial
theorem PySem.W.Fast.tw6075311899975161308 : True := trivial
theorem PySem.W.Fast.tw6287199776081584604 : True := trivial
theorem PySem.W.Fast.tw14814649162912458236 : True := trivial
theorem PySem.W.Fast.tw2744334522555931132 : True := trivial
theorem PySem.W.Fast.tw18013596934884398620 : True := trivial
theorem PySem.W.Fast.tw2475951688943053468 : True := trivial
theorem PySem.W.Fast.tw4922976659522457308 : True := trivial
theorem PySem.W.Fast.tw15288751731190698940 : True := trivial
theorem PySem.W.Fast.tw15556897051760890844 : True := trivial
theorem PySem.W.Fast.tw4920465077169475580 : True := trivial
theorem PySem.W.Fast.tw3064770555461831709 : True := trivial
theorem PySem.W.Fast.tw13443545280976316509 : True := trivial
theorem PySem.W.Fast.tw3127307375374695581 : True := trivial
theorem PySem.W.Fast.tw7195584731358309565 : True := trivial
theorem PySem.W.Fast.tw9672329680255456509 : True := trivial
theorem PySem.W.Fast.tw15820696390979148061 : True := trivial
theorem PySem.W.Fast.tw1600562957419479357 : True := trivial
theorem PySem.W.Fast.tw15860785682809876829 : True := trivial
theorem PySem.W.Fast.tw16002982234670214557 : True := trivial
theorem PySem.W.Fast.tw17247515270181998077 : True := trivial
theorem PySem.W.Fast.tw11979397621276358205 : True := trivial
theorem PySem.W.Fast.tw2761989492739581533 : True := trivial
theorem PySem.W.Fast.tw14525281008844335837 : True := trivial
theorem PySem.W.Fast.tw5710691516862694237 : True := trivial
theorem PySem.W.Fast.tw11297577337073736573 : True := trivial
theorem PySem.W.Fast.tw8090467673506490237 : True := trivial
theorem PySem.W.Fast.tw2928060572125826110 : True := trivial
theorem PySem.W.Fast.tw9961989459902919774 : True := trivial
theorem PySem.W.Fast.tw15613599152969101854 : True := trivial
theorem PySem.W.Fast.tw18164963287582525150 : True := trivial
theorem PySem.W.Fast.tw10658646393461716734 : True := trivial
theorem PySem.W.Fast.tw1278144155421043550 : True := trivial
theorem PySem.W.Fast.tw15881471426264714174 : True := trivial
theorem PySem.W.Fast.tw11230139221340885311 : True := trivial
theorem PySem.W.Fast.tw5888580511613703551 : True := trivial
theorem PySem.W.Fast.tw12544874587295342975 : True := trivial
theorem PySem.W.Fast.tw2209085706370471327 : True := trivial
theorem PySem.W.Fast.tw14891853534466075039 : True := trivial
theorem PySem.W.Fast.tw9441176917660993023 : True := trivial
theorem PySem.W.Fast.tw1287970322776492543 : True := trivial
theorem PySem.W.Fast.tw14997885460403471871 : True := trivial
theorem PySem.W.Fast.tw2300963814601654943 : True := trivial
theorem PySem.W.Fast.tw269069463918028543 : True := trivial
theorem PySem.W.Fast.tw5223288181126343423 : True := trivial
theorem PySem.W.Fast.tw13646004805455131551 : True := trivial
theorem PySem.W.Fast.tw11201390668452523007 : True := trivial
open PySem PySem.W PyProof.Rows
set_option maxRecDepth 100000 in
set_option maxHeartbeats 0 in
theorem PySem.Challenge.cw_oneroom_k41_first_fault_holds : PySem.Challenge.rw_oneroom_k41_first_fault.Holds := by
  w_on; o_law; k_head; (case hw => w_witness2)
  k_fill
  refine L2.walk_ofK (l := PySem.Challenge.rw_oneroom_k41_first_fault) (n := 63) (k := 9) (x := "_law_script") (CX := L2.CX0) (sp := K41.sp_law) rfl (by decide) rfl ⟨rfl, by decide, by decide⟩ (fun w h Y => PySem.W.kIn_of Y) ?F ?S ?C
  case F =>
    intro w mg fa h KX G hmg
    refine' K41.txt_mk KX G hmg ?aC_Row ?aC_Take ?aC_Put ?aC_NoRow ?x_NoRow ?kc_NoRow_NoRow ?xc_NoRow ?a_Row_init ?l_Row_init ?c_Row_init ?k_Row_init ?a_Row_covers ?l_Row_covers ?c_Row_covers ?k_Row_covers ?a_Row_covered ?l_Row_covered ?c_Row_covered ?k_Row_covered ?a_Take_init ?l_Take_init ?c_Take_init ?k_Take_init ?a_Take_stays ?l_Take_stays ?c_Take_stays ?k_Take_stays ?a_Take_reads ?l_Take_reads ?c_Take_reads ?k_Take_reads ?a_Take_writes ?l_Take_writes ?c_Take_writes ?k_Take_writes ?a_Take_told ?l_Take_told ?c_Take_told ?k_Take_told ?a_Put_init ?l_Put_init ?c_Put_init ?k_Put_init ?a_Put_reads ?l_Put_reads ?c_Put_reads ?k_Put_reads ?a_Put_writes ?l_Put_writes ?c_Put_writes ?k_Put_writes ?a_Put_told ?l_Put_told ?c_Put_told ?k_Put_told ?a_row_of ?l_row_of ?c_row_of ?k_row_of ?a_tells_take ?l_tells_take ?c_tells_take ?k_tells_take ?a_tells_put ?l_tells_put ?c_tells_put ?k_tells_put ?a_are_signs ?l_are_signs ?c_are_signs ?k_are_signs ?a_is_sign ?l_is_sign ?c_is_sign ?k_is_sign ?a_is_whole_from ?l_is_whole_from ?c_is_whole_from ?k_is_whole_from ?a_is_whole ?l_is_whole ?c_is_whole ?k_is_whole ?a_judge ?l_judge ?c_judge ?k_judge ?a_fits_in_size ?l_fits_in_size ?c_fits_in_size ?k_fits_in_size ?a_is_length ?l_is_length ?c_is_length ?k_is_length ?a_first_wrong_row ?l_first_wrong_row ?c_first_wrong_row ?k_first_wrong_row ?a_is_fitting_row ?l_is_fitting_row ?c_is_fitting_row ?k_is_fitting_row ?a_covered_twice ?l_covered_twice ?c_covered_twice ?k_covered_twice ?a_lacking ?l_lacking ?c_lacking ?k_lacking ?a_read_late ?l_read_late ?c_read_late ?k_read_late ?a_cell_at ?l_cell_at ?c_cell_at ?k_cell_at ?a_mixed ?l_mixed ?c_mixed ?k_mixed ?a_rows ?l_rows ?c_rows ?k_rows ?a_other ?l_other ?c_other ?k_other ?a_changed ?l_changed ?c_changed ?k_changed ?a_length ?l_length ?c_length ?k_length ?a_is_row ?l_is_row ?c_is_row ?k_is_row ?a_end ?l_end ?c_end ?k_end ?a_first ?l_first ?c_first ?k_first ?a_cells ?l_cells ?c_cells ?k_cells ?a_stays ?l_stays ?c_stays ?k_stays ?a_law ?l_law ?c_law ?k_law ?pg_Row ?hd_Row ?po_Row ?sa_Row ?na_Row_count ?na_Row_to ?pg_Take ?hd_Take ?po_Take ?sa_Take ?na_Take_count ?na_Take_source ?na_Take_to ?mk_Take ?in_Take ?fn_Take ?kp_Take ?pg_Put ?hd_Put ?po_Put ?sa_Put ?na_Put_count ?na_Put_signs ?na_Put_to ?mk_Put ?in_Put ?fn_Put ?kp_Put ?ma_Put_covered ?mf_Put_covered ?mp_Put_covered ?ma_Put_covers ?mf_Put_covers ?mp_Put_covers ?ma_Put_reads ?mf_Put_reads ?mp_Put_reads ?ma_Put_writes ?mf_Put_writes ?mp_Put_writes ?ma_Take_covered ?mf_Take_covered ?mp_Take_covered ?ma_Take_covers ?mf_Take_covers ?mp_Take_covers ?ma_Take_reads ?mf_Take_reads ?mp_Take_reads ?ma_Take_stays ?mf_Take_stays ?mp_Take_stays ?ma_Take_writes ?mf_Take_writes ?mp_Take_writes ?bs_Row_init ?br_Row_init ?bf_Row_init ?bk_Row_init ?ia_Put ?ib_Put ?it_Put ?im_Put ?ia_Take ?ib_Take ?it_Take ?im_Take ?ik_Put_Take ?ik_Take_Take ?aG_MOST ?n_abs ?n_all ?n_bool ?n_enumerate ?n_int ?n_isinstance ?n_len ?n_list ?n_max ?n_min ?n_range ?n_tuple
    (case aC_Row => k_is)
    (case aC_Take => k_is)
    (case aC_Put => k_is)
    (case aC_NoRow => k_is)
    (case x_NoRow => kernel_rfl)
    (case kc_NoRow_NoRow => kernel_rfl)
    (case xc_NoRow => kernel_rfl)
    (case a_Row_init => k_is)
    (case l_Row_init => k_is)
    (case c_Row_init => k_is)
    (case k_Row_init => k_is)
    (case a_Row_covers => k_is)
    (case l_Row_covers => k_is)
    (case c_Row_covers => k_is)
    (case k_Row_covers => k_is)
    (case a_Row_covered => k_is)
    (case l_Row_covered => k_is)
    (case c_Row_covered => k_is)
    (case k_Row_covered => k_is)
    (case a_Take_init => k_is)
    (case l_Take_init => k_is)
    (case c_Take_init => k_is)
    (case k_Take_init => k_is)
    (case a_Take_stays => k_is)
    (case l_Take_stays => k_is)
    (case c_Take_stays => k_is)
    (case k_Take_stays => k_is)
    (case a_Take_reads => k_is)
    (case l_Take_reads => k_is)
    (case c_Take_reads => k_is)
    (case k_Take_reads => k_is)
    (case a_Take_writes => k_is)
    (case l_Take_writes => k_is)
    (case c_Take_writes => k_is)
    (case k_Take_writes => k_is)
    (case a_Take_told => k_is)
    (case l_Take_told => k_is)
    (case c_Take_told => k_is)
    (case k_Take_told => k_is)
    (case a_Put_init => k_is)
    (case l_Put_init => k_is)
    (case c_Put_init => k_is)
    (case k_Put_init => k_is)
    (case a_Put_reads => k_is)
    (case l_Put_reads => k_is)
    (case c_Put_reads => k_is)
    (case k_Put_reads => k_is)
    (case a_Put_writes => k_is)
    (case l_Put_writes => k_is)
    (case c_Put_writes => k_is)
    (case k_Put_writes => k_is)
    (case a_Put_told => k_is)
    (case l_Put_told => k_is)
    (case c_Put_told => k_is)
    (case k_Put_told => k_is)
    (case a_row_of => k_is)
    (case l_row_of => k_is)
    (case c_row_of => k_is)
    (case k_row_of => k_is)
    (case a_tells_take => k_is)
    (case l_tells_take => k_is)
    (case c_tells_take => k_is)
    (case k_tells_take => k_is)
    (case a_tells_put => k_is)
    (case l_tells_put => k_is)
    (case c_tells_put => k_is)
    (case k_tells_put => k_is)
    (case a_are_signs => k_is)
    (case l_are_signs => k_is)
    (case c_are_signs => k_is)
    (case k_are_signs => k_is)
    (case a_is_sign => k_is)
    (case l_is_sign => k_is)
    (case c_is_sign => k_is)
    (case k_is_sign => k_is)
    (case a_is_whole_from => k_is)
    (case l_is_whole_from => k_is)
    (case c_is_whole_from => k_is)
    (case k_is_whole_from => k_is)
    (case a_is_whole => k_is)
    (case l_is_whole => k_is)
    (case c_is_whole => k_is)
    (case k_is_whole => k_is)
    (case a_judge => k_is)
    (case l_judge => k_is)
    (case c_judge => k_is)
    (case k_judge => k_is)
    (case a_fits_in_size => k_is)
    (case l_fits_in_size => k_is)
    (case c_fits_in_size => k_is)
    (case k_fits_in_size => k_is)
    (case a_is_length => k_is)
    (case l_is_length => k_is)
    (case c_is_length => k_is)
    (case k_is_length => k_is)
    (case a_first_wrong_row => k_is)
    (case l_first_wrong_row => k_is)
    (case c_first_wrong_row => k_is)
    (case k_first_wrong_row => k_is)
    (case a_is_fitting_row => k_is)
    (case l_is_fitting_row => k_is)
    (case c_is_fitting_row => k_is)
    (case k_is_fitting_row => k_is)
    (case a_covered_twice => k_is)
    (case l_covered_twice => k_is)
    (case c_covered_twice => k_is)
    (case k_covered_twice => k_is)
    (case a_lacking => k_is)
    (case l_lacking => k_is)
    (case c_lacking => k_is)
    (case k_lacking => k_is)
    (case a_read_late => k_is)
    (case l_read_late => k_is)
    (case c_read_late => k_is)
    (case k_read_late => k_is)
    (case a_cell_at => k_is)
    (case l_cell_at => k_is)
    (case c_cell_at => k_is)
    (case k_cell_at => k_is)
    (case a_mixed => k_is)
    (case l_mixed => k_is)
    (case c_mixed => k_is)
    (case k_mixed => k_is)
    (case a_rows => k_is)
    (case l_rows => k_is)
    (case c_rows => k_is)
    (case k_rows => k_is)
    (case a_other => k_is)
    (case l_other => k_is)
    (case c_other => k_is)
    (case k_other => k_is)
    (case a_changed => k_is)
    (case l_changed => k_is)
    (case c_changed => k_is)
    (case k_changed => k_is)
    (case a_length => k_is)
    (case l_length => k_is)
    (case c_length => k_is)
    (case k_length => k_is)
    (case a_is_row => k_is)
    (case l_is_row => k_is)
    (case c_is_row => k_is)
    (case k_is_row => k_is)
    (case a_end => k_is)
    (case l_end => k_is)
    (case c_end => k_is)
    (case k_end => k_is)
    (case a_first => k_is)
    (case l_first => k_is)
    (case c_first => k_is)
    (case k_first => k_is)
    (case a_cells => k_is)
    (case l_cells => k_is)
    (case c_cells => k_is)
    (case k_cells => k_is)
    (case a_stays => k_is)
    (case l_stays => k_is)
    (case c_stays => k_is)
    (case k_stays => k_is)
    (case a_law => k_is)
    (case l_law => k_is)
    (case c_law => k_is)
    (case k_law => k_is)
    (case pg_Row => k_is)
    (case hd_Row => k_is)
    (case po_Row => k_is)
    (case sa_Row => k_is)
    (case na_Row_count => k_is)
    (case na_Row_to => k_is)
    (case pg_Take => k_is)
    (case hd_Take => k_is)
    (case po_Take => k_is)
    (case sa_Take => k_is)
    (case na_Take_count => k_is)
    (case na_Take_source => k_is)
    (case na_Take_to => k_is)
    (case mk_Take => k_is)
    (case in_Take => k_is)
    (case fn_Take => k_is)
    (case kp_Take => k_is)
    (case pg_Put => k_is)
    (case hd_Put => k_is)
    (case po_Put => k_is)
    (case sa_Put => k_is)
    (case na_Put_count => k_is)
    (case na_Put_signs => k_is)
    (case na_Put_to => k_is)
    (case mk_Put => k_is)
    (case in_Put => k_is)
    (case fn_Put => k_is)
    (case kp_Put => k_is)
    (case ma_Put_covered => k_is)
    (case mf_Put_covered => k_is)
    (case mp_Put_covered => k_is)
    (case ma_Put_covers => k_is)
    (case mf_Put_covers => k_is)
    (case mp_Put_covers => k_is)
    (case ma_Put_reads => k_is)
    (case mf_Put_reads => k_is)
    (case mp_Put_reads => k_is)
    (case ma_Put_writes => k_is)
    (case mf_Put_writes => k_is)
    (case mp_Put_writes => k_is)
    (case ma_Take_covered => k_is)
    (case mf_Take_covered => k_is)
    (case mp_Take_covered => k_is)
    (case ma_Take_covers => k_is)
    (case mf_Take_covers => k_is)
    (case mp_Take_covers => k_is)
    (case ma_Take_reads => k_is)
    (case mf_Take_reads => k_is)
    (case mp_Take_reads => k_is)
    (case ma_Take_stays => k_is)
    (case mf_Take_stays => k_is)
    (case mp_Take_stays => k_is)
    (case ma_Take_writes => k_is)
    (case mf_Take_writes => k_is)
    (case mp_Take_writes => k_is)
    (case bs_Row_init => k_is)
    (case br_Row_init => k_is)
    (case bf_Row_init => k_is)
    (case bk_Row_init => k_is)
    (case ia_Put => k_is)
    (case ib_Put => k_is)
    (case it_Put => k_is)
    (case im_Put => k_is)
    (case ia_Take => k_is)
    (case ib_Take => k_is)
    (case it_Take => k_is)
    (case im_Take => k_is)
    (case ik_Put_Take => kernel_rfl)
    (case ik_Take_Take => kernel_rfl)
    (case aG_MOST => k_is)
    (case n_abs => k_is)
    (case n_all => k_is)
    (case n_bool => k_is)
    (case n_enumerate => k_is)
    (case n_int => k_is)
    (case n_isinstance => k_is)
    (case n_len => k_is)
    (case n_list => k_is)
    (case n_max => k_is)
    (case n_min => k_is)
    (case n_range => k_is)
    (case n_tuple => k_is)
  case S => exact fun K H a ns hl hO hS => ⟨a, ns, rfl, hS, hl, fun _ => rfl⟩
  case C => exact fun _ _ _ _ z => z
#print axioms PySem.Challenge.cw_oneroom_k41_first_fault_holds

